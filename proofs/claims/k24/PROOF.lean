import PyProof.Rows.All
import Wide.All
import OpenK.AllK
import Wide.FinOn
import Lean
import PyProof.EqAt
import PyProof.EqKinds
import PyProof.TupleCall
import PySem.Challenge.RW_risecount_k24_bases_there_and_back
section
-- CHANGE: your row's module here, as the last of these rows
set_option Elab.async false
set_option linter.all false
set_option maxRecDepth 100000
/-! THE HAND LAYER, for ints, bools, texts, own classes, LISTS and tuples (index, slices, in, append, pop ..), calls, loops. Paste it whole ahead of your own text; what your proof does not reach may be deleted. -/
namespace L2
open PySem PySem.Spec PyProof.Rows

/-- a key: an int or a str -/
abbrev Key := Sum Int Str
def keyIs : Key → Value → Bool
  | .inl k, v => Value.isInt k v
  | .inr x, v => Value.isStrOf x v
def keyH (w : World) : Key → Int
  | .inl k => hashInt k
  | .inr x => hashStr w x
theorem keyIs_shape : ∀ {k : Key} {v : Value}, keyIs k v = true → (∃ i t, k = Sum.inl i ∧ v = Value.int i t) ∨ (∃ x t, k = Sum.inr x ∧ v = Value.str x t)
  | .inl i, v, h => by
    obtain ⟨t, e⟩ := Value.isInt_shape (k := i) (v := v) h
    exact .inl ⟨i, t, rfl, e⟩
  | .inr x, v, h => by
    obtain ⟨t, e⟩ := Value.isStrOf_shape (x := x) (v := v) h
    exact .inr ⟨x, t, rfl, e⟩
theorem keyIs_int (i : Int) (t : Tok) : keyIs (.inl i) (.int i t) = true := by simp [keyIs, Value.isInt]
theorem keyIs_str (x : Str) (t : Tok) : keyIs (.inr x) (.str x t) = true := by simp [keyIs, Value.isStrOf]
theorem key_ll (a b : Int) : decide ((Sum.inl a : Key) = Sum.inl b) = (a == b) := by
  by_cases e : a = b
  · subst e; simp
  · have h : ¬ (Sum.inl a : Key) = Sum.inl b := fun q => e (Sum.inl.inj q)
    rw [decide_eq_false h]
    exact (beq_eq_false_iff_ne.mpr e).symm
theorem key_rr (a b : Str) : decide ((Sum.inr a : Key) = Sum.inr b) = decide (a = b) := by
  by_cases e : a = b
  · subst e; simp
  · have h : ¬ (Sum.inr a : Key) = Sum.inr b := fun q => e (Sum.inr.inj q)
    rw [decide_eq_false h, decide_eq_false e]
theorem key_lr (a : Int) (b : Str) : decide ((Sum.inl a : Key) = Sum.inr b) = false := decide_eq_false (fun q => nomatch q)
theorem key_rl (a : Str) (b : Int) : decide ((Sum.inr a : Key) = Sum.inl b) = false := decide_eq_false (fun q => nomatch q)

def mixKind (prog : Program) (w : World) : PySem.KeyKind prog w Key where
  is := keyIs
  hash := keyH w
  inj := fun v a b ha hb => by
    rcases keyIs_shape ha with ⟨i, t, rfl, rfl⟩ | ⟨x, t, rfl, rfl⟩
    · rcases keyIs_shape hb with ⟨j, u, rfl, e⟩ | ⟨y, u, rfl, e⟩
      · injection e with e1 _; rw [e1]
      · exact nomatch e
    · rcases keyIs_shape hb with ⟨j, u, rfl, e⟩ | ⟨y, u, rfl, e⟩
      · exact nomatch e
      · injection e with e1 _; rw [e1]
  byValue := fun k v h => by
    rcases keyIs_shape h with ⟨i, t, rfl, rfl⟩ | ⟨x, t, rfl, rfl⟩ <;> rfl
  pyHash := fun hv h => by
    rcases keyIs_shape hv with ⟨i, t, rfl, rfl⟩ | ⟨x, t, rfl, rfl⟩
    · exact wpAny_pyHash_int h
    · exact wpAny_pyHash_str h
  eqBool := fun hu hv h => by
    rcases keyIs_shape hu with ⟨i, t, rfl, rfl⟩ | ⟨x, t, rfl, rfl⟩
    · rcases keyIs_shape hv with ⟨j, u, rfl, rfl⟩ | ⟨y, u, rfl, rfl⟩
      · rw [key_ll] at h; exact wpAny_eqBool_int h
      · rw [key_lr] at h; exact SeqAt.EqAt.int_str i t y u _ _ _ _ h
    · rcases keyIs_shape hv with ⟨j, u, rfl, rfl⟩ | ⟨y, u, rfl, rfl⟩
      · rw [key_rl] at h; exact SeqAt.EqAt.str_int x t j u _ _ _ _ h
      · rw [key_rr] at h; exact wpAny_eqBool_str h
  «strs» := fun k x t v h => by
    rcases keyIs_shape h with ⟨i, u, rfl, e⟩ | ⟨y, u, rfl, e⟩
    · exact nomatch e
    · injection e with e1 _
      subst e1
      cases v <;> rfl

theorem mixKind_is (prog : Program) (w : World) (k : Key) (v : Value) : (mixKind prog w).is k v = keyIs k v := rfl
theorem mixKind_int (prog : Program) (w : World) (i : Int) (t : Tok) : (mixKind prog w).is (.inl i) (.int i t) = true := keyIs_int i t
theorem mixKind_str (prog : Program) (w : World) (x : Str) (t : Tok) : (mixKind prog w).is (.inr x) (.str x t) = true := keyIs_str x t
end L2

namespace L2
open PySem PySem.Spec PyProof.Rows

/-- a value, without the heap -/
inductive V where
  | non | bl (b : Bool) | int (i : Int) | str (x : Str) | byt (b : Array UInt8) | flt (b : UInt64) | ref (a : Addr) | ty (n : String)
  deriving DecidableEq

def RelV : V → Value → Prop
  | .non, u => u = Value.none
  | .bl b, u => u = Value.bool b
  | .int i, u => ∃ t, u = Value.int i t
  | .str x, u => ∃ t, u = Value.str x t
  | .byt b, u => ∃ t, u = Value.bytes b t
  | .flt b, u => ∃ t, u = Value.float b t
  | .ref a, u => u = Value.ref a
  | .ty n, u => u = Value.type n

abbrev Vals : List V → List Value → Prop := Paired RelV
theorem Vals.length {xs : List V} {us : List Value} (r : Vals xs us) : xs.length = us.length := Paired.length r
theorem Vals.get : ∀ {xs : List V} {us : List Value} {i : Nat} {x : V}, Vals xs us → xs[i]? = some x → ∃ u, us[i]? = some u ∧ RelV x u
  | _, _, _, _, .nil, e => by simp at e
  | _, _, 0, _, .cons r _, e => by simp at e; subst e; exact ⟨_, rfl, r⟩
  | _, _, i + 1, x, .cons _ t, e => by
    obtain ⟨u, h1, h2⟩ := Vals.get (i := i) (x := x) t (by simpa using e)
    exact ⟨u, by simpa using h1, h2⟩
theorem Vals.set {x : V} {u : Value} (r : RelV x u) : ∀ {xs : List V} {us : List Value} (i : Nat), Vals xs us → Vals (xs.set i x) (us.set i u)
  | _, _, _, .nil => .nil
  | _, _, 0, .cons _ t => .cons r t
  | _, _, i + 1, .cons q t => .cons q (Vals.set r i t)
theorem Vals.append : ∀ {xs ys : List V} {us ws : List Value}, Vals xs us → Vals ys ws → Vals (xs ++ ys) (us ++ ws)
  | _, _, _, _, .nil, s => s
  | _, _, _, _, .cons r t, s => .cons r (Vals.append t s)
theorem Vals.take : ∀ {xs : List V} {us : List Value} (n : Nat), Vals xs us → Vals (xs.take n) (us.take n)
  | _, _, 0, _ => .nil
  | _, _, _ + 1, .nil => .nil
  | _, _, n + 1, .cons r t => .cons r (Vals.take n t)
theorem Vals.drop : ∀ {xs : List V} {us : List Value} (n : Nat), Vals xs us → Vals (xs.drop n) (us.drop n)
  | _, _, 0, r => r
  | _, _, _ + 1, .nil => .nil
  | _, _, n + 1, .cons _ t => Vals.drop n t
theorem Vals.none_of : ∀ {xs : List V} {us : List Value} {i : Nat}, Vals xs us → xs[i]? = none → us[i]? = none := fun {xs us i} r e => by
  have h1 := r.length
  have h2 : xs.length ≤ i := List.getElem?_eq_none_iff.mp e
  exact List.getElem?_eq_none_iff.mpr (by omega)

def RelO : Option V → Option Value → Prop
  | some v, some u => RelV v u
  | none, none => True
  | _, _ => False
def KV {κ : Type} : List (κ × V) → List (κ × Value) → Prop := Paired fun (p : κ × V) (q : κ × Value) => p.1 = q.1 ∧ RelV p.2 q.2

/-- a key of a dict (00_mix): an int or a text -/
def kV : Key → V
  | .inl i => .int i
  | .inr x => .str x

/-- what stands at a tracked address -/
inductive HO where
  /-- a list -/
  | lst (xs : List V)
  /-- a tuple (never changes) -/
  | tup (xs : List V)
  /-- a dict whose keys are ints and texts; one whose keys are tuples of ints and texts (the empty one is both) -/
  | dK (kvs : List (Key × V)) | dT (kvs : List (List Key × V))
  /-- a set of ints: its members, its size -/
  | set (S : Int → Bool) (n : Nat)
  /-- an instance of the class at C, its dict at dx, its attributes -/
  | ins (C dx : Addr) (fs : List (Str × V))
  /-- the dict of the instance at x -/
  | own (x : Addr)
  /-- the dict of an exception -/
  | xd (fs : List (Str × V))
  /-- a bound method, f of x -/
  | met (f x : Addr)
  /-- a range object lo, lo + 1, .. below hi -/
  | rng (lo hi : Int)
  /-- a thing that is known to the object (the script; a dict while a loop walks it): read, never written while it is so -/
  | frz (o : Obj) (u : HO)
  /-- a code object's table -/
  | tbl (ps : Array Value)
  /-- any other thing, by what is true of its one object (a def of one's own: SetO a S n := HO.ext fun h => ..) -/
  | ext (φ : Heap → Prop)

abbrev Hp := Addr → Option HO
def upd (H : Hp) (a : Addr) (o : HO) : Hp := fun b => if b = a then some o else H b
theorem upd_same {H : Hp} {a : Addr} {o : HO} : upd H a o a = some o := by unfold upd; rw [if_pos rfl]
theorem upd_ne {H : Hp} {a b : Addr} {o : HO} (h : b ≠ a) : upd H a o b = H b := by unfold upd; rw [if_neg h]
theorem upd_upd {H : Hp} {a : Addr} {o u : HO} : upd (upd H a o) a u = upd H a u := by
  funext b; unfold upd; split <;> rfl
/-- two objects of different content stand apart -/
theorem ne_of {H : Hp} {a b : Addr} {o u : HO} (h : H a = some o) (h' : H b = some u) (d : o ≠ u) : a ≠ b := by
  intro e; subst e; rw [h] at h'; exact d (Option.some.inj h')
theorem ne_of_none {H : Hp} {a b : Addr} {o : HO} (h : H a = some o) (h' : H b = none) : a ≠ b := by
  intro e; subst e; rw [h] at h'; cases h'

section
variable (P : Program) (w : World)
def ObjOk (H : Hp) (h : Heap) (a : Addr) : HO → Prop
  | .lst xs => xs.length ≤ sizeLine ∧ ∃ (its : List Value) (n : Nat), Vals xs its ∧ h.get? a = some { cls := .type "list", data := .seq its.toArray n }
  | .tup xs => xs.length ≤ sizeLine ∧ ∃ its : List Value, Vals xs its ∧ IsTup h a its.toArray
  | .dK kvs => kvs.length ≤ sizeLine ∧ (a == sysModules) = false ∧ ∃ vs, KV kvs vs ∧ h.DictOf (mixKind P w) a vs
  | .dT kvs => kvs.length ≤ sizeLine ∧ (a == sysModules) = false ∧ ∃ xs : List (List Key × Addr × Value),
      Paired (fun (p : List Key × V) (q : List Key × Addr × Value) => p.1 = q.1 ∧ H q.2.1 = some (.tup (p.1.map kV)) ∧ RelV p.2 q.2.2) kvs xs ∧
      ∃ o es ep, h.get? a = some o ∧ o.ExactDict ∧ o.data = .dict es ep ∧ es.toList = xs.map (entryOfKey (tupleKind (mixKind P w))) ∧ (xs.map (·.1)).Nodup
  | .set S n => h.SetOf (intKind P w) a S n
  | .ins C dx fs => H dx = some (.own a) ∧ fs.length ≤ 1000 ∧ dx ≠ a ∧ h.get? a = some (PySem.W.instObj C dx) ∧
      ∃ mA, h.Ns1 dx mA ∧ (∀ f, RelO (fs.lookup f) (mA f)) ∧ PySem.Within mA (fs.map (·.1))
  | .own _ => ∃ o, h.get? a = some o
  | .xd fs => ∃ mA, h.Ns1 a mA ∧ ∀ f, RelO (fs.lookup f) (mA f)
  | .rng lo hi => ∃ t u v, h.get? a = some { cls := .type "range", data := .fields #[.int lo t, .int hi u, .int 1 v] }
  | .frz o u => h.get? a = some o ∧ ObjOk H h a u
  | .tbl ps => h.get? a = some { cls := .none, data := .fields ps }
  | .met f x => h.get? a = some (PySem.W.methodObj (.ref f) (.ref x))
  | .ext φ => φ h ∧ (∃ o, h.get? a = some o) ∧ ∀ h1 h2 : Heap, φ h1 → (∀ o, h1.get? a = some o → h2.get? a = some o) → φ h2
/-- the abstract heap is held -/
def HOk (H : Hp) (h : Heap) : Prop := ∀ a o, H a = some o → ObjOk P w H h a o
end

section
variable {P : Program} {w : World} {H H' : Hp} {h h' : Heap} {a : Addr} {o : HO}
theorem ObjOk.lt (x : ObjOk P w H h a o) : a < h.objs.size := by
  cases o with
  | lst xs => obtain ⟨_, _, _, _, e⟩ := x; exact Heap.lt_size e
  | tup xs => obtain ⟨_, _, _, p⟩ := x; exact p.lt
  | dK kvs => obtain ⟨_, _, _, _, o, _, _, e, _⟩ := x; exact Heap.lt_size e
  | dT kvs => obtain ⟨_, _, _, _, o, _, _, e, _⟩ := x; exact Heap.lt_size e
  | set S n => obtain ⟨o, _, _, _, e, _⟩ := x; exact Heap.lt_size e
  | ins C dx fs => obtain ⟨_, _, _, e, _⟩ := x; exact Heap.lt_size e
  | own y => obtain ⟨_, e⟩ := x; exact Heap.lt_size e
  | xd fs => obtain ⟨_, ⟨_, _, _, e, _⟩, _⟩ := x; exact Heap.lt_size e
  | rng lo hi => obtain ⟨_, _, _, e⟩ := x; exact Heap.lt_size e
  | frz ob u => obtain ⟨e, _⟩ := x; exact Heap.lt_size e
  | tbl ps => exact Heap.lt_size (show h.get? a = some _ from x)
  | met f y => exact Heap.lt_size (show h.get? a = some _ from x)
  | ext φ => obtain ⟨_, ⟨_, e⟩, _⟩ := x; exact Heap.lt_size e
theorem Paired.mapP {α β : Type} {F G : α → β → Prop} : ∀ {l₁ : List α} {l₂ : List β}, Paired F l₁ l₂ → (∀ a b, F a b → G a b) → Paired G l₁ l₂
  | _, _, .nil, _ => .nil
  | _, _, .cons r t, f => .cons (f _ _ r) (Paired.mapP t f)
theorem Paired.imp' {α β : Type} {F G : α → β → Prop} (f : ∀ a b, F a b → G a b) {l₁ : List α} {l₂ : List β} (r : Paired F l₁ l₂) : Paired G l₁ l₂ := Paired.mapP r f
/-- what an object's description leans on: its own object, its own dict, the tuples -/
theorem ObjOk.stay (x : ObjOk P w H h a o) (k : ∀ b u, (b = a ∨ H b = some (.own a)) → h.get? b = some u → h'.get? b = some u)
    (ho : ∀ b, H b = some (.own a) → H' b = some (.own a)) (ht : ∀ b xs, H b = some (.tup xs) → H' b = some (.tup xs)) : ObjOk P w H' h' a o := by
  induction o with
  | lst xs => obtain ⟨z, its, n, r, e⟩ := x; exact ⟨z, its, n, r, k _ _ (.inl rfl) e⟩
  | tup xs => obtain ⟨z, its, r, ob, e, c⟩ := x; exact ⟨z, its, r, ob, k _ _ (.inl rfl) e, c⟩
  | dK kvs => obtain ⟨z, y, vs, r, ob, es, ep, e, c⟩ := x; exact ⟨z, y, vs, r, ob, es, ep, k _ _ (.inl rfl) e, c⟩
  | dT kvs =>
    obtain ⟨z, y, xs, r, ob, es, ep, e, c⟩ := x
    exact ⟨z, y, xs, Paired.mapP r fun p q z => ⟨z.1, ht _ _ z.2.1, z.2.2⟩, ob, es, ep, k _ _ (.inl rfl) e, c⟩
  | set S n => obtain ⟨ob, es, ep, t, e, c⟩ := x; exact ⟨ob, es, ep, t, k _ _ (.inl rfl) e, c⟩
  | ins C dx fs =>
    obtain ⟨d, z, ne, e, mA, ⟨od, es, ep, e2, c⟩, r⟩ := x
    exact ⟨ho _ d, z, ne, k _ _ (.inl rfl) e, mA, ⟨od, es, ep, k _ _ (.inr d) e2, c⟩, r⟩
  | own y => obtain ⟨ob, e⟩ := x; exact ⟨ob, k _ _ (.inl rfl) e⟩
  | xd fs => obtain ⟨mA, ⟨od, es, ep, e, c⟩, r⟩ := x; exact ⟨mA, ⟨od, es, ep, k _ _ (.inl rfl) e, c⟩, r⟩
  | rng lo hi => obtain ⟨t, u, v, e⟩ := x; exact ⟨t, u, v, k _ _ (.inl rfl) e⟩
  | frz ob u ih => obtain ⟨e, q⟩ := x; exact ⟨k _ _ (.inl rfl) e, ih q⟩
  | tbl ps =>
    have e : h.get? a = some { cls := .none, data := .fields ps } := x
    show h'.get? a = some { cls := .none, data := .fields ps }
    exact k a _ (.inl rfl) e
  | met f y =>
    have e : h.get? a = some (PySem.W.methodObj (.ref f) (.ref y)) := x
    show h'.get? a = some (PySem.W.methodObj (.ref f) (.ref y))
    exact k a _ (.inl rfl) e
  | ext φ => obtain ⟨p, ⟨o, e⟩, st⟩ := x; exact ⟨st _ _ p fun o q => k _ _ (.inl rfl) q, ⟨o, k _ _ (.inl rfl) e⟩, st⟩
theorem HOk.lt (x : HOk P w H h) (e : H a = some o) : a < h.objs.size := (x a o e).lt
theorem HOk.fresh (x : HOk P w H h) (e : h.objs.size ≤ a) : H a = none := by
  cases q : H a with
  | none => rfl
  | some u => exact absurd (Nat.lt_of_lt_of_le (x.lt q) e) (Nat.lt_irrefl _)
/-- every object of the heap is kept -/
theorem HOk.kept (x : HOk P w H h) (k : ∀ b u, h.get? b = some u → h'.get? b = some u) : HOk P w H h' := fun a o e =>
  (x a o e).stay (fun b u _ q => k b u q) (fun _ q => q) fun _ _ q => q
/-- a new object is laid and tracked -/
theorem HOk.laid (x : HOk P w H h) (k : ∀ b u, h.get? b = some u → h'.get? b = some u) (hp : h.objs.size ≤ a) (new : ObjOk P w (upd H a o) h' a o) : HOk P w (upd H a o) h' := fun b u e => by
  have hn := x.fresh hp
  by_cases hb : b = a
  · subst hb; rw [upd_same] at e; cases e; exact new
  · rw [upd_ne hb] at e
    exact (x b u e).stay (fun c v _ q => k c v q) (fun c q => by rw [upd_ne (ne_of_none q hn)]; exact q) fun c xs q => by rw [upd_ne (ne_of_none q hn)]; exact q
end

/-- what may be read as u: it is u, or a known u -/
def Rd (H : Hp) (a : Addr) (u : HO) : Prop := H a = some u ∨ ∃ o, H a = some (.frz o u)
theorem Rd.of {H : Hp} {a : Addr} {u : HO} (h : H a = some u) : Rd H a u := .inl h
theorem Rd.ok {P : Program} {w : World} {H : Hp} {h : Heap} {a : Addr} {u : HO} (r : Rd H a u) (x : HOk P w H h) : ObjOk P w H h a u := by
  rcases r with r | ⟨o, r⟩
  · exact x a u r
  · obtain ⟨_, q⟩ := x a _ r
    exact q
/-- what may be written -/
def Mut : Option HO → Prop
  | some (.lst _) => True
  | some (.dK _) => True
  | some (.dT _) => True
  | some (.set _ _) => True
  | some (.ins _ _ _) => True
  | some (.ext _) => True
  | _ => False
section
variable {P : Program} {w : World} {H : Hp} {h h' : Heap} {x e : Addr} {o' : HO}
/-- the object at e is changed: x itself, or the dict of the instance x -/
theorem HOk.write (ok : HOk P w H h) (mu : Mut (H x)) (he : e = x ∨ H e = some (.own x)) (k : ∀ b u, b ≠ e → h.get? b = some u → h'.get? b = some u) (heo : ∃ u, h'.get? e = some u)
    (new : ObjOk P w (upd H x o') h' x o') : HOk P w (upd H x o') h' := fun b u q => by
  have nown : ∀ c y, H c = some (.own y) → c ≠ x := fun c y r z => by subst z; rw [r] at mu; exact mu
  have ntup : ∀ c xs, H c = some (.tup xs) → c ≠ x := fun c xs r z => by subst z; rw [r] at mu; exact mu
  by_cases hb : b = x
  · subst hb; rw [upd_same] at q; cases q; exact new
  · rw [upd_ne hb] at q
    by_cases hbe : b = e
    · have q' : H b = some (.own x) := by
        rcases he with z | z
        · exact absurd (hbe.trans z) hb
        · rw [hbe]; exact z
      rw [q] at q'; cases q'
      obtain ⟨v, hv⟩ := heo
      exact ⟨v, by rw [hbe]; exact hv⟩
    · refine (ok b u q).stay (fun c v hc r => k c v ?_ r) (fun c r => by rw [upd_ne (nown c b r)]; exact r) fun c xs r => by rw [upd_ne (ntup c xs r)]; exact r
      rcases hc with rfl | hc
      · exact hbe
      · rintro rfl
        rcases he with z | z
        · exact nown c b hc z
        · rw [hc] at z; cases z; exact hb rfl
end

/-! ### kept unless tracked; of the frames at fs (the callers') the slots may change (an exception that passes writes there); of the records at ex (iterators) nothing is said -/
structure Un (fs ex : List Addr) (H H' : Hp) (h h' : Heap) : Prop where
  keep : ∀ b o, h.get? b = some o → H b = none → b ∉ fs → b ∉ ex → h'.get? b = some o
  slot : ∀ b o, h.get? b = some o → H b = none → b ∈ fs → b ∉ ex → ∃ sl, h'.get? b = some { o with slots := sl }
  free : ∀ b o, h.get? b = some o → H b = none → b ∉ ex → H' b = none
  there : ∀ b o, h.get? b = some o → b ∉ ex → ∃ o', h'.get? b = some o'
  tups : ∀ b xs, H b = some (.tup xs) → H' b = some (.tup xs)
  frzs : ∀ b o u, H b = some (.frz o u) → H' b = some (.frz o u)
  tbls : ∀ b ps, H b = some (.tbl ps) → ∃ more, H' b = some (.tbl (ps ++ more))
section
variable {fs fs' ex ex' : List Addr} {H H1 H2 : Hp} {h h1 h2 h' : Heap} {a x e : Addr} {o : HO}
theorem Un.any (u : Un fs ex H H1 h h1) {b : Addr} {ob : Obj} (q : h.get? b = some ob) (n : H b = none) (hx : b ∉ ex) : ∃ sl, h1.get? b = some { ob with slots := sl } := by
  by_cases hb : b ∈ fs
  · exact u.slot b ob q n hb hx
  · exact ⟨ob.slots, u.keep b ob q n hb hx⟩
theorem Un.trans (a : Un fs ex H H1 h h1) (b : Un fs ex H1 H2 h1 h2) : Un fs ex H H2 h h2 where
  keep := fun c ob q n hc hx => b.keep c ob (a.keep c ob q n hc hx) (a.free c ob q n hx) hc hx
  slot := fun c ob q n hc hx => by
    obtain ⟨sl, e1⟩ := a.slot c ob q n hc hx
    obtain ⟨sl', e2⟩ := b.slot c _ e1 (a.free c ob q n hx) hc hx
    exact ⟨sl', e2⟩
  free := fun c ob q n hx => by
    obtain ⟨o', e1⟩ := a.there c ob q hx
    exact b.free c o' e1 (a.free c ob q n hx) hx
  there := fun c ob q hx => by
    obtain ⟨o', e1⟩ := a.there c ob q hx
    exact b.there c o' e1 hx
  tups := fun c xs q => b.tups c xs (a.tups c xs q)
  frzs := fun c ob xs q => b.frzs c ob xs (a.frzs c ob xs q)
  tbls := fun c ps q => by
    obtain ⟨m1, e1⟩ := a.tbls c ps q
    obtain ⟨m2, e2⟩ := b.tbls c _ e1
    exact ⟨m1 ++ m2, by rw [e2, Array.append_assoc]⟩
theorem Un.kept (k : ∀ b u, h.get? b = some u → h'.get? b = some u) : Un fs ex H H h h' :=
  ⟨fun b ob q _ _ _ => k b ob q, fun b ob q _ _ _ => ⟨ob.slots, k b ob q⟩, fun _ _ _ n _ => n, fun b ob q _ => ⟨ob, k b ob q⟩, fun _ _ q => q, fun _ _ _ q => q, fun _ ps q => ⟨#[], by rw [q]; simp⟩⟩
theorem Un.refl : Un fs ex H H h h := Un.kept fun _ _ q => q
theorem Un.laid (k : ∀ b u, h.get? b = some u → h'.get? b = some u) (hp : h.objs.size ≤ a) (hn : H a = none) : Un fs ex H (upd H a o) h h' where
  keep := fun b u q _ _ _ => k b u q
  slot := fun b u q _ _ _ => ⟨u.slots, k b u q⟩
  free := fun b u q n _ => by rw [upd_ne (Nat.ne_of_lt (Nat.lt_of_lt_of_le (Heap.lt_size q) hp))]; exact n
  there := fun b u q _ => ⟨u, k b u q⟩
  tups := fun b xs q => by rw [upd_ne (ne_of_none q hn)]; exact q
  frzs := fun b u xs q => by rw [upd_ne (ne_of_none q hn)]; exact q
  tbls := fun b ps q => ⟨#[], by rw [upd_ne (ne_of_none q hn), q]; simp⟩
theorem Un.write (mu : Mut (H x)) (he : e = x ∨ H e = some (.own x)) (k : ∀ b u, b ≠ e → h.get? b = some u → h'.get? b = some u) (heo : ∃ u, h'.get? e = some u) : Un fs ex H (upd H x o) h h' := by
  have hx : ∀ b, H b = none → b ≠ x := fun b n z => by subst z; rw [n] at mu; exact mu
  have hb : ∀ b, H b = none → b ≠ e := fun b n z => by
    subst z
    rcases he with r | r
    · exact hx b n r
    · rw [n] at r; cases r
  have hm : ∀ b u, H b = some u → ¬ Mut (some u) → b ≠ x := fun b u q nm z => by subst z; rw [q] at mu; exact nm mu
  refine ⟨fun b u q n _ _ => k b u (hb b n) q, fun b u q n _ _ => ⟨u.slots, k b u (hb b n) q⟩, fun b u q n _ => by rw [upd_ne (hx b n)]; exact n, fun b u q _ => ?_,
    fun b xs q => by rw [upd_ne (hm b _ q fun z => z)]; exact q, fun b u xs q => by rw [upd_ne (hm b _ q fun z => z)]; exact q, fun b ps q => ⟨#[], by rw [upd_ne (hm b _ q fun z => z), q]; simp⟩⟩
  by_cases hbe : b = e
  · subst hbe; exact heo
  · exact ⟨u, k b u hbe q⟩
theorem Un.mono (u : Un fs ex H H1 h h1) (hs : ∀ b ∈ fs, b ∈ fs') (hx : ∀ b ∈ ex, b ∈ ex') : Un fs' ex' H H1 h h1 :=
  ⟨fun b ob q n hb he => u.keep b ob q n (fun z => hb (hs b z)) fun z => he (hx b z), fun _ _ q n _ he => u.any q n fun z => he (hx _ z), fun b ob q n he => u.free b ob q n fun z => he (hx b z), fun b ob q he => u.there b ob q fun z => he (hx b z), u.tups, u.frzs, u.tbls⟩
end

/-! ### the heap without what is tracked -/
def trk (h : Heap) (H : Hp) : List Addr := (List.range h.objs.size).filter fun a => (H a).isSome
def hidT (h : Heap) (H : Hp) : Heap := PySem.W.hideAll h (trk h H)
theorem hidT_size (h : Heap) (H : Hp) : (hidT h H).objs.size = h.objs.size := PySem.W.hideAll_size _ _
theorem hidT_get {h : Heap} {H : Hp} {b : Addr} {o : Obj} (e : h.get? b = some o) (n : H b = none) : (hidT h H).get? b = some o :=
  PySem.W.hideAll_get _ e fun hm => by
    have q : (H b).isSome = true := (List.mem_filter.mp hm).2
    rw [n] at q; simp at q
theorem of_hidT {h : Heap} {H : Hp} {b : Addr} {o : Obj} (e : (hidT h H).get? b = some o) : h.get? b = some o ∧ H b = none := by
  have e' : h.get? b = some o := PySem.W.of_hideAll (trk h H) e
  refine ⟨e', ?_⟩
  cases q : H b with
  | none => rfl
  | some x =>
    have hm : b ∈ trk h H := List.mem_filter.mpr ⟨List.mem_range.mpr (Heap.lt_size e'), by simp [q]⟩
    have z : (hidT h H).get? b = none := PySem.W.hideAll_none (trk h H) hm
    rw [z] at e; cases e

/-! ### OpenK's ledger, filled with every new object but one -/
def allNews (g h : Heap) (L : Addr) : List (Addr × Obj) := (List.range h.objs.size).filterMap fun a => if a = L ∨ (g.get? a).isSome = true then none else (h.get? a).map fun o => (a, o)
theorem mem_allNews {g h : Heap} {L a : Addr} {o : Obj} (h1 : a ≠ L) (h2 : g.get? a = none) (h3 : h.get? a = some o) : (a, o) ∈ allNews g h L :=
  List.mem_filterMap.mpr ⟨a, List.mem_range.mpr (Heap.lt_size h3), by simp [h1, h2, h3]⟩
theorem of_mem_allNews {g h : Heap} {L : Addr} {p : Addr × Obj} (hp : p ∈ allNews g h L) : p.1 ≠ L ∧ g.get? p.1 = none ∧ h.get? p.1 = some p.2 := by
  obtain ⟨b, _, e⟩ := List.mem_filterMap.mp hp
  split at e
  · cases e
  · rename_i hn
    cases q : h.get? b with
    | none => rw [q] at e; simp at e
    | some u =>
      rw [q] at e
      simp only [Option.map_some, Option.some.injEq] at e
      subst e
      refine ⟨fun z => hn (.inl z), ?_, q⟩
      show g.get? b = none
      cases r : g.get? b with
      | none => rfl
      | some v => exact (hn (.inr (by simp [r]))).elim
def rest (g h : Heap) (L d : Addr) : List (Addr × Obj) := (allNews g h L).filter fun p => decide (p.1 ≠ d)
theorem rest_ne {g h : Heap} {L d : Addr} : ∀ p ∈ rest g h L d, p.1 ≠ d := fun p hp => of_decide_eq_true (List.mem_filter.mp hp).2
theorem mem_rest {g h : Heap} {L d a : Addr} {o : Obj} (h1 : a ≠ L) (h2 : g.get? a = none) (h3 : h.get? a = some o) (h4 : a ≠ d) : (a, o) ∈ rest g h L d :=
  List.mem_filter.mpr ⟨mem_allNews h1 h2 h3, decide_eq_true h4⟩
theorem news_all {g h : Heap} {L : Addr} : News g L h (allNews g h L) := fun p hp => let ⟨a, b, c⟩ := of_mem_allNews hp; ⟨c, a, b⟩
theorem news_at {g h : Heap} {L d : Addr} {o : Obj} (h1 : d ≠ L) (h2 : g.get? d = none) (h3 : h.get? d = some o) : News g L h ((d, o) :: rest g h L d) := fun p hp => by
  rcases List.mem_cons.mp hp with rfl | hp
  · exact ⟨h3, h1, h2⟩
  · exact news_all p (List.mem_filter.mp hp).1
/-- behind a rule that changed d alone: all else but the frame is kept -/
theorem kept_of_news {g h h' : Heap} {L d : Addr} {m : Str → Option Value} (k : ∀ b o, g.get? b = some o → h.get? b = some o) (F : Fr g L h' m) (N : News g L h' (rest g h L d)) :
    ∀ b o, b ≠ L → b ≠ d → h.get? b = some o → h'.get? b = some o := fun b o h1 h2 e => by
  cases q : g.get? b with
  | some u =>
    have := k b u q
    rw [e] at this; cases this
    exact F.keep b _ q
  | none => exact (N (b, o) (mem_rest h1 q e h2)).1
end L2

namespace L2
open PySem PySem.Spec PyProof.Rows

/-- the module's facts, over the base: the heap at the law's entry without what is tracked there -/
structure Mod (K : PySem.W.Frag) (mg : Str → Option Value) (base : Heap) : Prop where
  kin : K.In base
  glob : base.Ns mainGlobals mg
  blt : ∃ mb, base.Ns builtinsNs mb ∧ ∀ x : Str, x ≠ "__name__" → mb x = bootBuiltins x
  nolimit : base.NoLimit

/-- the context: a def's body (or a comprehension's block) running. base: fixed through the whole law; s₀, H₀: the entry; outer: the frames whose slots others may change (a def's callers); stack: all frames that run;
   ex: iterators that were made ahead of the entry and are walked here (a comprehension's); fn: the names whose cells were made at the entry (a def: all; a comprehension's block: its own); calm: not within an except suite; pn: pins that every state bears; xe: what is wanted of an exception that leaves the code -/
structure Cx where
  prog : Program
  w : World
  K : PySem.W.Frag
  mg : Str → Option Value
  base : Heap
  A : Around
  N : List Str
  s₀ : Shared
  H₀ : Hp
  env : Env
  outer : List Env
  stack : List Env
  ex : List Addr
  fn : Str → Bool
  calm : Bool
  pn : List (Addr × Obj)
  xe : Value → Shared → Prop
/-- the callers' frames -/
def frs (l : List Env) : List Addr := l.filterMap (·.frame)
abbrev Cx.fs (X : Cx) : List Addr := frs X.outer

def Vis (sc : Scope) (x : Str) : Prop := sc.names.lookup x = some .local ∨ sc.names.lookup x = some .cell ∨ sc.names.lookup x = some .free
def Loc (sc : Scope) (x : Str) : Prop := sc.names.lookup x = some .local ∨ sc.names.lookup x = some .cell
def Look (env : Env) (h : Heap) (m : Str → Option Value) (x : Str) (u : Value) : Prop :=
  (env.kindOf x = some .local ∧ m x = some u) ∨ ((env.kindOf x = some .cell ∨ env.kindOf x = some .free) ∧ ∃ c, env.cells.lookup x = some c ∧ h.IsCell c (some u))

structure Cx.Ok (X : Cx) : Prop where
  mod : Mod X.K X.mg X.base
  kind : X.env.scope.kind = .function
  glob : X.env.globals = mainGlobals
  blt : X.env.builtins = builtinsNs
  above : X.s₀.heap.objs.size ≤ X.env.locals
  inj : ∀ x y c, X.env.cells.lookup x = some c → X.env.cells.lookup y = some c → x = y
  has : ∀ x, (X.env.kindOf x = some .cell ∨ X.env.kindOf x = some .free) → ∃ c, X.env.cells.lookup x = some c
  cab : ∀ x c, X.fn x = true → X.env.cells.lookup x = some c → X.s₀.heap.objs.size ≤ c
  hd : X.calm = true → X.A.handled = none
  frames : X.A.frames = some X.stack
  stk : X.stack = X.outer ∨ (X.stack = X.env :: X.outer ∧ X.env.frame = some X.env.locals)
  exf : ∀ b ∈ X.ex, b ≠ X.env.locals ∧ ∀ x c, X.env.cells.lookup x = some c → c ≠ b
  bs : ∀ b o, X.base.get? b = some o → X.s₀.heap.get? b = some o ∧ X.H₀ b = none
  bsz : X.base.objs.size ≤ X.s₀.heap.objs.size
  noex : ∀ b o, X.base.get? b = some o → b ∉ X.ex
  exfs : ∀ b ∈ X.ex, b ∉ X.fs
  funs : X.s₀.heap.FunFrames X.base X.outer
  frf : ∀ b ∈ X.fs, X.H₀ b = none

structure Inv (X : Cx) (pins : List (Addr × Obj)) (σ : List (Option V)) (H : Hp) (s : Shared) : Prop where
  ok : X.Ok
  os : s.os = X.s₀.os
  bare : AllBare s.gens
  base : Un X.fs X.ex X.H₀ H X.s₀.heap s.heap
  loc : ∃ m, s.heap.Ns X.env.locals m ∧ ∀ (i : Nat) (x : Str) (v : V), X.N[i]? = some x → σ[i]? = some (some v) → Vis X.env.scope x → ∃ u, RelV v u ∧ Look X.env s.heap m x u
  cell : ∀ x c, X.env.cells.lookup x = some c → ∃ v, s.heap.IsCell c v
  free : H X.env.locals = none
  freeC : ∀ x c, X.env.cells.lookup x = some c → H c = none
  pin : ∀ p ∈ X.pn ++ pins, s.heap.get? p.1 = some p.2 ∧ H p.1 = none ∧ p.1 ≠ X.env.locals ∧ p.1 ∉ X.fs ∧ ∀ v, p.2.data ≠ .cell v
  hok : HOk X.prog X.w H s.heap
  len : σ.length = X.N.length

section
variable {X : Cx} {pins : List (Addr × Obj)} {σ : List (Option V)} {H H' : Hp} {s : Shared} {h' : Heap}

theorem Cx.Ok.nofr (ok : X.Ok) {b : Addr} {o : Obj} (e : X.base.get? b = some o) : b ∉ X.fs := fun hb => by
  have := (ok.funs.mem hb).1
  rw [e] at this; cases this
theorem Inv.bs (I : Inv X pins σ H s) : ∀ b o, X.base.get? b = some o → s.heap.get? b = some o ∧ H b = none := fun b o e =>
  ⟨I.base.keep b o (I.ok.bs b o e).1 (I.ok.bs b o e).2 (I.ok.nofr e) (I.ok.noex b o e), I.base.free b o (I.ok.bs b o e).1 (I.ok.bs b o e).2 (I.ok.noex b o e)⟩
theorem Inv.bk (I : Inv X pins σ H s) : ∀ b o, X.base.get? b = some o → s.heap.get? b = some o := fun b o e => (I.bs b o e).1
theorem Inv.mod (I : Inv X pins σ H s) : Mod X.K X.mg X.base := I.ok.mod
theorem Inv.kIn (I : Inv X pins σ H s) : X.K.In s.heap := I.ok.mod.kin.keeps I.bk
theorem Inv.nolimit (I : Inv X pins σ H s) : s.heap.NoLimit := I.ok.mod.nolimit.keeps I.bk
/-- the frame over the base: for OpenK's rules (K.In X.base is I.mod.kin) -/
theorem Inv.fr (I : Inv X pins σ H s) : ∃ m, Fr X.base X.env.locals s.heap m :=
  let ⟨m, hn, _⟩ := I.loc
  ⟨m, hn, I.bk, Nat.le_trans I.ok.bsz I.ok.above⟩
theorem Inv.lt (I : Inv X pins σ H s) : X.env.locals < s.heap.objs.size := let ⟨_, hn, _⟩ := I.loc; hn.lt
theorem Inv.sz (I : Inv X pins σ H s) : X.s₀.heap.objs.size ≤ s.heap.objs.size := Nat.le_trans I.ok.above (Nat.le_of_lt I.lt)
theorem Inv.nofs (I : Inv X pins σ H s) {a : Addr} (h : s.heap.objs.size ≤ a) : a ∉ X.fs := fun hb => by
  obtain ⟨_, o, ho, _⟩ := I.ok.funs.mem hb
  exact absurd (Nat.lt_of_lt_of_le (Heap.lt_size ho) (Nat.le_trans I.sz h)) (Nat.lt_irrefl _)
theorem Inv.cne (I : Inv X pins σ H s) : ∀ x c, X.env.cells.lookup x = some c → c ≠ X.env.locals := fun x c e z => by
  obtain ⟨v, o, ho, hd⟩ := I.cell x c e
  obtain ⟨m, ⟨o', es, ep, ho', hd', _⟩, _⟩ := I.loc
  rw [z, ho'] at ho; cases ho; rw [hd'] at hd; cases hd
theorem Inv.funs (I : Inv X pins σ H s) : s.heap.FunFrames X.base X.outer := by
  have all : ∀ (l : List Env), (∀ b ∈ frs l, b ∈ X.fs) → X.s₀.heap.FunFrames X.base l → s.heap.FunFrames X.base l := by
    intro l
    induction l with
    | nil => intro _ _; trivial
    | cons env r ih =>
      intro hs hl
      obtain ⟨hk, ⟨L, o, hf, hn, ho, hd⟩, hr⟩ := hl
      have hL : L ∈ X.fs := hs L (by unfold frs; rw [List.filterMap_cons, hf]; exact List.mem_cons_self)
      obtain ⟨sl, e⟩ := I.base.slot L o ho (I.ok.frf L hL) hL fun z => I.ok.exfs L z hL
      exact ⟨hk, ⟨L, _, hf, hn, e, hd⟩, ih (fun b hb => hs b (by unfold frs; rw [List.filterMap_cons, hf]; exact List.mem_cons_of_mem _ hb)) hr⟩
  exact all X.outer (fun _ hb => hb) I.ok.funs

/-- the frames that run, for a call -/
theorem Inv.stack (I : Inv X pins σ H s) : s.heap.FunFrames X.base X.stack := by
  rcases I.ok.stk with e | ⟨e, hf⟩
  · rw [e]; exact I.funs
  · rw [e]
    obtain ⟨m, hn, _⟩ := I.loc
    refine .cons (by rw [I.ok.kind]; decide) hf hn ?_ I.funs
    exact Heap.get?_none_of_le (Nat.le_trans I.ok.bsz I.ok.above)
theorem Inv.stkSub (I : Inv X pins σ H s) : ∀ b ∈ frs X.stack, b ∈ X.env.locals :: X.fs := fun b hb => by
  rcases I.ok.stk with e | ⟨e, hf⟩
  · rw [e] at hb; exact List.mem_cons_of_mem _ hb
  · rw [e] at hb
    unfold frs at hb
    rw [List.filterMap_cons, hf] at hb
    exact hb
theorem Inv.stkFree (I : Inv X pins σ H s) : ∀ b ∈ frs X.stack, H b = none := fun b hb => by
  rcases List.mem_cons.mp (I.stkSub b hb) with e | hb
  · rw [e]; exact I.free
  · obtain ⟨_, o, ho, _⟩ := I.ok.funs.mem hb
    exact I.base.free b o ho (I.ok.frf b hb) fun z => I.ok.exfs b z hb

/-- THE STEP: the untracked objects but the frame and the records at ch are kept (the callers' frames up to slots), the frame's map is kept, the new abstract heap is held -/
theorem Inv.step {g' : Array GenState} {t' : Nat} {d' : Drawn} {ch : List Addr} (I : Inv X pins σ H s)
    (hch : ∀ b ∈ ch, (b ∈ X.ex ∨ X.s₀.heap.objs.size ≤ b) ∧ b ≠ X.env.locals ∧ (∀ x c, X.env.cells.lookup x = some c → c ≠ b) ∧ ∀ p ∈ X.pn ++ pins, p.1 ≠ b)
    (keep : ∀ b o, b ≠ X.env.locals → b ∉ X.fs → b ∉ ch → s.heap.get? b = some o → H b = none → h'.get? b = some o)
    (slot : ∀ b o, b ≠ X.env.locals → b ∈ X.fs → b ∉ ch → s.heap.get? b = some o → H b = none → ∃ sl, h'.get? b = some { o with slots := sl }) (free : ∀ b o, b ∉ ch → s.heap.get? b = some o → H b = none → H' b = none)
    (there : ∀ b o, b ∉ ch → s.heap.get? b = some o → ∃ o', h'.get? b = some o')
    (tups : ∀ b xs, H b = some (.tup xs) → H' b = some (.tup xs)) (frzs : ∀ b o u, H b = some (.frz o u) → H' b = some (.frz o u)) (tbls : ∀ b ps, H b = some (.tbl ps) → ∃ more, H' b = some (.tbl (ps ++ more)))
    (ns : ∀ m, s.heap.Ns X.env.locals m → h'.Ns X.env.locals m) (hok : HOk X.prog X.w H' h') (hg : AllBare g') :
    Inv X pins σ H' { s with heap := h', gens := g', drawn := d', toks := t' } := by
  have neL : ∀ b o, X.s₀.heap.get? b = some o → b ≠ X.env.locals := fun b o e => Nat.ne_of_lt (Nat.lt_of_lt_of_le (Heap.lt_size e) I.ok.above)
  have neC : ∀ b o, X.s₀.heap.get? b = some o → b ∉ X.ex → b ∉ ch := fun b o e hx hb => by
    rcases (hch b hb).1 with z | z
    · exact hx z
    · exact absurd (Nat.lt_of_lt_of_le (Heap.lt_size e) z) (Nat.lt_irrefl _)
  have cellK : ∀ x c, X.env.cells.lookup x = some c → ∀ v, s.heap.IsCell c v → h'.IsCell c v := fun x c e v ⟨o, ho, hd⟩ => by
    have nch : c ∉ ch := fun z => (hch c z).2.2.1 x c e rfl
    by_cases hc : c ∈ X.fs
    · obtain ⟨sl, q⟩ := slot c o (I.cne x c e) hc nch ho (I.freeC x c e)
      exact ⟨_, q, hd⟩
    · exact ⟨o, keep c o (I.cne x c e) hc nch ho (I.freeC x c e), hd⟩
  refine ⟨I.ok, I.os, hg, ⟨fun b o e n hb hx => ?_, fun b o e n hb hx => ?_, fun b o e n hx => ?_, fun b o e hx => ?_, fun b xs e => tups b xs (I.base.tups b xs e), fun b o xs e => frzs b o xs (I.base.frzs b o xs e), fun b ps e => ?_⟩, ?_, fun x c e => ?_, ?_, fun x c e => ?_, fun p hp => ?_, hok, I.len⟩
  · exact keep b o (neL b o e) hb (neC b o e hx) (I.base.keep b o e n hb hx) (I.base.free b o e n hx)
  · obtain ⟨sl, e1⟩ := I.base.slot b o e n hb hx
    obtain ⟨sl', e2⟩ := slot b _ (neL b o e) hb (neC b o e hx) e1 (I.base.free b o e n hx)
    exact ⟨sl', e2⟩
  · obtain ⟨o', e1⟩ := I.base.there b o e hx
    exact free b o' (neC b o e hx) e1 (I.base.free b o e n hx)
  · obtain ⟨o', e1⟩ := I.base.there b o e hx
    exact there b o' (neC b o e hx) e1
  · obtain ⟨m1, e1⟩ := I.base.tbls b ps e
    obtain ⟨m2, e2⟩ := tbls b _ e1
    exact ⟨m1 ++ m2, by rw [e2, Array.append_assoc]⟩
  · obtain ⟨m, hn, hl⟩ := I.loc
    refine ⟨m, ns m hn, fun i x v e1 e2 e3 => ?_⟩
    obtain ⟨u, r, l⟩ := hl i x v e1 e2 e3
    refine ⟨u, r, ?_⟩
    rcases l with l | ⟨k, c, e, z⟩
    · exact .inl l
    · exact .inr ⟨k, c, e, cellK x c e _ z⟩
  · obtain ⟨v, z⟩ := I.cell x c e
    exact ⟨v, cellK x c e v z⟩
  · obtain ⟨m, ⟨o, _, _, ho, _⟩, _⟩ := I.loc
    exact free _ o (fun z => (hch _ z).2.1 rfl) ho I.free
  · obtain ⟨v, o, ho, hd⟩ := I.cell x c e
    exact free c o (fun z => (hch c z).2.2.1 x c e rfl) ho (I.freeC x c e)
  · obtain ⟨e, n, ne, nf, d⟩ := I.pin p hp
    have nch : p.1 ∉ ch := fun z => (hch p.1 z).2.2.2 p hp rfl
    exact ⟨keep p.1 p.2 ne nf nch e n, free p.1 p.2 nch e n, ne, nf, d⟩
/-- .. where the frame's own object is kept too -/
theorem Inv.un {t' : Nat} (I : Inv X pins σ H s) (u : Un X.fs [] H H' s.heap h') (hok : HOk X.prog X.w H' h') : Inv X pins σ H' { s with heap := h', toks := t' } := by
  obtain ⟨m, ⟨o, es, ep, ho, r⟩, _⟩ := id I.loc
  obtain ⟨sl, hL⟩ := u.any ho I.free (by simp)
  exact I.step (g' := s.gens) (d' := s.drawn) (ch := []) (fun _ z => nomatch z) (fun b o _ hb _ e n => u.keep b o e n hb (by simp)) (fun b o _ hb _ e n => u.slot b o e n hb (by simp)) (fun b o _ e n => u.free b o e n (by simp)) (fun b o _ e => u.there b o e (by simp)) u.tups u.frzs u.tbls (fun m' hm => by
    obtain ⟨o', es', ep', ho', r'⟩ := hm
    rw [ho] at ho'; cases ho'
    exact ⟨_, es', ep', hL, r'⟩) hok I.bare
/-- behind a call (or a comprehension's block): the slots of this frame may have changed too, the records at ch may have turned -/
theorem Inv.call {g' : Array GenState} {t' : Nat} {d' : Drawn} {ch : List Addr} (I : Inv X pins σ H s) (u : Un (frs X.stack) ch H H' s.heap h') (hok : HOk X.prog X.w H' h') (hg : AllBare g')
    (hch : ∀ b ∈ ch, (b ∈ X.ex ∨ X.s₀.heap.objs.size ≤ b) ∧ b ≠ X.env.locals ∧ (∀ x c, X.env.cells.lookup x = some c → c ≠ b) ∧ ∀ p ∈ X.pn ++ pins, p.1 ≠ b) :
    Inv X pins σ H' { s with heap := h', gens := g', drawn := d', toks := t' } := by
  obtain ⟨m, ⟨o, es, ep, ho, r⟩, _⟩ := id I.loc
  obtain ⟨sl, hL⟩ := u.any ho I.free fun z => (hch _ z).2.1 rfl
  exact I.step (ch := ch) hch (fun b o hL hb hc e n => u.keep b o e n (fun z => (List.mem_cons.mp (I.stkSub b z)).elim hL hb) hc) (fun b o _ _ hc e n => u.any e n hc) (fun b o hc e n => u.free b o e n hc) (fun b o hc e => u.there b o e hc) u.tups u.frzs u.tbls (fun m' hm => by
    obtain ⟨o', es', ep', ho', r'⟩ := hm
    rw [ho] at ho'; cases ho'
    exact ⟨_, es', ep', hL, r'⟩) hok hg
/-- an untracked record of ours (an iterator) has turned -/
theorem Inv.turned {t' : Nat} {it : Addr} (I : Inv X pins σ H s) (k : ∀ b o, b ≠ it → s.heap.get? b = some o → h'.get? b = some o) (hn : H it = none) (hL : it ≠ X.env.locals)
    (h1 : it ∈ X.ex ∨ X.s₀.heap.objs.size ≤ it) (h2 : ∀ x c, X.env.cells.lookup x = some c → c ≠ it) (h3 : ∀ p ∈ X.pn ++ pins, p.1 ≠ it) : Inv X pins σ H { s with heap := h', toks := t' } := by
  have nit : ∀ b u, H b = some u → b ≠ it := fun b u e z => by rw [z, hn] at e; cases e
  refine I.step (g' := s.gens) (d' := s.drawn) (ch := [it]) (fun b hb => ?_) (fun b o _ _ hc e _ => k b o (fun z => hc (by simp [z])) e) (fun b o _ _ hc e _ => ⟨o.slots, k b o (fun z => hc (by simp [z])) e⟩) (fun _ _ _ _ n => n)
    (fun b o hc e => ⟨o, k b o (fun z => hc (by simp [z])) e⟩) (fun _ _ e => e) (fun _ _ _ e => e) (fun b ps e => ⟨#[], by rw [e]; simp⟩) (fun m hm => ?_) (fun b u e => ?_) I.bare
  · have e : b = it := by simpa using hb
    subst e
    exact ⟨h1, hL, h2, h3⟩
  · obtain ⟨o, es, ep, ho, r⟩ := hm
    exact ⟨o, es, ep, k _ o (Ne.symm hL) ho, r⟩
  · refine (I.hok b u e).stay (fun c v hc q => k c v ?_ q) (fun _ q => q) fun _ _ q => q
    rcases hc with z | z
    · rw [z]; exact nit b u e
    · exact nit c _ z
theorem Inv.tok (I : Inv X pins σ H s) (t : Nat) : Inv X pins σ H { s with toks := t } := I.un (h' := s.heap) (t' := t) Un.refl I.hok
/-- all objects kept -/
theorem Inv.kept {t' : Nat} (I : Inv X pins σ H s) (k : ∀ b u, s.heap.get? b = some u → h'.get? b = some u) : Inv X pins σ H { s with heap := h', toks := t' } := I.un (Un.kept k) (I.hok.kept k)
/-- a new object laid and tracked -/
theorem Inv.laid {a : Addr} {o : HO} {t' : Nat} (I : Inv X pins σ H s) (k : ∀ b u, s.heap.get? b = some u → h'.get? b = some u) (hp : s.heap.objs.size ≤ a) (new : ObjOk X.prog X.w (upd H a o) h' a o) :
    Inv X pins σ (upd H a o) { s with heap := h', toks := t' } := I.un (Un.laid k hp (I.hok.fresh hp)) (I.hok.laid k hp new)
/-- an object written -/
theorem Inv.write {x e : Addr} {o : HO} {t' : Nat} (I : Inv X pins σ H s) (mu : Mut (H x)) (he : e = x ∨ H e = some (.own x)) (k : ∀ b u, b ≠ e → s.heap.get? b = some u → h'.get? b = some u) (heo : ∃ u, h'.get? e = some u)
    (new : ObjOk X.prog X.w (upd H x o) h' x o) : Inv X pins σ (upd H x o) { s with heap := h', toks := t' } := I.un (Un.write mu he k heo) (I.hok.write mu he k heo new)
/-- forgetting slots, pins -/
theorem Inv.weak {σ' : List (Option V)} (I : Inv X pins σ H s) (hl : σ'.length = σ.length) (w : ∀ (i : Nat) v, σ'[i]? = some (some v) → σ[i]? = some (some v)) : Inv X pins σ' H s :=
  ⟨I.ok, I.os, I.bare, I.base, let ⟨m, hn, hl'⟩ := I.loc; ⟨m, hn, fun i x v e1 e2 e3 => hl' i x v e1 (w i v e2) e3⟩, I.cell, I.free, I.freeC, I.pin, I.hok, hl.trans I.len⟩
theorem Inv.pins_of {pins' : List (Addr × Obj)} (I : Inv X pins σ H s) (h : ∀ p ∈ pins', s.heap.get? p.1 = some p.2 ∧ H p.1 = none ∧ p.1 ≠ X.env.locals ∧ p.1 ∉ X.fs ∧ ∀ v, p.2.data ≠ .cell v) : Inv X pins' σ H s :=
  ⟨I.ok, I.os, I.bare, I.base, I.loc, I.cell, I.free, I.freeC, fun p hp => (List.mem_append.mp hp).elim (fun z => I.pin p (List.mem_append_left _ z)) (h p), I.hok, I.len⟩

theorem nodup_ix {N : List Str} (hN : N.Nodup) {i j : Nat} {x : Str} (a : N[i]? = some x) (b : N[j]? = some x) : i = j := by
  obtain ⟨h1, e1⟩ := List.getElem?_eq_some_iff.mp a
  obtain ⟨h2, e2⟩ := List.getElem?_eq_some_iff.mp b
  exact (List.getElem_inj hN).mp (e1.trans e2.symm)

/-- a name is stored; what changed -/
theorem store_ok2 {M : Model} {A : Around} {E : Value → Shared → Prop} {i : Nat} {x : Str} {v : V} {u : Value} {Q : Unit → Shared → Prop} (I : Inv X pins σ H s) (hN : X.N.Nodup) (hi : X.N[i]? = some x) (hx : Loc X.env.scope x) (r : RelV v u)
    (h : ∀ s', Inv X pins (σ.set i (some v)) H s' → (∃ a, Heap.SameBut a s.heap s'.heap ∧ (a = X.env.locals ∨ X.env.cells.lookup x = some a)) → Q () s') (hf : X.fn x = true ∨ X.env.scope.names.lookup x = some .local := by first | exact .inl rfl | exact .inr rfl | assumption) : wpAny M A (storeName X.env x u) Q E s := by
  obtain ⟨m, hn, hl⟩ := id I.loc
  have hcls : (X.env.scope.kind == .class || (X.env.scope.kind == .module && X.env.locals != X.env.globals)) = false := by rw [I.ok.kind]; rfl
  have hiσ : i < σ.length := by rw [I.len]; exact (List.getElem?_eq_some_iff.mp hi).1
  have cne := I.cne
  have tracked : ∀ {a : Addr} {h' : Heap}, (∃ o, s.heap.get? a = some o ∧ H a = none) → Heap.SameBut a s.heap h' → HOk X.prog X.w H h' := fun {a h'} ha hs b ob e => by
    obtain ⟨_, _, hfree⟩ := ha
    refine (I.hok b ob e).stay (fun c w' hc q => (hs.2 c ?_).trans q) (fun _ q => q) fun _ _ q => q
    rintro rfl
    rcases hc with rfl | hc
    · rw [hfree] at e; cases e
    · rw [hfree] at hc; cases hc
  rcases hx with hk | hk
  · refine wpAny_storeName_local hk hn (fun h' hn' hs => ?_) hcls
    obtain ⟨oL, _, _, hoL, _⟩ := id hn
    refine h _ ⟨I.ok, I.os, I.bare, ⟨fun b o e n hb hx => ?_, fun b o e n hb hx => ?_, I.base.free, fun b o e hx => ?_, I.base.tups, I.base.frzs, I.base.tbls⟩, ⟨_, hn', fun j y v' e1 e2 e3 => ?_⟩, fun y c e => ?_, I.free, I.freeC, fun p hp => ?_, tracked ⟨oL, hoL, I.free⟩ hs, by simpa using I.len⟩ ⟨_, hs, .inl rfl⟩
    · exact (hs.2 b (Nat.ne_of_lt (Nat.lt_of_lt_of_le (Heap.lt_size e) I.ok.above))).trans (I.base.keep b o e n hb hx)
    · obtain ⟨sl, e1⟩ := I.base.slot b o e n hb hx
      exact ⟨sl, (hs.2 b (Nat.ne_of_lt (Nat.lt_of_lt_of_le (Heap.lt_size e) I.ok.above))).trans e1⟩
    · obtain ⟨o', e1⟩ := I.base.there b o e hx
      exact ⟨o', (hs.2 b (Nat.ne_of_lt (Nat.lt_of_lt_of_le (Heap.lt_size e) I.ok.above))).trans e1⟩
    · by_cases hj : j = i
      · subst hj
        rw [hi] at e1; cases e1
        rw [List.getElem?_set_self hiσ] at e2
        cases e2
        exact ⟨u, r, .inl ⟨hk, by simp⟩⟩
      · rw [List.getElem?_set_ne (Ne.symm hj)] at e2
        obtain ⟨u', r', q⟩ := hl j y v' e1 e2 e3
        refine ⟨u', r', ?_⟩
        rcases q with ⟨k, e⟩ | ⟨k, c, e, z⟩
        · refine .inl ⟨k, ?_⟩
          have : y ≠ x := fun e => hj (nodup_ix hN e1 (e ▸ hi))
          simp [this, e]
        · exact .inr ⟨k, c, e, z.sameBut hs (cne y c e)⟩
    · obtain ⟨w', z⟩ := I.cell y c e
      exact ⟨w', z.sameBut hs (cne y c e)⟩
    · obtain ⟨e, n, ne, nf, d⟩ := I.pin p hp
      exact ⟨(hs.2 p.1 ne).trans e, n, ne, nf, d⟩
  · have hfn : X.fn x = true := by
      rcases hf with z | z
      · exact z
      · rw [z] at hk; cases hk
    obtain ⟨c, hc⟩ := I.ok.has x (.inl hk)
    obtain ⟨w', z⟩ := I.cell x c hc
    refine wpAny_storeName_cell I.ok.kind hk hc z (fun h' hc' hs => ?_)
    obtain ⟨oc, hoc, hocd⟩ := id z
    refine h { s with heap := h' } ⟨I.ok, I.os, I.bare, ⟨fun b o e n hb hx => ?_, fun b o e n hb hx => ?_, I.base.free, fun b o e hx => ?_, I.base.tups, I.base.frzs, I.base.tbls⟩, ⟨m, hn.sameBut hs (Ne.symm (cne x c hc)), fun j y v' e1 e2 e3 => ?_⟩, fun y c' e => ?_, I.free, I.freeC, fun p hp => ?_, tracked ⟨oc, hoc, I.freeC x c hc⟩ hs, by simpa using I.len⟩ ⟨c, hs, .inr hc⟩
    · exact (hs.2 b (Nat.ne_of_lt (Nat.lt_of_lt_of_le (Heap.lt_size e) (I.ok.cab x c hfn hc)))).trans (I.base.keep b o e n hb hx)
    · obtain ⟨sl, e1⟩ := I.base.slot b o e n hb hx
      exact ⟨sl, (hs.2 b (Nat.ne_of_lt (Nat.lt_of_lt_of_le (Heap.lt_size e) (I.ok.cab x c hfn hc)))).trans e1⟩
    · obtain ⟨o', e1⟩ := I.base.there b o e hx
      exact ⟨o', (hs.2 b (Nat.ne_of_lt (Nat.lt_of_lt_of_le (Heap.lt_size e) (I.ok.cab x c hfn hc)))).trans e1⟩
    · by_cases hj : j = i
      · subst hj
        rw [hi] at e1; cases e1
        rw [List.getElem?_set_self hiσ] at e2
        cases e2
        exact ⟨u, r, .inr ⟨.inl hk, c, hc, hc'⟩⟩
      · rw [List.getElem?_set_ne (Ne.symm hj)] at e2
        obtain ⟨u', r', q⟩ := hl j y v' e1 e2 e3
        refine ⟨u', r', ?_⟩
        rcases q with q | ⟨k, c', e, z'⟩
        · exact .inl q
        · refine .inr ⟨k, c', e, z'.sameBut hs ?_⟩
          rintro rfl
          exact hj (nodup_ix hN e1 (I.ok.inj _ _ _ e hc ▸ hi))
    · by_cases hcc : c' = c
      · subst hcc; exact ⟨_, hc'⟩
      · obtain ⟨w2, z2⟩ := I.cell y c' e
        exact ⟨w2, z2.sameBut hs hcc⟩
    · obtain ⟨e, n, ne, nf, d⟩ := I.pin p hp
      refine ⟨(hs.2 p.1 ?_).trans e, n, ne, nf, d⟩
      intro q
      rw [q, hoc] at e
      have q' : oc = p.2 := Option.some.inj e
      exact d w' (by rw [← q']; exact hocd)
theorem store_ok {M : Model} {A : Around} {E : Value → Shared → Prop} {i : Nat} {x : Str} {v : V} {u : Value} {Q : Unit → Shared → Prop} (I : Inv X pins σ H s) (hN : X.N.Nodup) (hi : X.N[i]? = some x) (hx : Loc X.env.scope x) (r : RelV v u)
    (h : ∀ s', Inv X pins (σ.set i (some v)) H s' → Q () s') (hf : X.fn x = true ∨ X.env.scope.names.lookup x = some .local := by first | exact .inl rfl | exact .inr rfl | assumption) : wpAny M A (storeName X.env x u) Q E s :=
  store_ok2 I hN hi hx r (fun s' I' _ => h s' I') hf
/-- behind a call or a block, the state as it is -/
theorem Inv.call' {s' : Shared} {ch : List Addr} (I : Inv X pins σ H s) (ho : s'.os = s.os) (u : Un (frs X.stack) ch H H' s.heap s'.heap) (hok : HOk X.prog X.w H' s'.heap) (hg : AllBare s'.gens)
    (hch : ∀ b ∈ ch, (b ∈ X.ex ∨ X.s₀.heap.objs.size ≤ b) ∧ b ≠ X.env.locals ∧ (∀ x c, X.env.cells.lookup x = some c → c ≠ b) ∧ ∀ p ∈ X.pn ++ pins, p.1 ≠ b) : Inv X pins σ H' s' := by
  obtain ⟨h', g', d', t', o'⟩ := s'
  have e : o' = s.os := ho
  subst e
  exact I.call (g' := g') (t' := t') (d' := d') u hok hg hch
end

/-! ### the judgements -/
/-- an exception: its class, its own dict's address (where it has one), the abstract heap behind it -/
abbrev XK := Value → Option Addr → Hp → Prop
abbrev St := List (Option V)
abbrev VK := V → Hp → Prop
/-- an expression's reading; a test's; an argument list's -/
abbrev TE := St → Hp → VK → Prop
abbrev TT := St → Hp → (Bool → Hp → Prop) → Prop
abbrev TA := St → Hp → (List V → Hp → Prop) → Prop
/-- what is wanted behind a statement -/
structure Ends where
  nx : St → Hp → Prop
  rt : VK
  bk : St → Hp → Prop := fun _ _ => False
  ct : St → Hp → Prop := fun _ _ => False
abbrev TS := Ends → St → Hp → Prop

def EP (X : Cx) (pins : List (Addr × Obj)) (σ : St) (Q : VK) (u : Value) (s' : Shared) : Prop := ∃ v H', Inv X pins σ H' s' ∧ RelV v u ∧ Q v H'
def TP (X : Cx) (pins : List (Addr × Obj)) (σ : St) (Q : Bool → Hp → Prop) (b : Bool) (s' : Shared) : Prop := ∃ H', Inv X pins σ H' s' ∧ Q b H'
def AP (X : Cx) (pins : List (Addr × Obj)) (σ : St) (Q : List V → Hp → Prop) (us : List Value) (s' : Shared) : Prop := ∃ vs H', Inv X pins σ H' s' ∧ Vals vs us ∧ Q vs H'
def SP (X : Cx) (pins : List (Addr × Obj)) (D : Ends) (f : Flow) (s' : Shared) : Prop :=
  match f with
  | .next => ∃ σ' H', Inv X pins σ' H' s' ∧ D.nx σ' H'
  | .brk => ∃ σ' H', Inv X pins σ' H' s' ∧ D.bk σ' H'
  | .cont => ∃ σ' H', Inv X pins σ' H' s' ∧ D.ct σ' H'
  | .ret u => ∃ v σ' H', Inv X pins σ' H' s' ∧ RelV v u ∧ D.rt v H'

def PE (X : Cx) (e : Expr) (t : TE) : Prop :=
  ∀ (pins : List (Addr × Obj)) (s : Shared) (σ : St) (H : Hp) (Q : VK), Inv X pins σ H s → t σ H Q → wpAny (model X.prog X.w) X.A (eval e X.env) (EP X pins σ Q) X.xe s
def PT (X : Cx) (e : Expr) (t : TT) : Prop :=
  ∀ (pins : List (Addr × Obj)) (s : Shared) (σ : St) (H : Hp) (Q : Bool → Hp → Prop), Inv X pins σ H s → t σ H Q → wpAny (model X.prog X.w) X.A (isTrue e X.env (eval e X.env)) (TP X pins σ Q) X.xe s
/-- a test whatever its 'whole' is (and, or) -/
def PW (X : Cx) (e : Expr) (t : TT) : Prop :=
  ∀ (whole : Sem Value) (pins : List (Addr × Obj)) (s : Shared) (σ : St) (H : Hp) (Q : Bool → Hp → Prop), Inv X pins σ H s → t σ H Q → wpAny (model X.prog X.w) X.A (isTrue e X.env whole) (TP X pins σ Q) X.xe s
theorem PW.pt {X : Cx} {e : Expr} {t : TT} (h : PW X e t) : PT X e t := h _
/-- an argument list (no star), from the left -/
def PA (X : Cx) (es : List Expr) (t : TA) : Prop :=
  ∀ (pos : Pos) (pins : List (Addr × Obj)) (s : Shared) (σ : St) (H : Hp) (Q : List V → Hp → Prop), Inv X pins σ H s → t σ H Q → wpAny (model X.prog X.w) X.A (spliced (backTo pos (starEach es X.env))) (AP X pins σ Q) X.xe s
def PS (X : Cx) (st : Stmt) (t : TS) : Prop :=
  ∀ (pins : List (Addr × Obj)) (s : Shared) (σ : St) (H : Hp) (D : Ends), Inv X pins σ H s → t D σ H → wpAny (model X.prog X.w) X.A (exec st X.env) (SP X pins D) X.xe s
def PSs (X : Cx) (st : List Stmt) (t : TS) : Prop :=
  ∀ (pins : List (Addr × Obj)) (s : Shared) (σ : St) (H : Hp) (D : Ends), Inv X pins σ H s → t D σ H → wpAny (model X.prog X.w) X.A (execs st X.env) (SP X pins D) X.xe s
/-- weaken the end -/
theorem thn {α : Type} {t : Sem α} {Q Q' : α → Shared → Prop} {M : Model} {A : Around} {E : Value → Shared → Prop} {s : Shared} (h : wpAny M A t Q E s) (hQ : ∀ a s, Q a s → Q' a s) : wpAny M A t Q' E s := wpAny_mono h hQ fun _ _ x => x
end L2

namespace L2
open PySem PySem.Spec PyProof.Rows
section
variable {X : Cx}

/-- two expressions in a row -/
theorem bin {a b : Expr} {ta tb : TE} (ha : PE X a ta) (hb : PE X b tb) {pins : List (Addr × Obj)} {s : Shared} {σ : St} {H : Hp} {R : V → V → Hp → Prop} (I : Inv X pins σ H s) (h : ta σ H fun x H1 => tb σ H1 fun y H2 => R x y H2)
    {α : Type} {Q : α → Shared → Prop} {f : Value → Value → Sem α}
    (hf : ∀ v u s2 x y H2, Inv X pins σ H2 s2 → RelV x v → RelV y u → R x y H2 → wpAny (model X.prog X.w) X.A (f v u) Q X.xe s2) :
    wpAny (model X.prog X.w) X.A (eval a X.env) (fun v s₁ => wpAny (model X.prog X.w) X.A (eval b X.env) (fun u s₂ => wpAny (model X.prog X.w) X.A (f v u) Q X.xe s₂) X.xe s₁) X.xe s := by
  refine thn (ha pins s σ H _ I h) fun v s1 ⟨x, H1, I1, r1, q1⟩ => ?_
  refine thn (hb pins s1 σ H1 _ I1 q1) fun u s2 ⟨y, H2, I2, r2, q2⟩ => ?_
  exact hf v u s2 x y H2 I2 r1 r2 q2

/-! ### names and constants -/
def tVar (i : Nat) : TE := fun σ H Q => ∃ v, σ[i]? = some (some v) ∧ Q v H
def tC (v : V) : TE := fun _ H Q => Q v H
theorem pe_var {i : Nat} {x : Str} {pos : Pos} (hN : X.N[i]? = some x) (hv : Vis X.env.scope x) (hd : (x == ("__debug__" : Str)) = false := by decide) (hcd : (x == ("__classdict__" : Str)) = false := by decide) : PE X (.Name x pos) (tVar i) := by
  intro pins s σ H Q I h
  obtain ⟨v, e, h⟩ := h
  obtain ⟨m, hn, hl⟩ := I.loc
  obtain ⟨u, r, l⟩ := hl i x v hN e hv
  have fin : EP X pins σ Q u s := ⟨v, H, I, r, h⟩
  rcases l with ⟨hk, hm⟩ | ⟨hk, c, hc, hcell⟩
  · exact wpAny_Name (wpAny_loadName_local I.ok.kind hk hn hm fin) hd
  · rcases hk with hk | hk
    · exact wpAny_Name (wpAny_loadName_cell I.ok.kind hk hc hcell fin) hd
    · exact wpAny_Name (wpAny_loadName_free I.ok.kind hk hc hcell fin hcd) hd
theorem pe_int {i j pos} : PE X (.Constant (.int i) j pos) (tC (.int i)) := fun _ _ _ H _ I h => wpAny_Constant_int ⟨.int i, H, I.tok _, ⟨_, rfl⟩, h⟩
theorem pe_bl {b j pos} : PE X (.Constant (.bool b) j pos) (tC (.bl b)) := fun _ _ _ H _ I h => Constant_bool ⟨.bl b, H, I, rfl, h⟩
theorem pe_non {j pos} : PE X (.Constant .none j pos) (tC .non) := fun _ _ _ H _ I h => Constant_none ⟨.non, H, I, rfl, h⟩
theorem pe_str {x j pos} : PE X (.Constant (.str x) j pos) (tC (.str x)) := fun _ _ _ H _ I h => Calls.Constant_str ⟨.str x, H, I.tok _, ⟨_, rfl⟩, h⟩

/-- a global name of the def -/
def Gl (X : Cx) (x : Str) : Prop := X.env.kindOf x = some .globalImplicit
theorem ld_glob {E : Value → Shared → Prop} {pins : List (Addr × Obj)} {s : Shared} {σ : St} {H : Hp} {x : Str} {u : Value} {pos : Pos} {Q : Value → Shared → Prop} (I : Inv X pins σ H s) (hg : Gl X x) (hm : X.mg x = some u) (h : Q u s)
    (hd : (x == ("__debug__" : Str)) = false := by decide) : wpAny (model X.prog X.w) X.A (eval (.Name x pos) X.env) Q E s :=
  Calls.Name_function_global I.ok.kind hg (Calls.loadGlobal_global (by rw [I.ok.glob]; exact I.mod.glob.keeps I.bk) hm h) hd
theorem ld_blt {E : Value → Shared → Prop} {pins : List (Addr × Obj)} {s : Shared} {σ : St} {H : Hp} {x : Str} {u : Value} {pos : Pos} {Q : Value → Shared → Prop} (I : Inv X pins σ H s) (hg : Gl X x) (hm : X.mg x = none) (hv : bootBuiltins x = some u) (h : Q u s)
    (hn : x ≠ "__name__" := by decide) (hd : (x == ("__debug__" : Str)) = false := by decide) : wpAny (model X.prog X.w) X.A (eval (.Name x pos) X.env) Q E s := by
  obtain ⟨mb, h1, h2⟩ := I.mod.blt
  exact Calls.Name_function_global I.ok.kind hg (Calls.loadGlobal_builtin (by rw [I.ok.glob]; exact I.mod.glob.keeps I.bk) hm (by rw [I.ok.blt]; exact h1.keeps I.bk) ((h2 x hn).trans hv) h) hd
/-- a module's constant, a class, a function, as a value -/
theorem pe_glob {x : Str} {v : V} {u : Value} {pos : Pos} (hg : Gl X x) (hm : X.mg x = some u) (r : RelV v u) (hd : (x == ("__debug__" : Str)) = false := by decide) : PE X (.Name x pos) (tC v) :=
  fun _ _ _ H _ I h => ld_glob I hg hm ⟨v, H, I, r, h⟩ hd
theorem pe_bltn {x : Str} {v : V} {u : Value} {pos : Pos} (hg : Gl X x) (hm : X.mg x = none) (hv : bootBuiltins x = some u) (r : RelV v u) (hn : x ≠ "__name__" := by decide) (hd : (x == ("__debug__" : Str)) = false := by decide) : PE X (.Name x pos) (tC v) :=
  fun _ _ _ H _ I h => ld_blt I hg hm hv ⟨v, H, I, r, h⟩ hn hd

/-! ### arithmetic -/
/-- two ints -/
def t2I (ta tb : TE) (k : Int → Int → Hp → Prop) : St → Hp → Prop := fun σ H => ta σ H fun x H1 => tb σ H1 fun y H2 => ∃ i j, x = .int i ∧ y = .int j ∧ k i j H2
def tAdd (ta tb : TE) : TE := fun σ H Q => t2I ta tb (fun i j H2 => Q (.int (i + j)) H2) σ H
def tSub (ta tb : TE) : TE := fun σ H Q => t2I ta tb (fun i j H2 => Q (.int (i - j)) H2) σ H
/-- the left factor below 2^64 -/
def tMul (ta tb : TE) : TE := fun σ H Q => t2I ta tb (fun i j H2 => (-(2 ^ 64) < i ∧ i < 2 ^ 64) ∧ Q (.int (i * j)) H2) σ H
variable {a b : Expr} {ta tb : TE} {pos : Pos}
theorem pe_add (ha : PE X a ta) (hb : PE X b tb) : PE X (.BinOp a .Add b pos) (tAdd ta tb) := by
  intro pins s σ H Q I h
  refine wpAny_BinOp (bin ha hb I h fun v u s2 x y H2 I2 rx ry q => ?_)
  obtain ⟨i, j, rfl, rfl, q⟩ := q
  obtain ⟨t, rfl⟩ := rx
  obtain ⟨t', rfl⟩ := ry
  exact add_int ⟨.int _, H2, I2.tok _, ⟨_, rfl⟩, q⟩
theorem pe_sub (ha : PE X a ta) (hb : PE X b tb) : PE X (.BinOp a .Sub b pos) (tSub ta tb) := by
  intro pins s σ H Q I h
  refine wpAny_BinOp (bin ha hb I h fun v u s2 x y H2 I2 rx ry q => ?_)
  obtain ⟨i, j, rfl, rfl, q⟩ := q
  obtain ⟨t, rfl⟩ := rx
  obtain ⟨t', rfl⟩ := ry
  exact sub_int ⟨.int _, H2, I2.tok _, ⟨_, rfl⟩, q⟩
theorem pe_mul (ha : PE X a ta) (hb : PE X b tb) : PE X (.BinOp a .Mult b pos) (tMul ta tb) := by
  intro pins s σ H Q I h
  refine wpAny_BinOp (bin ha hb I h fun v u s2 x y H2 I2 rx ry q => ?_)
  obtain ⟨i, j, rfl, rfl, ⟨q1, q2⟩, q⟩ := q
  obtain ⟨t, rfl⟩ := rx
  obtain ⟨t', rfl⟩ := ry
  exact mul_int ⟨.int _, H2, I2.tok _, ⟨_, rfl⟩, q⟩ (.of_left (intBits_le_64 q1 q2))

/-! ### comparisons -/
def PC (X : Cx) (op : CmpOp) (a b : Expr) (t : TE) : Prop :=
  ∀ (pins : List (Addr × Obj)) (s : Shared) (σ : St) (H : Hp) (Q : VK), Inv X pins σ H s → t σ H Q →
    wpAny (model X.prog X.w) X.A (eval a X.env) (fun v s₁ => wpAny (model X.prog X.w) X.A (eval b X.env) (fun u s₂ => wpAny (model X.prog X.w) X.A (compareOp op v u) (EP X pins σ Q) X.xe s₂) X.xe s₁) X.xe s
theorem nobehind (b : Expr) {op : CmpOp} (h : op ≠ .In) (h2 : op ≠ .NotIn) : behindInMarks op b = false := by
  have e1 : (op == CmpOp.In) = false := by cases op <;> first | rfl | exact absurd rfl h
  have e2 : (op == CmpOp.NotIn) = false := by cases op <;> first | rfl | exact absurd rfl h2
  cases b <;> simp [behindInMarks, e1, e2]
def tCmp (p : Int → Int → Bool) (ta tb : TE) : TE := fun σ H Q => t2I ta tb (fun i j H2 => Q (.bl (p i j)) H2) σ H
abbrev tLt : TE → TE → TE := tCmp fun i j => decide (i < j)
abbrev tLe : TE → TE → TE := tCmp fun i j => decide (i ≤ j)
abbrev tGt : TE → TE → TE := tCmp fun i j => decide (j < i)
abbrev tGe : TE → TE → TE := tCmp fun i j => decide (j ≤ i)
abbrev tEqI : TE → TE → TE := tCmp fun i j => decide (i = j)
abbrev tNeI : TE → TE → TE := tCmp fun i j => !decide (i = j)
/-- a comparison of two ints, by its rule -/
theorem pc_int {op : CmpOp} {p : Int → Int → Bool} (ha : PE X a ta) (hb : PE X b tb)
    (rule : ∀ (i j : Int) (t u : Tok) (Q : Value → Shared → Prop) (s : Shared), Q (.bool (p i j)) s → wpAny (model X.prog X.w) X.A (compareOp op (.int i t) (.int j u)) Q X.xe s) : PC X op a b (tCmp p ta tb) := by
  intro pins s σ H Q I h
  refine bin ha hb I h fun v u s2 x y H2 I2 rx ry q => ?_
  obtain ⟨i, j, rfl, rfl, q⟩ := q
  obtain ⟨t, rfl⟩ := rx
  obtain ⟨t', rfl⟩ := ry
  exact rule i j t t' _ s2 ⟨.bl _, H2, I2, rfl, q⟩
theorem pc_lt (ha : PE X a ta) (hb : PE X b tb) : PC X .Lt a b (tLt ta tb) := pc_int ha hb fun _ _ _ _ _ _ h => lt_int h
theorem pc_le (ha : PE X a ta) (hb : PE X b tb) : PC X .LtE a b (tLe ta tb) := pc_int ha hb fun _ _ _ _ _ _ h => le_int h
theorem pc_gt (ha : PE X a ta) (hb : PE X b tb) : PC X .Gt a b (tGt ta tb) := pc_int ha hb fun _ _ _ _ _ _ h => gt_int h
theorem pc_ge (ha : PE X a ta) (hb : PE X b tb) : PC X .GtE a b (tGe ta tb) := pc_int ha hb fun _ _ _ _ _ _ h => ge_int h
theorem pc_eqI (ha : PE X a ta) (hb : PE X b tb) : PC X .Eq a b (tEqI ta tb) := pc_int ha hb fun _ _ _ _ _ _ h => eq_int (by rw [Bool.beq_eq_decide_eq]; exact h)
theorem pc_neI (ha : PE X a ta) (hb : PE X b tb) : PC X .NotEq a b (tNeI ta tb) := pc_int ha hb fun _ _ _ _ _ _ h => ne_int (by rw [bne, Bool.beq_eq_decide_eq]; exact h)
/-- is None -/
def tIsN (ta : TE) : TE := fun σ H Q => ta σ H fun x H1 => Q (.bl (decide (x = .non))) H1
def tNotN (ta : TE) : TE := fun σ H Q => ta σ H fun x H1 => Q (.bl (!decide (x = .non))) H1
theorem RelV.none_iff {x : V} {v : Value} (r : RelV x v) : (v == Value.none) = decide (x = .non) := by
  cases x with
  | non => cases r; rfl
  | bl _ => cases r; rfl
  | int _ => obtain ⟨t, rfl⟩ := r; rfl
  | str _ => obtain ⟨t, rfl⟩ := r; rfl
  | byt _ => obtain ⟨t, rfl⟩ := r; rfl
  | flt _ => obtain ⟨t, rfl⟩ := r; rfl
  | ref _ => cases r; rfl
  | ty _ => cases r; rfl
theorem pc_isN {j pos'} (ha : PE X a ta) : PC X .Is a (.Constant .none j pos') (tIsN ta) := by
  intro pins s σ H Q I h
  refine thn (ha pins s σ H _ I h) fun v s1 ⟨x, H1, I1, r1, q1⟩ => ?_
  exact Constant_none (is_none_gen ⟨.bl _, H1, I1, by rw [r1.none_iff]; rfl, q1⟩)
theorem pc_notN {j pos'} (ha : PE X a ta) : PC X .IsNot a (.Constant .none j pos') (tNotN ta) := by
  intro pins s σ H Q I h
  refine thn (ha pins s σ H _ I h) fun v s1 ⟨x, H1, I1, r1, q1⟩ => ?_
  exact Constant_none (isnot_none_gen ⟨.bl _, H1, I1, by rw [r1.none_iff]; rfl, q1⟩)
/-- a comparison as a value, as a test -/
def tB (t : TE) : TT := fun σ H Q => t σ H fun x H1 => ∃ c, x = .bl c ∧ Q c H1
theorem pe_cmp {op : CmpOp} {t : TE} (h : PC X op a b t) (h1 : behindInMarks op b = false := by first | exact nobehind _ (by decide) (by decide) | rfl) : PE X (.Compare a [op] [b] pos) t := fun pins s σ H Q I hw => wpAny_Compare1 (h pins s σ H Q I hw) h1
theorem pt_cmp {op : CmpOp} {t : TE} (h : PC X op a b t) (h1 : behindInMarks op b = false := by first | exact nobehind _ (by decide) (by decide) | rfl) : PT X (.Compare a [op] [b] pos) (tB t) := by
  intro pins s σ H Q I hw
  refine wpAny_isTrue_Compare1 (thn (h pins s σ H _ I hw) fun v s1 h1 => thn h1 fun u s2 h2 => thn h2 fun c s3 ⟨x, H1, I1, r1, q1⟩ => ?_) h1
  obtain ⟨d, rfl, q⟩ := q1
  cases r1
  exact wpAny_truthy_bool ⟨H1, I1, q⟩
/-- an expression whose value is a bool, as a test -/
theorem pt_val {e : Expr} {t : TE} (h : PE X e t) (he : ∀ whole, isTrue e X.env whole = (do let v ← whole; standAt e.pos; holding [v] (truthy v)) := by intro _; rfl) : PT X e (tB t) := by
  intro pins s σ H Q I hw
  refine isTrue_plain (thn (h pins s σ H _ I hw) fun v s1 ⟨x, H1, I1, r1, q1⟩ => ?_) (he _)
  obtain ⟨d, rfl, q⟩ := q1
  cases r1
  exact wpAny_truthy_bool ⟨H1, I1, q⟩

/-! ### and, or, not -/
variable {tA tB' : TT} {rest : List Expr}
def tAnd (t u : TT) : TT := fun σ H Q => t σ H fun c H1 => if c = true then u σ H1 Q else Q false H1
def tOr (t u : TT) : TT := fun σ H Q => t σ H fun c H1 => if c = true then Q true H1 else u σ H1 Q
def tNot (t : TT) : TT := fun σ H Q => t σ H fun c H1 => Q (!c) H1
theorem pw_and1 (ha : PT X a tA) : PW X (.BoolOp .And [a] pos) tA := by
  intro wh pins s σ H Q I h
  refine isTrue_and (thn (ha pins s σ H Q I h) fun c s1 e => ?_)
  cases c with
  | true => exact isTrue_and_nil e
  | false => exact e
theorem pw_or1 (ha : PT X a tA) : PW X (.BoolOp .Or [a] pos) tA := by
  intro wh pins s σ H Q I h
  refine isTrue_or (thn (ha pins s σ H Q I h) fun c s1 e => ?_)
  cases c with
  | false => exact isTrue_or_nil e
  | true => exact e
theorem pw_and (ha : PT X a tA) (hb : PW X (.BoolOp .And (b :: rest) pos) tB') : PW X (.BoolOp .And (a :: b :: rest) pos) (tAnd tA tB') := by
  intro wh pins s σ H Q I h
  refine isTrue_and (thn (ha pins s σ H _ I h) fun c s1 ⟨H1, I1, q1⟩ => ?_)
  cases c with
  | true => exact hb wh pins s1 σ H1 Q I1 q1
  | false => exact ⟨H1, I1, q1⟩
theorem pw_or (ha : PT X a tA) (hb : PW X (.BoolOp .Or (b :: rest) pos) tB') : PW X (.BoolOp .Or (a :: b :: rest) pos) (tOr tA tB') := by
  intro wh pins s σ H Q I h
  refine isTrue_or (thn (ha pins s σ H _ I h) fun c s1 ⟨H1, I1, q1⟩ => ?_)
  cases c with
  | true => exact ⟨H1, I1, q1⟩
  | false => exact hb wh pins s1 σ H1 Q I1 q1
theorem pt_not (ha : PT X a tA) : PT X (.UnaryOp .Not a pos) (tNot tA) := by
  intro pins s σ H Q I h
  exact isTrue_not (ha pins s σ H (fun c H1 => Q (!c) H1) I h)
/-- .. as values (bools) -/
def tAndV (ta tb : TE) : TE := fun σ H Q => ta σ H fun x H1 => ∃ c, x = .bl c ∧ if c = true then tb σ H1 Q else Q (.bl false) H1
def tOrV (ta tb : TE) : TE := fun σ H Q => ta σ H fun x H1 => ∃ c, x = .bl c ∧ if c = true then Q (.bl true) H1 else tb σ H1 Q
def tNotV (ta : TE) : TE := fun σ H Q => ta σ H fun x H1 => ∃ c, x = .bl c ∧ Q (.bl (!c)) H1
theorem pe_one {op} {t : TE} (h : PE X a t) : PE X (.BoolOp op [a] pos) t := fun pins s σ H Q I hw => BoolOp_one (h pins s σ H Q I hw)
theorem pe_and (ha : PE X a ta) (hb : PE X (.BoolOp .And (b :: rest) pos) tb) : PE X (.BoolOp .And (a :: b :: rest) pos) (tAndV ta tb) := by
  intro pins s σ H Q I h
  refine BoolOp_and (thn (ha pins s σ H _ I h) fun v s1 ⟨x, H1, I1, r1, q1⟩ => ?_)
  obtain ⟨c, rfl, q1⟩ := q1
  cases r1
  refine wpAny_truthy_bool ?_
  cases c with
  | true => exact hb pins s1 σ H1 Q I1 q1
  | false => exact ⟨.bl false, H1, I1, rfl, q1⟩
theorem pe_or (ha : PE X a ta) (hb : PE X (.BoolOp .Or (b :: rest) pos) tb) : PE X (.BoolOp .Or (a :: b :: rest) pos) (tOrV ta tb) := by
  intro pins s σ H Q I h
  refine BoolOp_or (thn (ha pins s σ H _ I h) fun v s1 ⟨x, H1, I1, r1, q1⟩ => ?_)
  obtain ⟨c, rfl, q1⟩ := q1
  cases r1
  refine wpAny_truthy_bool ?_
  cases c with
  | false => exact hb pins s1 σ H1 Q I1 q1
  | true => exact ⟨.bl true, H1, I1, rfl, q1⟩
theorem pe_not (ha : PE X a ta) : PE X (.UnaryOp .Not a pos) (tNotV ta) := by
  intro pins s σ H Q I h
  refine UnaryOp_ (thn (ha pins s σ H _ I h) fun v s1 ⟨x, H1, I1, r1, q1⟩ => ?_)
  obtain ⟨c, rfl, q1⟩ := q1
  cases r1
  exact not_of (wpAny_truthy_bool ⟨.bl (!c), H1, I1, rfl, q1⟩)
/-- a if t else b -/
def tIf (t : TT) (ta tb : TE) : TE := fun σ H Q => t σ H fun c H1 => if c = true then ta σ H1 Q else tb σ H1 Q
theorem pe_ifExp {c : Expr} (hc : PT X c tA) (ha : PE X a ta) (hb : PE X b tb) : PE X (.IfExp c a b pos) (tIf tA ta tb) := by
  intro pins s σ H Q I h
  refine wpAny_IfExp (thn (hc pins s σ H _ I h) fun d s1 ⟨H1, I1, q1⟩ => ?_)
  cases d with
  | true => exact ha pins s1 σ H1 Q I1 q1
  | false => exact hb pins s1 σ H1 Q I1 q1
end
end L2

namespace L2
open PySem PySem.Spec PyProof.Rows

/-! ### a list, a tuple that is read: tracked, frozen, or an object of the module -/
def SqL (K : PySem.W.Frag) (H : Hp) (a : Addr) (xs : List V) : Prop :=
  Rd H a (.lst xs) ∨
    ∃ (o : Obj) (its : Array Value) (n : Nat), K.lookup a = some o ∧ o.cls = .type "list" ∧ o.dict = none ∧ o.data = .seq its n ∧ its.size ≤ sizeLine ∧ Vals xs its.toList
def SqT (K : PySem.W.Frag) (H : Hp) (a : Addr) (xs : List V) : Prop :=
  Rd H a (.tup xs) ∨
    ∃ (o : Obj) (its : Array Value) (n : Nat), K.lookup a = some o ∧ o.cls = .type "tuple" ∧ o.data = .seq its n ∧ its.size ≤ sizeLine ∧ Vals xs its.toList
def absV : Value → Option V
  | .none => some .non
  | .bool b => some (.bl b)
  | .int i _ => some (.int i)
  | .str x _ => some (.str x)
  | .bytes b _ => some (.byt b)
  | .float b _ => some (.flt b)
  | .ref a => some (.ref a)
  | .type n => some (.ty n)
  | _ => none
theorem RelV.abs {x : V} {u : Value} (r : RelV x u) : absV u = some x := by
  cases x with
  | non => cases r; rfl
  | bl _ => cases r; rfl
  | int _ => obtain ⟨t, rfl⟩ := r; rfl
  | str _ => obtain ⟨t, rfl⟩ := r; rfl
  | byt _ => obtain ⟨t, rfl⟩ := r; rfl
  | flt _ => obtain ⟨t, rfl⟩ := r; rfl
  | ref _ => cases r; rfl
  | ty _ => cases r; rfl
theorem RelV.inj {x y : V} {u : Value} (r : RelV x u) (q : RelV y u) : x = y := Option.some.inj (r.abs.symm.trans q.abs)
theorem Vals.inj : ∀ {xs ys : List V} {us : List Value}, Vals xs us → Vals ys us → xs = ys
  | _, _, _, .nil, .nil => rfl
  | _, _, _, .cons r t, .cons r' t' => by rw [r.inj r', Vals.inj t t']
section
variable {X : Cx} {pins : List (Addr × Obj)} {σ : St} {H : Hp} {s : Shared} {a : Addr} {xs ys : List V}
theorem SqL.of {K : PySem.W.Frag} (h : H a = some (.lst xs)) : SqL K H a xs := .inl (.inl h)
theorem SqT.of {K : PySem.W.Frag} (h : H a = some (.tup xs)) : SqT K H a xs := .inl (.inl h)
theorem Inv.list (I : Inv X pins σ H s) (h : SqL X.K H a xs) : ∃ its : List Value, Vals xs its ∧ PlainL s.heap a its.toArray ∧ xs.length ≤ sizeLine := by
  rcases h with h | ⟨o, its, n, hk, hc, hd, hs, hz, r⟩
  · obtain ⟨z, its, n, r, e⟩ := h.ok I.hok
    exact ⟨its, r, ⟨_, n, e, rfl, rfl, rfl⟩, z⟩
  · refine ⟨its.toList, r, ⟨o, n, I.kIn a o hk, hc, hd, by simpa using hs⟩, ?_⟩
    have e := r.length
    simp only [Array.length_toList] at e
    omega
theorem Inv.tuple (I : Inv X pins σ H s) (h : SqT X.K H a xs) : ∃ its : List Value, Vals xs its ∧ IsTup s.heap a its.toArray ∧ xs.length ≤ sizeLine := by
  rcases h with h | ⟨o, its, n, hk, hc, hs, hz, r⟩
  · obtain ⟨z, its, r, p⟩ := h.ok I.hok
    exact ⟨its, r, p, z⟩
  · refine ⟨its.toList, r, ⟨o, I.kIn a o hk, hc, n, by simpa using hs⟩, ?_⟩
    have e := r.length
    simp only [Array.length_toList] at e
    omega
theorem Inv.list_inj (I : Inv X pins σ H s) (h : SqL X.K H a xs) (h' : SqL X.K H a ys) : xs = ys := by
  obtain ⟨its, r, ⟨o, n, e, _, _, d⟩, _⟩ := I.list h
  obtain ⟨its', r', ⟨o', n', e', _, _, d'⟩, _⟩ := I.list h'
  rw [e] at e'; cases e'
  rw [d] at d'
  injection d' with d1 _
  have : its = its' := by simpa using congrArg Array.toList d1
  subst this
  exact r.inj r'
theorem Inv.tuple_inj (I : Inv X pins σ H s) (h : SqT X.K H a xs) (h' : SqT X.K H a ys) : xs = ys := by
  obtain ⟨its, r, ⟨o, e, _, n, d⟩, _⟩ := I.tuple h
  obtain ⟨its', r', ⟨o', e', _, n', d'⟩, _⟩ := I.tuple h'
  rw [e] at e'; cases e'
  rw [d] at d'
  injection d' with d1 _
  have : its = its' := by simpa using congrArg Array.toList d1
  subst this
  exact r.inj r'
end

/-! ### another wish about exceptions -/
abbrev Cx.wish (X : Cx) (E : Value → Shared → Prop) : Cx := { X with xe := E }
/-- no exception leaves -/
abbrev Cx.nox (X : Cx) : Cx := X.wish fun _ _ => False
theorem Cx.Ok.wish {X : Cx} (ok : X.Ok) (E : Value → Shared → Prop) : (X.wish E).Ok :=
  ⟨ok.mod, ok.kind, ok.glob, ok.blt, ok.above, ok.inj, ok.has, ok.cab, ok.hd, ok.frames, ok.stk, ok.exf, ok.bs, ok.bsz, ok.noex, ok.exfs, ok.funs, ok.frf⟩
theorem Cx.Ok.unwish {X : Cx} {E : Value → Shared → Prop} (ok : (X.wish E).Ok) : X.Ok :=
  ⟨ok.mod, ok.kind, ok.glob, ok.blt, ok.above, ok.inj, ok.has, ok.cab, ok.hd, ok.frames, ok.stk, ok.exf, ok.bs, ok.bsz, ok.noex, ok.exfs, ok.funs, ok.frf⟩
section
variable {X : Cx} {pins : List (Addr × Obj)} {σ : St} {H : Hp} {s : Shared} {E : Value → Shared → Prop}
theorem Inv.wish (I : Inv X pins σ H s) (E : Value → Shared → Prop) : Inv (X.wish E) pins σ H s := ⟨I.ok.wish E, I.os, I.bare, I.base, I.loc, I.cell, I.free, I.freeC, I.pin, I.hok, I.len⟩
theorem Inv.unwish (I : Inv (X.wish E) pins σ H s) : Inv X pins σ H s := ⟨I.ok.unwish, I.os, I.bare, I.base, I.loc, I.cell, I.free, I.freeC, I.pin, I.hok, I.len⟩
theorem SP.unwish {D : Ends} {f : Flow} {s' : Shared} (h : SP (X.wish E) pins D f s') : SP X pins D f s' := by
  cases f with
  | next => obtain ⟨σ', H', I, q⟩ := h; exact ⟨σ', H', I.unwish, q⟩
  | brk => obtain ⟨σ', H', I, q⟩ := h; exact ⟨σ', H', I.unwish, q⟩
  | cont => obtain ⟨σ', H', I, q⟩ := h; exact ⟨σ', H', I.unwish, q⟩
  | ret u => obtain ⟨v, σ', H', I, r, q⟩ := h; exact ⟨v, σ', H', I.unwish, r, q⟩
theorem PE.nox {e : Expr} {t : TE} (h : PE X.nox e t) : PE X e t := fun pins s σ H Q I hw =>
  wpAny_mono (h pins s σ H Q (I.wish _) hw) (fun _ _ ⟨v, H', I', r, q⟩ => ⟨v, H', I'.unwish, r, q⟩) fun _ _ z => False.elim z
theorem PT.nox {e : Expr} {t : TT} (h : PT X.nox e t) : PT X e t := fun pins s σ H Q I hw =>
  wpAny_mono (h pins s σ H Q (I.wish _) hw) (fun _ _ ⟨H', I', q⟩ => ⟨H', I'.unwish, q⟩) fun _ _ z => False.elim z
theorem PSs.nox {st : List Stmt} {t : TS} (h : PSs X.nox st t) : PSs X st t := fun pins s σ H D I hw =>
  wpAny_mono (h pins s σ H D (I.wish _) hw) (fun _ _ q => q.unwish) fun _ _ z => False.elim z
end

/-! ### blocks and small statements -/
section
variable {X : Cx} {st : Stmt} {rest : List Stmt} {t u : TS} {e : Expr} {te : TE} {pos : Pos}
def tNext : TS := fun D σ H => D.nx σ H
def tSeq (t u : TS) : TS := fun D σ H => t { D with nx := u D } σ H
theorem pss_nil : PSs X [] tNext := fun _ _ σ H _ I h => wpAny_execs_nil ⟨σ, H, I, h⟩
theorem pss_cons (h1 : PS X st t) (h2 : PSs X rest u) : PSs X (st :: rest) (tSeq t u) := by
  intro pins s σ H D I h
  refine wpAny_execs_cons (thn (h1 pins s σ H { D with nx := u D } I h) fun f s1 q => ?_)
  cases f with
  | next =>
    obtain ⟨σ', H', I', q⟩ := q
    exact h2 pins s1 σ' H' D I' q
  | ret v => exact q
  | brk => exact q
  | cont => exact q
theorem pss_one (h1 : PS X st t) : PSs X [st] t := by
  intro pins s σ H D I h
  refine wpAny_execs_cons (thn (h1 pins s σ H D I h) fun f s1 q => ?_)
  cases f with
  | next => exact wpAny_execs_nil q
  | ret v => exact q
  | brk => exact q
  | cont => exact q
def tBreak : TS := fun D σ H => D.bk σ H
def tCont : TS := fun D σ H => D.ct σ H
theorem ps_pass : PS X (.Pass pos) tNext := fun _ _ σ H _ I h => wpAny_Pass ⟨σ, H, I, h⟩
theorem ps_break : PS X (.Break pos) tBreak := fun _ _ σ H _ I h => wpAny_Break ⟨σ, H, I, h⟩
theorem ps_continue : PS X (.Continue pos) tCont := fun _ _ σ H _ I h => wpAny_Continue ⟨σ, H, I, h⟩
/-- in a def's body nothing is shown -/
theorem Inv.quiet {pins : List (Addr × Obj)} {σ : St} {H : Hp} {s : Shared} (I : Inv X pins σ H s) : interactive X.env = false := by simp [interactive, I.ok.kind]
/-- a docstring -/
theorem ps_doc {x j pos pos'} : PS X (.Expr (.Constant (.str x) j pos) pos') tNext := fun _ s σ H _ I h => wpAny_Expr (Calls.Constant_str (show SP X _ _ .next { s with toks := s.toks + 1 } from ⟨σ, H, I.tok _, h⟩)) I.quiet
/-- an expression whose value is dropped -/
def tDrop (te : TE) : TS := fun D σ H => te σ H fun _ H1 => D.nx σ H1
theorem ps_expr (he : PE X e te) (hs : swapsWith e none pos.line X.env = pure false := by rfl) : PS X (.Expr e pos) (tDrop te) := by
  intro pins s σ H D I h
  exact wpAny_Expr_any (thn (he pins s σ H _ I h) fun v s1 ⟨x, H1, I1, r1, q1⟩ => ⟨σ, H1, I1, q1⟩) I.quiet hs
def tRet (te : TE) : TS := fun D σ H => te σ H D.rt
theorem ps_ret (he : PE X e te) : PS X (.Return (some e) pos) (tRet te) := by
  intro pins s σ H D I h
  exact wpAny_Return_some (thn (he pins s σ H _ I h) fun v s1 ⟨x, H1, I1, r1, q1⟩ => ⟨x, σ, H1, I1, r1, q1⟩)
def tRetN : TS := fun D _ H => D.rt .non H
theorem ps_retN : PS X (.Return none pos) tRetN := fun _ _ σ H _ I h => wpAny_Return_none ⟨.non, σ, H, I, rfl, h⟩
def tIfS (c : TT) (t u : TS) : TS := fun D σ H => c σ H fun b H1 => if b = true then t D σ H1 else u D σ H1
theorem ps_if {c : Expr} {a b : List Stmt} {tc : TT} (hc : PT X c tc) (ha : PSs X a t) (hb : PSs X b u) : PS X (.If c a b pos) (tIfS tc t u) := by
  intro pins s σ H D I h
  refine wpAny_If (thn (hc pins s σ H _ I h) fun d s1 ⟨H1, I1, q1⟩ => ?_)
  cases d with
  | true => exact ha pins s1 σ H1 D I1 q1
  | false => exact hb pins s1 σ H1 D I1 q1
/-- code that the proof never comes to -/
def tNever : TS := fun _ _ _ => False
theorem ps_never : PS X st tNever := fun _ _ _ _ _ _ h => h.elim
theorem pss_never {sts : List Stmt} : PSs X sts tNever := fun _ _ _ _ _ _ h => h.elim
end

/-! ### targets -/
abbrev TG := V → St → Hp → (St → Hp → Prop) → Prop
abbrev TGs := List V → St → Hp → (St → Hp → Prop) → Prop
def PG (X : Cx) (target : Expr) (t : TG) : Prop :=
  ∀ (pins : List (Addr × Obj)) (s : Shared) (σ : St) (H : Hp) (v : V) (u : Value) (Q : St → Hp → Prop), Inv X pins σ H s → RelV v u → t v σ H Q →
    wpAny (model X.prog X.w) X.A (assign target X.env u) (fun _ s' => ∃ σ' H', Inv X pins σ' H' s' ∧ Q σ' H') X.xe s
/-- several targets, one after another -/
def PGs (X : Cx) (ts : List Expr) (t : TGs) : Prop :=
  ∀ (pins : List (Addr × Obj)) (s : Shared) (σ : St) (H : Hp) (vs : List V) (us : List Value) (Q : St → Hp → Prop), Inv X pins σ H s → Vals vs us → t vs σ H Q →
    wpAny (model X.prog X.w) X.A (assignInOrder ((assignEach ts X.env).map (·.2)) us) (fun _ s' => ∃ σ' H', Inv X pins σ' H' s' ∧ Q σ' H') X.xe s
/-- o[i] = v, by values -/
abbrev TSet := V → V → V → Hp → (Hp → Prop) → Prop
def PSet (X : Cx) (t : TSet) : Prop :=
  ∀ (pins : List (Addr × Obj)) (s : Shared) (σ : St) (H : Hp) (o i v : V) (ov iv u : Value) (Q : Hp → Prop), Inv X pins σ H s → RelV o ov → RelV i iv → RelV v u → t o i v H Q →
    wpAny (model X.prog X.w) X.A (setItem ov iv u) (fun _ s' => ∃ H', Inv X pins σ H' s' ∧ Q H') X.xe s
/-- a op= b, by values -/
abbrev TIp := V → V → Hp → VK → Prop
def PIp (X : Cx) (op : Operator) (t : TIp) : Prop :=
  ∀ (pins : List (Addr × Obj)) (s : Shared) (σ : St) (H : Hp) (x y : V) (v u : Value) (Q : VK), Inv X pins σ H s → RelV x v → RelV y u → t x y H Q →
    wpAny (model X.prog X.w) X.A (inplaceOp op v u) (EP X pins σ Q) X.xe s
section
variable {X : Cx} {pos : Pos}
def gName (i : Nat) : TG := fun v σ H Q => Q (σ.set i (some v)) H
theorem pg_name {i : Nat} {x : Str} (hN : X.N.Nodup) (hi : X.N[i]? = some x) (hx : Loc X.env.scope x) (hf : X.fn x = true ∨ X.env.scope.names.lookup x = some .local := by first | exact .inl rfl | exact .inr rfl | assumption) : PG X (.Name x pos) (gName i) := by
  intro pins s σ H v u Q I r h
  exact wpAny_assign_Name (store_ok I hN hi hx r (fun s' I' => ⟨_, H, I', h⟩) hf)
def gNil : TGs := fun vs σ H Q => vs = [] ∧ Q σ H
def gCons (t : TG) (u : TGs) : TGs := fun vs σ H Q => ∃ v r, vs = v :: r ∧ t v σ H fun σ' H' => u r σ' H' Q
theorem pgs_nil : PGs X [] gNil := by
  intro pins s σ H vs us Q I r h
  obtain ⟨e, h⟩ := h
  subst e
  cases r
  exact assignInOrder_nil ⟨σ, H, I, h⟩
theorem pgs_cons {e : Expr} {es : List Expr} {t : TG} {u : TGs} (h1 : PG X e t) (h2 : PGs X es u)
    (hs : (assignEach (e :: es) X.env).map (·.2) = assign e X.env :: (assignEach es X.env).map (·.2) := by rfl) : PGs X (e :: es) (gCons t u) := by
  intro pins s σ H vs us Q I r h
  obtain ⟨v, vr, e1, h⟩ := h
  subst e1
  cases r with
  | cons r rr =>
    rw [hs]
    refine assignInOrder_cons (thn (h1 pins s σ H _ _ _ I r h) fun _ s1 ⟨σ1, H1, I1, q1⟩ => ?_)
    exact h2 pins s1 σ1 H1 _ _ Q I1 rr q1
/-- (a, b, ..) = a tuple of that length -/
def gTup (K : PySem.W.Frag) (n : Nat) (t : TGs) : TG := fun v σ H Q => ∃ a xs, v = .ref a ∧ SqT K H a xs ∧ xs.length = n ∧ t xs σ H Q
theorem pg_tup {es : List Expr} {k : Nat} {t : TGs} {n : Nat} (hc : X.calm = true) (h : PGs X es t)
    (hn : (assignEach es X.env).length = n := by rfl) (hst : (assignEach es X.env).findIdx? (·.1) = none := by rfl) : PG X (.Tuple es k pos) (gTup X.K n t) := by
  intro pins s σ H v u Q I r hw
  obtain ⟨a, xs, e1, hq, hl, hw⟩ := hw
  subst e1
  cases r
  obtain ⟨its, rv, ht, hz⟩ := I.tuple hq
  refine assign_Tuple_tuple (I.ok.hd hc) ht (by simp [hn, ← hl, rv.length]) hst fun h' hx => ?_
  have I1 : Inv X pins σ H { s with heap := h' } := I.kept (t' := s.toks) fun b o e => hx b o (Nat.ne_of_lt (Heap.lt_size e)) e
  exact h pins _ σ H xs _ Q I1 (by simpa using rv) hw
/-- o[i] = .. -/
def gSub (to ti : TE) (t : TSet) : TG := fun v σ H Q => to σ H fun o H1 => ti σ H1 fun i H2 => t o i v H2 fun H3 => Q σ H3
theorem pg_sub {o i : Expr} {to ti : TE} {t : TSet} (ho : PE X o to) (hi : PE X i ti) (hs : PSet X t)
    (ha : ∀ v, assign (.Subscript o i pos) X.env v = (do
      let ov ← holding [v] (eval o X.env)
      let iv ← holding [v, ov] (eval i X.env)
      standAt pos
      holding [v, ov, iv] (setItem ov iv v)
      release [v, ov, iv] []) := by intro _; rfl) : PG X (.Subscript o i pos) (gSub to ti t) := by
  intro pins s σ H v u Q I r h
  rw [ha]
  refine wpAny_bind (wpAny_holding (thn (ho pins s σ H _ I h) fun ov s1 ⟨x, H1, I1, r1, q1⟩ => ?_))
  refine wpAny_bind (wpAny_holding (thn (hi pins s1 σ H1 _ I1 q1) fun iv s2 ⟨y, H2, I2, r2, q2⟩ => ?_))
  refine wpAny_bind (wpAny_standAt (wpAny_bind (wpAny_holding (thn (hs pins s2 σ H2 x y v ov iv u _ I2 r1 r2 r q2) fun _ s3 ⟨H3, I3, q3⟩ => ?_))))
  exact wpAny_release ⟨σ, H3, I3, q3⟩
/-- target = value -/
def tAsg (te : TE) (g : TG) : TS := fun D σ H => te σ H fun x H1 => g x σ H1 D.nx
theorem ps_asg {tg e : Expr} {te : TE} {g : TG} (he : PE X e te) (hg : PG X tg g) (hs : swapsWithSole [tg] e pos.line X.env = pure false := by rfl) (hw : swappedStores [tg] e X.env = pure none := by rfl)
    (h1 : (assignEach [tg] X.env).map (·.2) = [assign tg X.env] := by rfl) : PS X (.Assign [tg] e pos) (tAsg te g) := by
  intro pins s σ H D I h
  refine wpAny_Assign_stores (thn (he pins s σ H _ I h) fun v s1 ⟨x, H1, I1, r1, q1⟩ => ?_) hs hw
  rw [h1]
  exact thn (hg pins s1 σ H1 x v _ I1 r1 q1) fun _ s2 q => q
/-- name = value -/
theorem ps_set {i : Nat} {x : Str} {e : Expr} {te : TE} {pos' : Pos} (hN : X.N.Nodup) (hi : X.N[i]? = some x) (hx : Loc X.env.scope x) (he : PE X e te) (hs : swapsWith e (some (.Name x pos')) pos.line X.env = pure false := by rfl) (hf : X.fn x = true ∨ X.env.scope.names.lookup x = some .local := by first | exact .inl rfl | exact .inr rfl | assumption) :
    PS X (.Assign [.Name x pos'] e pos) (tAsg te (gName i)) := by
  intro pins s σ H D I h
  refine wpAny_Assign_Name (thn (he pins s σ H _ I h) fun v s1 ⟨y, H1, I1, r1, q1⟩ => ?_) hs
  exact store_ok I1 hN hi hx r1 (fun s2 I2 => ⟨_, H1, I2, q1⟩) hf
/-- a, b = x, y with plain local names: stored from the right; the pair itself is not tracked (the opening rows as in PyProof/Rows/TupAssign.lean:23) -/
def tPar (i j : Nat) (ta : TA) : TS := fun D σ H => ta σ H fun vs H1 => ∃ v w, vs = [v, w] ∧ D.nx ((σ.set i (some v)).set j (some w)) H1
theorem ps_par {i j : Nat} {x y : Str} {a b : Expr} {ta : TA} {px py pt : Pos} {kt k2 pt2} (hc : X.calm = true) (hN : X.N.Nodup) (hi : X.N[i]? = some x) (hj : X.N[j]? = some y) (hij : i ≠ j)
    (hx : X.env.scope.names.lookup x = some .local) (hy : X.env.scope.names.lookup y = some .local) (ha : PA X [a, b] ta)
    (hw : swappedStores [.Tuple [.Name x px, .Name y py] kt pt] (.Tuple [a, b] k2 pt2) X.env = pure (some [x, y]))
    (hs : swapsWithSole [.Tuple [.Name x px, .Name y py] kt pt] (.Tuple [a, b] k2 pt2) pos.line X.env = pure false := by rfl) :
    PS X (.Assign [.Tuple [.Name x px, .Name y py] kt pt] (.Tuple [a, b] k2 pt2) pos) (tPar i j ta) := by
  intro pins s σ H D I h
  rw [exec_Assign_arm]
  refine wpAny_bind (wpAny_standAt ?_)
  rw [hs]
  refine wpAny_bind (wpAny_pure ?_)
  rw [if_neg (by decide)]
  refine wpAny_bind (Tuple_ (thn (ha _ pins s σ H _ I h) fun us s1 ⟨vs, H1, I1, r1, q1⟩ => ?_))
  obtain ⟨v, w, e1, q1⟩ := q1
  subst e1
  obtain ⟨u1, u2, rfl, rv, rw'⟩ : ∃ u1 u2, us = [u1, u2] ∧ RelV v u1 ∧ RelV w u2 := by
    cases r1 with
    | cons p q =>
      cases q with
      | cons p' q' =>
        cases q'
        exact ⟨_, _, rfl, p, p'⟩
  refine wpAny_newObj_type ?_ (by show 2 ≤ sizeLine; decide)
  have I2 : Inv X pins σ H1 { s1 with heap := s1.heap.push { cls := .type "tuple", data := .seq [u1, u2].toArray } } := I1.kept (t' := s1.toks) fun b o e => Heap.get?_push_of_some _ e
  rw [hw]
  refine wpAny_bind (wpAny_pure ?_)
  show wpAny (model X.prog X.w) X.A (do rule "assign.swapped-stores"; let items ← unpackItems (.ref s1.heap.objs.size) 2 none; assignInOrder [fun v => bindName X.env y v, fun v => bindName X.env x v] items.reverse; pure Flow.next) _ _ _
  refine wpAny_bind (wpAny_rule (wpAny_bind (unpackItems_tuple (items := #[u1, u2]) (I.ok.hd hc) (IsTup.new s1.heap _) fun h' hx' => ?_)))
  have I3 := I2.kept (h' := h') (t' := s1.toks) fun b o e => hx' b o (Nat.ne_of_lt (Heap.lt_size e)) e
  show wpAny _ _ (assignInOrder [fun v => bindName X.env y v, fun v => bindName X.env x v] [u2, u1] >>= fun _ => pure Flow.next) _ _ _
  refine wpAny_bind (assignInOrder_cons (wpAny_bindName (store_ok I3 hN hj (.inl hy) rw' (fun s2 I4 => ?_) (.inr hy))))
  refine assignInOrder_cons (wpAny_bindName (store_ok I4 hN hi (.inl hx) rv (fun s3 I5 => assignInOrder_nil (wpAny_pure ?_)) (.inr hx)))
  rw [List.set_comm _ _ (Ne.symm hij)] at I5
  exact ⟨_, H1, I5, q1⟩
/-- name op= e -/
def tAug (i : Nat) (te : TE) (ti : TIp) : TS := fun D σ H => ∃ x, σ[i]? = some (some x) ∧ te σ H fun y H1 => ti x y H1 fun z H2 => D.nx (σ.set i (some z)) H2
theorem ps_aug {i : Nat} {x : Str} {e : Expr} {te : TE} {op : Operator} {ti : TIp} {pos' : Pos} (hN : X.N.Nodup) (hi : X.N[i]? = some x) (hx : Loc X.env.scope x) (he : PE X e te) (ho : PIp X op ti) (hf : X.fn x = true ∨ X.env.scope.names.lookup x = some .local := by first | exact .inl rfl | exact .inr rfl | assumption) :
    PS X (.AugAssign (.Name x pos') op e pos) (tAug i te ti) := by
  intro pins s σ H D I h
  obtain ⟨v, e1, h⟩ := h
  obtain ⟨m, hn, hl⟩ := I.loc
  have vis : Vis X.env.scope x := by rcases hx with k | k; exact .inl k; exact .inr (.inl k)
  obtain ⟨u, r, l⟩ := hl i x v hi e1 vis
  refine wpAny_AugAssign_Name ?_
  have go : wpAny (model X.prog X.w) X.A (eval e X.env) (fun w s₂ => wpAny (model X.prog X.w) X.A (inplaceOp op u w) (fun r s₃ => wpAny (model X.prog X.w) X.A (storeName X.env x r) (fun _ => SP X pins D .next) X.xe s₃) X.xe s₂) X.xe s := by
    refine thn (he pins s σ H _ I h) fun w s1 ⟨y, H1, I1, r1, q1⟩ => ?_
    refine thn (ho pins s1 σ H1 v y u w _ I1 r r1 q1) fun z s2 ⟨zv, H2, I2, r2, q2⟩ => ?_
    exact store_ok I2 hN hi hx r2 (fun s3 I3 => ⟨_, H2, I3, q2⟩) hf
  rcases l with ⟨hk, hm⟩ | ⟨hk, c, hc, hcell⟩
  · exact wpAny_loadName_local I.ok.kind hk hn hm go
  · rcases hk with hk | hk
    · exact wpAny_loadName_cell I.ok.kind hk hc hcell go
    · rcases hx with k | k
      · have : X.env.scope.names.lookup x = some .free := hk
        rw [k] at this; cases this
      · have : X.env.scope.names.lookup x = some .free := hk
        rw [k] at this; cases this
/-- o[i] op= e -/
def tAugS (to ti te : TE) (tget : V → V → Hp → VK → Prop) (tip : TIp) (tset : TSet) : TS := fun D σ H => to σ H fun o H1 => ti σ H1 fun i H2 => tget o i H2 fun x H3 => te σ H3 fun y H4 => tip x y H4 fun z H5 => tset o i z H5 fun H6 => D.nx σ H6
/-- o[i], by values -/
def PGet (X : Cx) (t : V → V → Hp → VK → Prop) : Prop :=
  ∀ (pins : List (Addr × Obj)) (s : Shared) (σ : St) (H : Hp) (o i : V) (ov iv : Value) (Q : VK), Inv X pins σ H s → RelV o ov → RelV i iv → t o i H Q →
    wpAny (model X.prog X.w) X.A (getItem ov iv) (EP X pins σ Q) X.xe s
theorem ps_augS {o i e : Expr} {to ti te : TE} {tget : V → V → Hp → VK → Prop} {tip : TIp} {tset : TSet} {op : Operator} {tpos : Pos} (ho : PE X o to) (hi : PE X i ti) (hg : PGet X tget) (he : PE X e te) (hp : PIp X op tip) (hs : PSet X tset)
    (ha : ∀ ov iv new, augStore i ov iv new = (do holding [new, ov, iv] (setItem ov iv new); release [new, ov, iv] []; pure .next) := by intros; rfl) : PS X (.AugAssign (.Subscript o i tpos) op e pos) (tAugS to ti te tget tip tset) := by
  intro pins s σ H D I h
  refine wpAny_AugAssign_SubscriptAny (thn (ho pins s σ H _ I h) fun ov s1 ⟨x1, H1, I1, r1, q1⟩ => ?_) ha
  refine thn (hi pins s1 σ H1 _ I1 q1) fun iv s2 ⟨x2, H2, I2, r2, q2⟩ => ?_
  refine thn (hg pins s2 σ H2 x1 x2 ov iv _ I2 r1 r2 q2) fun old s3 ⟨x3, H3, I3, r3, q3⟩ => ?_
  refine thn (he pins s3 σ H3 _ I3 q3) fun v s4 ⟨x4, H4, I4, r4, q4⟩ => ?_
  refine thn (hp pins s4 σ H4 x3 x4 old v _ I4 r3 r4 q4) fun new s5 ⟨x5, H5, I5, r5, q5⟩ => ?_
  exact thn (hs pins s5 σ H5 x1 x2 x5 ov iv new _ I5 r1 r2 r5 q5) fun _ s6 ⟨H6, I6, q6⟩ => ⟨σ, H6, I6, q6⟩
/-- ints -/
def ipI (f : Int → Int → Int) : TIp := fun x y H Q => ∃ i j, x = .int i ∧ y = .int j ∧ Q (.int (f i j)) H
theorem ip_add : PIp X .Add (ipI fun i j => i + j) := by
  intro pins s σ H x y v u Q I r1 r2 h
  obtain ⟨i, j, e1, e2, q⟩ := h
  subst e1; subst e2
  obtain ⟨t, rfl⟩ := r1
  obtain ⟨t', rfl⟩ := r2
  exact iadd_int ⟨.int _, H, I.tok _, ⟨_, rfl⟩, q⟩
theorem ip_sub : PIp X .Sub (ipI fun i j => i - j) := by
  intro pins s σ H x y v u Q I r1 r2 h
  obtain ⟨i, j, e1, e2, q⟩ := h
  subst e1; subst e2
  obtain ⟨t, rfl⟩ := r1
  obtain ⟨t', rfl⟩ := r2
  exact isub_int ⟨.int _, H, I.tok _, ⟨_, rfl⟩, q⟩
end

/-! ### while -/
section
variable {X : Cx} {pos : Pos}
/-- the invariant W with its measure -/
def tWhile (c : TT) (tb : TS) : TS := fun D σ H => ∃ W : Nat → St → Hp → Prop, (∃ m, W m σ H) ∧ ∀ m σ H, W m σ H →
  c σ H fun b H1 => if b = true then ∃ N : St → Hp → Prop, (∀ σ' H', N σ' H' → ∃ m', m' < m ∧ W m' σ' H') ∧ tb { D with nx := N, ct := N, bk := D.nx } σ H1 else D.nx σ H1
theorem ps_while {c : Expr} {body : List Stmt} {tc : TT} {tb : TS} (hp : PassesOwn (model X.prog X.w) X.A X.env X.xe) (hc : PT X c tc) (hb : PSs X body tb) : PS X (.While c body [] pos) (tWhile tc tb) := by
  intro pins s σ H D I h
  obtain ⟨W, ⟨m0, w0⟩, turn⟩ := h
  refine wpAny_While (codeAny_whileLoop (fun n s' => ∃ σ' H', Inv X pins σ' H' s' ∧ W n σ' H') ?_ m0 ⟨σ, H, I, w0⟩)
  rintro n s1 ⟨σ1, H1, I1, w1⟩
  refine wpAny_passesOwn hp (thn (hc pins s1 σ1 H1 _ I1 (turn n σ1 H1 w1)) fun b s2 ⟨H2, I2, q2⟩ => ?_)
  cases b with
  | true =>
    obtain ⟨N, hN, q2⟩ := q2
    rw [if_pos rfl]
    refine wpAny_passesOwn hp (thn (hb pins s2 σ1 H2 _ I2 q2) fun f s3 q3 => ?_)
    cases f with
    | next =>
      obtain ⟨σ3, H3, I3, n3⟩ := q3
      obtain ⟨m', hm, w3⟩ := hN σ3 H3 n3
      exact ⟨m', hm, σ3, H3, I3, w3⟩
    | cont =>
      obtain ⟨σ3, H3, I3, n3⟩ := q3
      obtain ⟨m', hm, w3⟩ := hN σ3 H3 n3
      exact ⟨m', hm, σ3, H3, I3, w3⟩
    | brk => exact q3
    | ret v => exact q3
  | false =>
    rw [if_neg Bool.false_ne_true]
    exact wpAny_execs_nil ⟨σ1, H2, I2, q2⟩
end

/-! ### what a loop or a comprehension walks -/
/-- at turn i: it yields x (the heap may grow), or it stops -/
structure It where
  go : Nat → Hp → Prop
  yld : Nat → Hp → V → Hp → Prop
  stop : Nat → Hp → Prop
/-- the iterator's own objects may turn: they are not the frame's, not pinned, younger than the entry (or a comprehension's own) -/
def FpOk (X : Cx) (pins : List (Addr × Obj)) (H : Hp) (b : Addr) : Prop :=
  H b = none ∧ b ≠ X.env.locals ∧ b ∉ X.fs ∧ (b ∈ X.ex ∨ X.s₀.heap.objs.size ≤ b) ∧ (∀ x c, X.env.cells.lookup x = some c → c ≠ b) ∧ ∀ p ∈ X.pn ++ pins, p.1 ≠ b
theorem Inv.fpOk {X : Cx} {pins : List (Addr × Obj)} {σ : St} {H H' : Hp} {s : Shared} {b : Addr} (I : Inv X pins σ H s) (hb : s.heap.objs.size ≤ b) (hn : H' b = none) : FpOk X pins H' b := by
  refine ⟨hn, Nat.ne_of_gt (Nat.lt_of_lt_of_le I.lt hb), I.nofs hb, .inr (Nat.le_trans I.sz hb), fun x c e z => ?_, fun p hp z => ?_⟩
  · obtain ⟨v, q⟩ := I.cell x c e
    exact absurd (Nat.lt_of_lt_of_le q.lt (by rw [z]; exact hb)) (Nat.lt_irrefl _)
  · exact absurd (Nat.lt_of_lt_of_le (Heap.lt_size (I.pin p hp).1) (by rw [z]; exact hb)) (Nat.lt_irrefl _)
structure Turn (P : Program) (w : World) (K : PySem.W.Frag) (tg : Expr) (J : It) (fp : List Addr) (it : Addr) (tn : Nat → Heap → Prop) : Prop where
  mem : it ∈ fp
  obj : ∀ i h, tn i h → ∀ b ∈ fp, ∃ o, h.get? b = some o ∧ ∀ v, o.data ≠ .cell v
  keep : ∀ i h h', tn i h → (∀ b ∈ fp, ∀ o, h.get? b = some o → h'.get? b = some o) → tn i h'
  item : ∀ (X : Cx), X.prog = P → X.w = w → X.K = K → X.calm = true → ∀ (i : Nat) (pins : List (Addr × Obj)) (s : Shared) (σ : St) (H : Hp) (E : Value → Shared → Prop), Inv X pins σ H s → (∀ b ∈ fp, FpOk X pins H b) → tn i s.heap → J.go i H →
    wpAny (model P w) X.A (pyNext (.ref it)) (fun r s1 => ∃ u, r = some u ∧
      wpAny (model P w) X.A (letOwnedTupleGo tg (.ref it) u) (fun _ s2 => ∃ x H', Inv X pins σ H' s2 ∧ RelV x u ∧ J.yld i H x H' ∧ tn (i + 1) s2.heap ∧ ∀ b ∈ fp, H' b = none) E s1) E s
  done : ∀ (X : Cx), X.prog = P → X.w = w → X.K = K → X.calm = true → ∀ (i : Nat) (pins : List (Addr × Obj)) (s : Shared) (σ : St) (H : Hp) (E : Value → Shared → Prop), Inv X pins σ H s → (∀ b ∈ fp, FpOk X pins H b) → tn i s.heap → J.stop i H →
    wpAny (model P w) X.A (pyNext (.ref it)) (fun r s1 => r = none ∧ Inv X pins σ H s1) E s
  self : ∀ (A : Around) (i : Nat) (s : Shared) (Q : Value → Shared → Prop) (E : Value → Shared → Prop), tn i s.heap → Q (.ref it) s → wpAny (model P w) A (pyIter (.ref it)) Q E s
abbrev TI := St → Hp → (It → Hp → Prop) → Prop
/-- an iterator has come -/
def PIE (X : Cx) (pins : List (Addr × Obj)) (σ : St) (tg : Expr) (R : It → Hp → Prop) (itv : Value) (s2 : Shared) : Prop :=
  ∃ (it : Addr) (fp : List Addr) (tn : Nat → Heap → Prop) (J : It) (H' : Hp), itv = .ref it ∧ Inv X pins σ H' s2 ∧ Turn X.prog X.w X.K tg J fp it tn ∧ tn 0 s2.heap ∧ (∀ b ∈ fp, FpOk X pins H' b) ∧ R J H'
def PI (X : Cx) (tg iter : Expr) (wi : TI) : Prop :=
  ∀ (pins : List (Addr × Obj)) (s : Shared) (σ : St) (H : Hp) (R : It → Hp → Prop), Inv X pins σ H s → wi σ H R →
    wpAny (model X.prog X.w) X.A (eval iter X.env) (fun v s1 => wpAny (model X.prog X.w) X.A (pyIter v) (PIE X pins σ tg R) X.xe s1) X.xe s

/-- the step ahead of the store is nothing for an iterator that keeps no tuple -/
theorem go_of {M : Model} {A : Around} {E : Value → Shared → Prop} {s : Shared} {tg : Expr} {it : Addr} {u : Value} {o : Obj} {n : String} {vs : Array Value} {Q : Unit → Shared → Prop} (ho : s.heap.get? it = some o) (hc : o.cls = .type n) (hd : o.data = .fields vs)
    (hn : ["enumerate", "zip", "dict_itemiterator", "dict_reverseitemiterator", "odict_iterator", "itertools.zip_longest", "itertools.pairwise"].contains n = false) (hQ : Q () s) : wpAny M A (letOwnedTupleGo tg (.ref it) u) Q E s := by
  unfold letOwnedTupleGo
  cases tg <;> first
    | exact wpAny_pure hQ
    | (cases u <;> first
        | exact wpAny_pure hQ
        | (refine wpAny_bind (wpAny_load ho ?_)
           rw [hc, hd]
           show wpAny M A (if (["enumerate", "zip", "dict_itemiterator", "dict_reverseitemiterator", "odict_iterator", "itertools.zip_longest", "itertools.pairwise"].contains n && vs[0]? == some (rawInt _)) = true then _ else _) Q E s
           rw [if_neg (by intro h; rw [hn, Bool.false_and] at h; cases h)]
           exact wpAny_pure hQ))

/-- the list at a, as it stands at each turn (a loop may append to it) -/
def Itl (K : PySem.W.Frag) (a : Addr) : It :=
  ⟨fun i H => ∃ xs x, SqL K H a xs ∧ xs[i]? = some x, fun i H x H' => H' = H ∧ ∀ xs, SqL K H a xs → xs[i]? = some x, fun i H => ∃ xs, SqL K H a xs ∧ xs.length ≤ i⟩
def Itt (K : PySem.W.Frag) (a : Addr) : It :=
  ⟨fun i H => ∃ xs x, SqT K H a xs ∧ xs[i]? = some x, fun i H x H' => H' = H ∧ ∀ xs, SqT K H a xs → xs[i]? = some x, fun i H => ∃ xs, SqT K H a xs ∧ xs.length ≤ i⟩
/-- lo, lo + 1, .. (n of them) -/
def Itr (lo : Int) (n : Nat) : It := ⟨fun i _ => i < n, fun i H x H' => H' = H ∧ x = .int (lo + i), fun i _ => n ≤ i⟩
theorem turn_list {P : Program} {w : World} {K : PySem.W.Frag} {tg : Expr} (a it : Addr) : Turn P w K tg (Itl K a) [it] it (fun i h => h.IsListIter it a i) where
  mem := by simp
  obj := fun i h st b hb => by
    have e : b = it := by simpa using hb
    subst e
    obtain ⟨o, e, c, d⟩ := st
    exact ⟨o, e, fun v z => by rw [d] at z; cases z⟩
  keep := fun i h h' st k => st.at fun o e => k it (by simp) o e
  item := by
    intro X hP hw hK hc i pins s σ H E I hf st hg
    subst hP hw hK
    obtain ⟨xs, x, hq, hx⟩ := hg
    obtain ⟨its, rv, p, hz⟩ := I.list hq
    obtain ⟨u, hu, ru⟩ := rv.get hx
    obtain ⟨f0, f1, f2, f3, f4, f5⟩ := hf it (by simp)
    refine wpAny_pyNext_list_item st p.isList (x := u) (by simpa using hu) fun h' st' sb => ?_
    have I1 : Inv X pins σ H { s with heap := h' } := I.turned (t' := s.toks) (fun b o hb e => (sb.2 b hb).trans e) f0 f1 f3 f4 f5
    obtain ⟨o, e, c, d⟩ := id st'
    exact ⟨u, rfl, go_of (s := { s with heap := h' }) e c d (by decide) ⟨x, H, I1, ru, ⟨rfl, fun ys hy => by rw [I.list_inj hy hq]; exact hx⟩, st', fun b hb => (hf b hb).1⟩⟩
  done := by
    intro X hP hw hK hc i pins s σ H E I hf st hg
    subst hP hw hK
    obtain ⟨xs, hq, hx⟩ := hg
    obtain ⟨its, rv, p, hz⟩ := I.list hq
    obtain ⟨f0, f1, f2, f3, f4, f5⟩ := hf it (by simp)
    have hl := rv.length
    exact wpAny_pyNext_list_end (I.ok.hd hc) st p.isList (by simp; omega) fun h' eb => ⟨rfl, I.turned (t' := s.toks) (fun b o hb e => eb b o hb e) f0 f1 f3 f4 f5⟩
  self := fun _ _ _ _ _ st h => wpAny_pyIter_listiter st h
theorem turn_tuple {P : Program} {w : World} {K : PySem.W.Frag} {tg : Expr} (a it : Addr) : Turn P w K tg (Itt K a) [it] it (fun i h => h.IsTupleIter it a i) where
  mem := by simp
  obj := fun i h st b hb => by
    have e : b = it := by simpa using hb
    subst e
    obtain ⟨o, e, c, d⟩ := st
    exact ⟨o, e, fun v z => by rw [d] at z; cases z⟩
  keep := fun i h h' st k => st.at fun o e => k it (by simp) o e
  item := by
    intro X hP hw hK hc i pins s σ H E I hf st hg
    subst hP hw hK
    obtain ⟨xs, x, hq, hx⟩ := hg
    obtain ⟨its, rv, p, hz⟩ := I.tuple hq
    obtain ⟨u, hu, ru⟩ := rv.get hx
    obtain ⟨f0, f1, f2, f3, f4, f5⟩ := hf it (by simp)
    refine wpAny_pyNext_tuple_item st (show s.heap.IsTuple a its.toArray from p) (x := u) (by simpa using hu) fun h' st' sb => ?_
    have I1 : Inv X pins σ H { s with heap := h' } := I.turned (t' := s.toks) (fun b o hb e => (sb.2 b hb).trans e) f0 f1 f3 f4 f5
    obtain ⟨o, e, c, d⟩ := id st'
    exact ⟨u, rfl, go_of (s := { s with heap := h' }) e c d (by decide) ⟨x, H, I1, ru, ⟨rfl, fun ys hy => by rw [I.tuple_inj hy hq]; exact hx⟩, st', fun b hb => (hf b hb).1⟩⟩
  done := by
    intro X hP hw hK hc i pins s σ H E I hf st hg
    subst hP hw hK
    obtain ⟨xs, hq, hx⟩ := hg
    obtain ⟨its, rv, p, hz⟩ := I.tuple hq
    obtain ⟨f0, f1, f2, f3, f4, f5⟩ := hf it (by simp)
    have hl := rv.length
    exact wpAny_pyNext_tuple_end (I.ok.hd hc) st (show s.heap.IsTuple a its.toArray from p) (by simp; omega) fun h' eb => ⟨rfl, I.turned (t' := s.toks) (fun b o hb e => eb b o hb e) f0 f1 f3 f4 f5⟩
  self := fun _ _ _ _ _ st h => wpAny_pyIter_tupleiter st h
theorem turn_range {P : Program} {w : World} {K : PySem.W.Frag} {tg : Expr} (it : Addr) (lo : Int) (n : Nat) : Turn P w K tg (Itr lo n) [it] it (fun i h => IsRangeIter h it (lo + (i : Nat) * 1) ((n : Int) - (i : Nat)) 1) where
  mem := by simp
  obj := fun i h st b hb => by
    have e : b = it := by simpa using hb
    subst e
    exact ⟨_, st, fun v z => by
      have z' : Data.fields _ = Data.cell v := z
      cases z'⟩
  keep := fun i h h' st k => k it (by simp) _ st
  item := by
    intro X hP hw hK hc i pins s σ H E I hf st hg
    subst hP hw hK
    obtain ⟨f0, f1, f2, f3, f4, f5⟩ := hf it (by simp)
    have W := Walks.range (prog := X.prog) (w := X.w) (I.ok.hd hc) it lo 1 n
    refine W.item i s _ _ hg st fun v h' tk hv st' kk => ?_
    obtain ⟨t, rfl⟩ := hv
    have I1 : Inv X pins σ H { s with heap := h', toks := tk } := I.turned (fun b o hb e => kk b o (by simpa using hb) e) f0 f1 f3 f4 f5
    refine ⟨_, rfl, go_of (s := { s with heap := h', toks := tk }) (n := "range_iterator") st' rfl rfl (by decide) ⟨.int (lo + i), H, I1, ⟨t, ?_⟩, ⟨rfl, rfl⟩, st', fun b hb => (hf b hb).1⟩⟩
    rw [Int.mul_one]
  done := by
    intro X hP hw hK hc i pins s σ H E I hf st hg
    subst hP hw hK
    obtain ⟨f0, f1, f2, f3, f4, f5⟩ := hf it (by simp)
    exact wpAny_pyNext_range_end (I.ok.hd hc) st (by have : n ≤ i := hg; omega) fun h' eb => ⟨rfl, I.turned (t' := s.toks) (fun b o hb e => eb b o hb e) f0 f1 f3 f4 f5⟩
  self := fun _ _ _ _ _ st h => wpAny_pyIter_rangeiter st h
end L2

namespace L2
open PySem PySem.Spec PyProof.Rows
section
variable {X : Cx} {tg : Expr}
def iList (K : PySem.W.Frag) (tl : TE) : TI := fun σ H R => tl σ H fun x H1 => ∃ a, x = .ref a ∧ (∃ xs, SqL K H1 a xs) ∧ R (Itl K a) H1
def iTup (K : PySem.W.Frag) (tl : TE) : TI := fun σ H R => tl σ H fun x H1 => ∃ a, x = .ref a ∧ (∃ xs, SqT K H1 a xs) ∧ R (Itt K a) H1
theorem pi_list {l : Expr} {tl : TE} (hl : PE X l tl) : PI X tg l (iList X.K tl) := by
  intro pins s σ H R I h
  refine thn (hl pins s σ H _ I h) fun v s1 ⟨x, H1, I1, r1, q1⟩ => ?_
  obtain ⟨a, e, ⟨xs, hq⟩, q⟩ := q1
  subst e
  cases r1
  obtain ⟨its, rv, p, hz⟩ := I1.list hq
  refine wpAny_pyIter_list p.isList ?_
  refine ⟨s1.heap.objs.size, [s1.heap.objs.size], _, _, H1, rfl, I1.kept (t' := s1.toks) fun b o e => Heap.get?_push_of_some _ e, turn_list a _, ⟨_, Heap.get?_push_size _ rfl, rfl, rfl⟩, fun b hb => ?_, q⟩
  have e : b = s1.heap.objs.size := by simpa using hb
  subst e
  exact I1.fpOk (Nat.le_refl _) (I1.hok.fresh (Nat.le_refl _))
theorem pi_tup {l : Expr} {tl : TE} (hl : PE X l tl) : PI X tg l (iTup X.K tl) := by
  intro pins s σ H R I h
  refine thn (hl pins s σ H _ I h) fun v s1 ⟨x, H1, I1, r1, q1⟩ => ?_
  obtain ⟨a, e, ⟨xs, hq⟩, q⟩ := q1
  subst e
  cases r1
  obtain ⟨its, rv, p, hz⟩ := I1.tuple hq
  refine wpAny_pyIter_tuple (show s1.heap.IsTuple a its.toArray from p) ?_
  refine ⟨s1.heap.objs.size, [s1.heap.objs.size], _, _, H1, rfl, I1.kept (t' := s1.toks) fun b o e => Heap.get?_push_of_some _ e, turn_tuple a _, ⟨_, Heap.get?_push_size _ rfl, rfl, rfl⟩, fun b hb => ?_, q⟩
  have e : b = s1.heap.objs.size := by simpa using hb
  subst e
  exact I1.fpOk (Nat.le_refl _) (I1.hok.fresh (Nat.le_refl _))
/-- a range object just made, walked -/
theorem range_it {pins : List (Addr × Obj)} {σ : St} {H : Hp} {s : Shared} {R : It → Hp → Prop} {E : Value → Shared → Prop} {lo hi : Int} {t u v : Tok} {tk : Nat} (I : Inv X pins σ H s) (h1 : -(2 ^ 62) ≤ lo) (h2 : lo < 2 ^ 62) (h3 : -(2 ^ 62) ≤ hi) (h4 : hi < 2 ^ 62)
    (q : R (Itr lo (hi - lo).toNat) H) : wpAny (model X.prog X.w) X.A (pyIter (.ref s.heap.objs.size)) (PIE X pins σ tg R) E { s with heap := s.heap.push { cls := .type "range", data := .fields #[.int lo t, .int hi u, .int 1 v] }, toks := tk } := by
  refine wpAny_pyIter_range (IsRange.new ..) (small_one h1 h2 h3 h4) ?_
  have I1 : Inv X pins σ H { s with heap := s.heap.push { cls := .type "range", data := .fields #[.int lo t, .int hi u, .int 1 v] }, toks := tk } := I.kept fun b o e => Heap.get?_push_of_some _ e
  refine ⟨(s.heap.push { cls := .type "range", data := .fields #[.int lo t, .int hi u, .int 1 v] }).objs.size, [(s.heap.push { cls := .type "range", data := .fields #[.int lo t, .int hi u, .int 1 v] }).objs.size], _, _, H, rfl,
    I1.kept (t' := tk) fun b o e => Heap.get?_push_of_some _ e, turn_range _ lo (hi - lo).toNat, ?_, fun b hb => ?_, q⟩
  · have e1 : lo + ((0 : Nat) : Int) * 1 = lo := by simp
    have e2 : (((hi - lo).toNat : Nat) : Int) - ((0 : Nat) : Int) = Builtin.Range.rangeSize lo hi 1 := by rw [rangeSize_one]; split <;> omega
    show IsRangeIter _ _ (lo + ((0 : Nat) : Int) * 1) ((((hi - lo).toNat : Nat) : Int) - ((0 : Nat) : Int)) 1
    rw [e1, e2]
    exact Heap.get?_push_size _ rfl
  · have e : b = (s.heap.push { cls := .type "range", data := .fields #[.int lo t, .int hi u, .int 1 v] }).objs.size := by simpa using hb
    subst e
    exact I1.fpOk (Nat.le_refl _) (I1.hok.fresh (Nat.le_refl _))
def iRng1 (ta : TA) : TI := fun σ H R => ta σ H fun vs H1 => ∃ j : Int, vs = [.int j] ∧ -(2 ^ 62) ≤ j ∧ j < 2 ^ 62 ∧ R (Itr 0 j.toNat) H1
def iRng2 (ta : TA) : TI := fun σ H R => ta σ H fun vs H1 => ∃ i j : Int, vs = [.int i, .int j] ∧ (-(2 ^ 62) ≤ i ∧ i < 2 ^ 62 ∧ -(2 ^ 62) ≤ j ∧ j < 2 ^ 62) ∧ R (Itr i (j - i).toNat) H1
theorem pi_range1 {a : Expr} {ta : TA} {p pos : Pos} (hg : Gl X "range") (hm : X.mg "range" = none) (ha : PA X [a] ta) (hs : starEach [a] X.env = [(false, eval a X.env)] := by rfl) : PI X tg (.Call (.Name "range" p) [a] [] pos) (iRng1 ta) := by
  intro pins s σ H R I h
  refine Call_ (ld_blt I hg hm boot_range (PyProof.Rows.callWith_type1 (thn (ha pos pins s σ H _ I h) fun us s1 ⟨vs, H1, I1, r1, q1⟩ => ?_) hs rfl))
  obtain ⟨j, e, q1, q2, q⟩ := q1
  subst e
  cases r1 with
  | cons r rr =>
    cases rr
    obtain ⟨t, rfl⟩ := r
    exact call_range_1 (range_it I1 (by omega) (by omega) q1 q2 (by simpa using q))
theorem pi_range2 {a b : Expr} {ta : TA} {p pos : Pos} (hg : Gl X "range") (hm : X.mg "range" = none) (ha : PA X [a, b] ta) (hs : starEach [a, b] X.env = [(false, eval a X.env), (false, eval b X.env)] := by rfl) (hs2 : starEach [b] X.env = [(false, eval b X.env)] := by rfl) :
    PI X tg (.Call (.Name "range" p) [a, b] [] pos) (iRng2 ta) := by
  intro pins s σ H R I h
  refine Call_ (ld_blt I hg hm boot_range (PyProof.Rows.callWith_type1 (thn (ha pos pins s σ H _ I h) fun us s1 ⟨vs, H1, I1, r1, q1⟩ => ?_) (by rw [hs, hs2]) (by rw [hs2]; rfl)))
  obtain ⟨i, j, e, ⟨q1, q2, q3, q4⟩, q⟩ := q1
  subst e
  cases r1 with
  | cons r rr =>
    cases rr with
    | cons r' rr =>
      cases rr
      obtain ⟨t, rfl⟩ := r
      obtain ⟨t', rfl⟩ := r'
      exact call_range_2 (range_it I1 q1 q2 q3 q4 q)

/-! ### for -/
/-- W: the invariant by the turn and a measure; N: what the body is to reach -/
def tFor (wi : TI) (g : TG) (tb : TS) : TS := fun D σ H => wi σ H fun J H1 => ∃ W : Nat → Nat → St → Hp → Prop, (∃ m, W 0 m σ H1) ∧ ∀ i m σ H, W i m σ H →
  (J.stop i H ∧ D.nx σ H) ∨ (J.go i H ∧ ∃ N : St → Hp → Prop, (∀ σ' H', N σ' H' → ∃ m', m' < m ∧ W (i + 1) m' σ' H') ∧ ∀ x H', J.yld i H x H' → g x σ H' fun σ2 H2 => tb { D with nx := N, ct := N, bk := D.nx } σ2 H2)
/-- the records at fp as they stand -/
def pinsAt (fp : List Addr) (h : Heap) : List (Addr × Obj) := fp.filterMap fun b => (h.get? b).map fun o => (b, o)
theorem mem_pinsAt {fp : List Addr} {h : Heap} {b : Addr} {o : Obj} (hb : b ∈ fp) (e : h.get? b = some o) : (b, o) ∈ pinsAt fp h := List.mem_filterMap.mpr ⟨b, hb, by rw [e]; rfl⟩
theorem of_pinsAt {fp : List Addr} {h : Heap} {p : Addr × Obj} (hp : p ∈ pinsAt fp h) : p.1 ∈ fp ∧ h.get? p.1 = some p.2 := by
  obtain ⟨b, hb, e⟩ := List.mem_filterMap.mp hp
  cases q : h.get? b with
  | none => rw [q] at e; cases e
  | some o =>
    rw [q] at e
    have e' : (b, o) = p := Option.some.inj e
    subst e'
    exact ⟨hb, q⟩
theorem Inv.pinned {pins : List (Addr × Obj)} {σ : St} {H : Hp} {s : Shared} {fp : List Addr} (I : Inv X pins σ H s) (hf : ∀ b ∈ fp, FpOk X pins H b) (ho : ∀ b ∈ fp, ∃ o, s.heap.get? b = some o ∧ ∀ v, o.data ≠ .cell v) : Inv X (pins ++ pinsAt fp s.heap) σ H s :=
  I.pins_of fun p hp => (List.mem_append.mp hp).elim (fun z => I.pin p (List.mem_append_right _ z)) fun z => by
    obtain ⟨hb, e⟩ := of_pinsAt z
    obtain ⟨f0, f1, f2, _⟩ := hf p.1 hb
    obtain ⟨o, e', d⟩ := ho p.1 hb
    rw [e] at e'; cases e'
    exact ⟨e, f0, f1, f2, d⟩
theorem Inv.unpinned {pins pl : List (Addr × Obj)} {σ : St} {H : Hp} {s : Shared} (I : Inv X (pins ++ pl) σ H s) : Inv X pins σ H s := I.pins_of fun p hp => I.pin p (List.mem_append_right _ (List.mem_append_left _ hp))
theorem ps_for {iter : Expr} {body : List Stmt} {wi : TI} {g : TG} {tb : TS} {pos : Pos} (hp : PassesOwn (model X.prog X.w) X.A X.env X.xe) (hc : X.calm = true) (hi : PI X tg iter wi) (hg : PG X tg g) (hb : PSs X body tb)
    (hs : ∀ x, foldedSetIterable iter X.env x = pure x := by intro _; rfl) : PS X (.For tg iter body [] pos) (tFor wi g tb) := by
  intro pins s σ H D I h
  refine wpAny_For (thn (hi pins s σ H _ I h) fun v s1 h1 => thn h1 fun itv s2 h2 => ?_) hs
  obtain ⟨it, fp, tn, J, H2, e, I2, T, st2, f2, W, ⟨m0, w0⟩, turn⟩ := h2
  subst e
  -- what stays true of the iterator's objects through the loop
  have stat : ∀ {H' : Hp}, (∀ b ∈ fp, H' b = none) → ∀ b ∈ fp, FpOk X pins H' b := fun hn b hb => ⟨hn b hb, (f2 b hb).2⟩
  refine codeAny_forLoop_any (fun n s' => ∃ i σ' H', Inv X pins σ' H' s' ∧ tn i s'.heap ∧ (∀ b ∈ fp, H' b = none) ∧ W i n σ' H') ?_ m0 ⟨0, σ, H2, I2, st2, fun b hb => (f2 b hb).1, w0⟩
  rintro n s3 ⟨i, σ3, H3, I3, st3, fr3, w3⟩
  rcases turn i n σ3 H3 w3 with ⟨stop, qn⟩ | ⟨go, N, hN, step⟩
  · refine wpAny_passesOwn hp (thn (T.done X rfl rfl rfl hc i pins s3 σ3 H3 X.xe I3 (stat fr3) st3 stop) fun r s4 ⟨hr, I4⟩ => ?_)
    subst hr
    exact wpAny_execs_nil ⟨σ3, H3, I4, qn⟩
  · refine wpAny_passesOwn hp (thn (T.item X rfl rfl rfl hc i pins s3 σ3 H3 X.xe I3 (stat fr3) st3 go) fun r s4 ⟨u, hr, h4⟩ => ?_)
    subst hr
    refine wpAny_passesOwn hp (thn h4 fun _ s5 ⟨x, H5, I5, r5, y5, st5, fr5⟩ => ?_)
    have I5' := I5.pinned (stat fr5) (T.obj _ _ st5)
    refine wpAny_passesOwn hp (thn (hg _ s5 σ3 H5 x u _ I5' r5 (step x H5 y5)) fun _ s6 ⟨σ6, H6, I6, q6⟩ => ?_)
    refine wpAny_passesOwn hp (thn (hb _ s6 σ6 H6 _ I6 q6) fun f s7 q7 => ?_)
    have again : ∀ {σ7 : St} {H7 : Hp}, Inv X (pins ++ pinsAt fp s5.heap) σ7 H7 s7 → N σ7 H7 → ∃ m, m < n ∧ ∃ i σ' H', Inv X pins σ' H' s7 ∧ tn i s7.heap ∧ (∀ b ∈ fp, H' b = none) ∧ W i m σ' H' := fun {σ7 H7} I7 n7 => by
      obtain ⟨m', hm, w7⟩ := hN σ7 H7 n7
      refine ⟨m', hm, i + 1, σ7, H7, I7.unpinned, T.keep _ _ _ st5 fun b hb o e => (I7.pin (b, o) (List.mem_append_right _ (List.mem_append_right _ (mem_pinsAt hb e)))).1, fun b hb => ?_, w7⟩
      obtain ⟨o, e, d⟩ := T.obj _ _ st5 b hb
      exact (I7.pin (b, o) (List.mem_append_right _ (List.mem_append_right _ (mem_pinsAt hb e)))).2.1
    cases f with
    | next => obtain ⟨σ7, H7, I7, n7⟩ := q7; exact again I7 n7
    | cont => obtain ⟨σ7, H7, I7, n7⟩ := q7; exact again I7 n7
    | brk => obtain ⟨σ7, H7, I7, q7⟩ := q7; exact ⟨σ7, H7, I7.unpinned, q7⟩
    | ret v => obtain ⟨x7, σ7, H7, I7, r7, q7⟩ := q7; exact ⟨x7, σ7, H7, I7.unpinned, r7, q7⟩
end

/-! ### the forms one uses -/
/-- over a list that the body leaves as it is -/
theorem for_list {K : PySem.W.Frag} {a : Addr} {xs : List V} {g : TG} {tb : TS} {D : Ends} {σ : St} {H : Hp} (Pv : Nat → St → Hp → Prop) (h0 : Pv 0 σ H) (hl : ∀ i σ H, i ≤ xs.length → Pv i σ H → SqL K H a xs)
    (hs : ∀ i x σ H, xs[i]? = some x → Pv i σ H → g x σ H fun σ2 H2 => tb { D with nx := Pv (i + 1), ct := Pv (i + 1), bk := D.nx } σ2 H2) (hd : ∀ σ H, Pv xs.length σ H → D.nx σ H) :
    ∃ W : Nat → Nat → St → Hp → Prop, (∃ m, W 0 m σ H) ∧ ∀ i m σ H, W i m σ H →
      ((Itl K a).stop i H ∧ D.nx σ H) ∨ ((Itl K a).go i H ∧ ∃ N : St → Hp → Prop, (∀ σ' H', N σ' H' → ∃ m', m' < m ∧ W (i + 1) m' σ' H') ∧ ∀ x H', (Itl K a).yld i H x H' → g x σ H' fun σ2 H2 => tb { D with nx := N, ct := N, bk := D.nx } σ2 H2) := by
  refine ⟨fun i m σ H => m = xs.length - i ∧ i ≤ xs.length ∧ Pv i σ H, ⟨xs.length, by simp, Nat.zero_le _, h0⟩, ?_⟩
  rintro i m σ H ⟨rfl, hi, p⟩
  have q := hl i σ H hi p
  by_cases hlt : i < xs.length
  · refine .inr ⟨⟨xs, xs[i], q, by simp [hlt]⟩, Pv (i + 1), fun σ' H' p' => ⟨xs.length - (i + 1), by omega, rfl, hlt, p'⟩, fun x H' y => ?_⟩
    obtain ⟨e, y⟩ := y
    subst e
    exact hs i x σ _ (y xs q) p
  · have e : i = xs.length := by omega
    subst e
    exact .inl ⟨⟨xs, q, Nat.le_refl _⟩, hd σ H p⟩
theorem for_tup {K : PySem.W.Frag} {a : Addr} {xs : List V} {g : TG} {tb : TS} {D : Ends} {σ : St} {H : Hp} (Pv : Nat → St → Hp → Prop) (h0 : Pv 0 σ H) (hl : ∀ i σ H, i ≤ xs.length → Pv i σ H → SqT K H a xs)
    (hs : ∀ i x σ H, xs[i]? = some x → Pv i σ H → g x σ H fun σ2 H2 => tb { D with nx := Pv (i + 1), ct := Pv (i + 1), bk := D.nx } σ2 H2) (hd : ∀ σ H, Pv xs.length σ H → D.nx σ H) :
    ∃ W : Nat → Nat → St → Hp → Prop, (∃ m, W 0 m σ H) ∧ ∀ i m σ H, W i m σ H →
      ((Itt K a).stop i H ∧ D.nx σ H) ∨ ((Itt K a).go i H ∧ ∃ N : St → Hp → Prop, (∀ σ' H', N σ' H' → ∃ m', m' < m ∧ W (i + 1) m' σ' H') ∧ ∀ x H', (Itt K a).yld i H x H' → g x σ H' fun σ2 H2 => tb { D with nx := N, ct := N, bk := D.nx } σ2 H2) := by
  refine ⟨fun i m σ H => m = xs.length - i ∧ i ≤ xs.length ∧ Pv i σ H, ⟨xs.length, by simp, Nat.zero_le _, h0⟩, ?_⟩
  rintro i m σ H ⟨rfl, hi, p⟩
  have q := hl i σ H hi p
  by_cases hlt : i < xs.length
  · refine .inr ⟨⟨xs, xs[i], q, by simp [hlt]⟩, Pv (i + 1), fun σ' H' p' => ⟨xs.length - (i + 1), by omega, rfl, hlt, p'⟩, fun x H' y => ?_⟩
    obtain ⟨e, y⟩ := y
    subst e
    exact hs i x σ _ (y xs q) p
  · have e : i = xs.length := by omega
    subst e
    exact .inl ⟨⟨xs, q, Nat.le_refl _⟩, hd σ H p⟩
theorem for_range {lo : Int} {n : Nat} {g : TG} {tb : TS} {D : Ends} {σ : St} {H : Hp} (Pv : Nat → St → Hp → Prop) (h0 : Pv 0 σ H)
    (hs : ∀ i σ H, i < n → Pv i σ H → g (.int (lo + i)) σ H fun σ2 H2 => tb { D with nx := Pv (i + 1), ct := Pv (i + 1), bk := D.nx } σ2 H2) (hd : ∀ σ H, Pv n σ H → D.nx σ H) :
    ∃ W : Nat → Nat → St → Hp → Prop, (∃ m, W 0 m σ H) ∧ ∀ i m σ H, W i m σ H →
      ((Itr lo n).stop i H ∧ D.nx σ H) ∨ ((Itr lo n).go i H ∧ ∃ N : St → Hp → Prop, (∀ σ' H', N σ' H' → ∃ m', m' < m ∧ W (i + 1) m' σ' H') ∧ ∀ x H', (Itr lo n).yld i H x H' → g x σ H' fun σ2 H2 => tb { D with nx := N, ct := N, bk := D.nx } σ2 H2) := by
  refine ⟨fun i m σ H => m = n - i ∧ i ≤ n ∧ Pv i σ H, ⟨n, by simp, Nat.zero_le _, h0⟩, ?_⟩
  rintro i m σ H ⟨rfl, hi, p⟩
  by_cases hlt : i < n
  · refine .inr ⟨hlt, Pv (i + 1), fun σ' H' p' => ⟨n - (i + 1), by omega, rfl, hlt, p'⟩, fun x H' y => ?_⟩
    obtain ⟨e, y⟩ := y
    subst e y
    exact hs i σ _ hlt p
  · have e : i = n := by omega
    subst e
    exact .inl ⟨Nat.le_refl _, hd σ H p⟩
/-- while, by a word and a measure of the state -/
theorem while_by {c : TT} {tb : TS} {D : Ends} {σ : St} {H : Hp} (Pv : St → Hp → Prop) (μ : St → Hp → Nat) (h0 : Pv σ H)
    (hs : ∀ σ H, Pv σ H → c σ H fun b H1 => if b = true then tb { D with nx := fun σ' H' => Pv σ' H' ∧ μ σ' H' < μ σ H, ct := fun σ' H' => Pv σ' H' ∧ μ σ' H' < μ σ H, bk := D.nx } σ H1 else D.nx σ H1)
    (mono : ∀ σ H Q Q', (∀ b H1, Q b H1 → Q' b H1) → c σ H Q → c σ H Q') : tWhile c tb D σ H := by
  refine ⟨fun m σ H => m = μ σ H ∧ Pv σ H, ⟨_, rfl, h0⟩, ?_⟩
  rintro m σ H ⟨rfl, p⟩
  refine mono σ H _ _ (fun b H1 q => ?_) (hs σ H p)
  cases b with
  | true => exact ⟨_, fun σ' H' ⟨p', l⟩ => ⟨_, l, rfl, p'⟩, q⟩
  | false => exact q
end L2

namespace L2
open PySem PySem.Spec PyProof.Rows

abbrev R2 := V → V → Hp → VK → Prop
/-- a two-place operation on values: f is binaryOp op, inplaceOp op or compareOp op -/
def OpR (X : Cx) (f : Value → Value → Sem Value) (r : R2) : Prop :=
  ∀ (pins : List (Addr × Obj)) (s : Shared) (σ : St) (H : Hp) (x y : V) (v u : Value) (Q : VK), Inv X pins σ H s → RelV x v → RelV y u → r x y H Q →
    wpAny (model X.prog X.w) X.A (f v u) (EP X pins σ Q) X.xe s
/-- a one-place operation -/
def UnR (X : Cx) (f : Value → Sem Value) (r : V → Hp → VK → Prop) : Prop :=
  ∀ (pins : List (Addr × Obj)) (s : Shared) (σ : St) (H : Hp) (x : V) (v : Value) (Q : VK), Inv X pins σ H s → RelV x v → r x H Q →
    wpAny (model X.prog X.w) X.A (f v) (EP X pins σ Q) X.xe s
/-- a call of a value that is known (a builtin, a type) with values -/
def CallR (X : Cx) (f : Value) (r : List V → Hp → VK → Prop) : Prop :=
  ∀ (pins : List (Addr × Obj)) (s : Shared) (σ : St) (H : Hp) (xs : List V) (us : List Value) (Q : VK), Inv X pins σ H s → Vals xs us → r xs H Q →
    wpAny (model X.prog X.w) X.A (call f us) (EP X pins σ Q) X.xe s
/-- a value's truth -/
def TruR (X : Cx) (r : V → Hp → (Bool → Hp → Prop) → Prop) : Prop :=
  ∀ (pins : List (Addr × Obj)) (s : Shared) (σ : St) (H : Hp) (x : V) (v : Value) (Q : Bool → Hp → Prop), Inv X pins σ H s → RelV x v → r x H Q →
    wpAny (model X.prog X.w) X.A (truthy v) (TP X pins σ Q) X.xe s

def tOp (r : R2) (ta tb : TE) : TE := fun σ H Q => ta σ H fun x H1 => tb σ H1 fun y H2 => r x y H2 Q
def tUn (r : V → Hp → VK → Prop) (ta : TE) : TE := fun σ H Q => ta σ H fun x H1 => r x H1 Q
/-- ints in, under C, and a value out -/
def rI (C : Int → Int → Prop) (g : Int → Int → V) : R2 := fun x y H Q => ∃ i j, x = .int i ∧ y = .int j ∧ C i j ∧ Q (g i j) H
def rI0 (g : Int → Int → V) : R2 := fun x y H Q => ∃ i j, x = .int i ∧ y = .int j ∧ Q (g i j) H
def rU (g : Int → V) : V → Hp → VK → Prop := fun x H Q => ∃ i, x = .int i ∧ Q (g i) H

section
variable {X : Cx} {a b c : Expr} {ta tb tc : TE} {pos : Pos}

theorem binT (ha : PE X a ta) (hb : PE X b tb) {pins : List (Addr × Obj)} {s : Shared} {σ : St} {H : Hp} {R : V → V → Hp → Prop} (I : Inv X pins σ H s)
    (h : ta σ H fun x H1 => tb σ H1 fun y H2 => R x y H2) {Q : Value → Shared → Prop} {f : Value → Value → Sem Value}
    (hf : ∀ v u s2 x y H2, Inv X pins σ H2 s2 → RelV x v → RelV y u → R x y H2 → wpAny (model X.prog X.w) X.A (f v u) Q X.xe s2) :
    wpAny (model X.prog X.w) X.A (eval a X.env) (fun v s₁ => wpAny (model X.prog X.w) X.A (eval b X.env) (fun u s₂ => wpAny (model X.prog X.w) X.A (f v u) Q X.xe s₂) X.xe s₁) X.xe s := by
  refine thn (ha pins s σ H _ I h) fun v s1 ⟨x, H1, I1, r1, q1⟩ => ?_
  refine thn (hb pins s1 σ H1 _ I1 q1) fun u s2 ⟨y, H2, I2, r2, q2⟩ => ?_
  exact hf v u s2 x y H2 I2 r1 r2 q2

theorem pe_op {op : Operator} {r : R2} (ho : OpR X (binaryOp op) r) (ha : PE X a ta) (hb : PE X b tb) : PE X (.BinOp a op b pos) (tOp r ta tb) := by
  intro pins s σ H Q I h
  exact wpAny_BinOp (binT ha hb I h fun v u s2 x y H2 I2 rx ry q => ho pins s2 σ H2 x y v u Q I2 rx ry q)
theorem pe_un {op : UnaryOp} {r : V → Hp → VK → Prop} (ho : UnR X (unaryOp op) r) (ha : PE X a ta) : PE X (.UnaryOp op a pos) (tUn r ta) := by
  intro pins s σ H Q I h
  exact UnaryOp_ (thn (ha pins s σ H _ I h) fun v s1 ⟨x, H1, I1, r1, q1⟩ => ho pins s1 σ H1 x v Q I1 r1 q1)
/-- a op= e at a name: the name's slot i -/
theorem augR {op : Operator} {r : R2} (ho : OpR X (inplaceOp op) r) {pins : List (Addr × Obj)} {s : Shared} {σ : St} {H : Hp} {x y : V} {v u : Value} {Q : VK} (I : Inv X pins σ H s)
    (rx : RelV x v) (ry : RelV y u) (q : r x y H Q) : wpAny (model X.prog X.w) X.A (inplaceOp op v u) (EP X pins σ Q) X.xe s := ho pins s σ H x y v u Q I rx ry q

/-! ### ints -/
theorem opI {f : Value → Value → Sem Value} {C : Int → Int → Prop} {g : Int → Int → Int}
    (rule : ∀ (i j : Int) (t u : Tok) (s : Shared) (Q : Value → Shared → Prop) (E : Value → Shared → Prop), C i j → Q (.int (g i j) s.toks) { s with toks := s.toks + 1 } → wpAny (model X.prog X.w) X.A (f (.int i t) (.int j u)) Q E s) :
    OpR X f (rI C fun i j => .int (g i j)) := by
  intro pins s σ H x y v u Q I rx ry h
  obtain ⟨i, j, rfl, rfl, hc, q⟩ := h
  obtain ⟨t, rfl⟩ := rx
  obtain ⟨t', rfl⟩ := ry
  exact rule i j t t' s _ _ hc ⟨.int (g i j), H, I.tok _, ⟨_, rfl⟩, q⟩
theorem opI0 {f : Value → Value → Sem Value} {g : Int → Int → Int}
    (rule : ∀ (i j : Int) (t u : Tok) (s : Shared) (Q : Value → Shared → Prop) (E : Value → Shared → Prop), Q (.int (g i j) s.toks) { s with toks := s.toks + 1 } → wpAny (model X.prog X.w) X.A (f (.int i t) (.int j u)) Q E s) :
    OpR X f (rI0 fun i j => .int (g i j)) := by
  intro pins s σ H x y v u Q I rx ry h
  obtain ⟨i, j, rfl, rfl, q⟩ := h
  obtain ⟨t, rfl⟩ := rx
  obtain ⟨t', rfl⟩ := ry
  exact rule i j t t' s _ _ ⟨.int (g i j), H, I.tok _, ⟨_, rfl⟩, q⟩
theorem opB0 {f : Value → Value → Sem Value} {g : Int → Int → Bool}
    (rule : ∀ (i j : Int) (t u : Tok) (s : Shared) (Q : Value → Shared → Prop) (E : Value → Shared → Prop), Q (.bool (g i j)) s → wpAny (model X.prog X.w) X.A (f (.int i t) (.int j u)) Q E s) :
    OpR X f (rI0 fun i j => .bl (g i j)) := by
  intro pins s σ H x y v u Q I rx ry h
  obtain ⟨i, j, rfl, rfl, q⟩ := h
  obtain ⟨t, rfl⟩ := rx
  obtain ⟨t', rfl⟩ := ry
  exact rule i j t t' s _ _ ⟨.bl (g i j), H, I, rfl, q⟩

def CDiv (i j : Int) : Prop := 0 < j ∧ j < 1073741824
def CDivN (i j : Int) : Prop := j ≠ 0 ∧ j.natAbs < 1073741824
def CPow (i j : Int) : Prop := 0 ≤ j ∧ j ≤ 1000000 ∧ i.natAbs < 2 ^ 64
def CMul (i j : Int) : Prop := (-(2 ^ 64) < i ∧ i < 2 ^ 64) ∨ (-(2 ^ 64) < j ∧ j < 2 ^ 64)
theorem CMul.ok {i j : Int} (h : CMul i j) : IntMulOk i j := by
  rcases h with ⟨h1, h2⟩ | ⟨h1, h2⟩
  · exact .of_left (intBits_le_64 h1 h2)
  · exact .of_right (intBits_le_64 h1 h2)
theorem two_pow_nn (k : Nat) : (0 : Int) ≤ 2 ^ k := by
  rw [two_pow_cast]
  exact Int.natCast_nonneg _

theorem op_add : OpR X (binaryOp .Add) (rI0 fun i j => .int (i + j)) := opI0 fun _ _ _ _ _ _ _ q => add_int q
theorem op_sub : OpR X (binaryOp .Sub) (rI0 fun i j => .int (i - j)) := opI0 fun _ _ _ _ _ _ _ q => sub_int q
theorem op_mul : OpR X (binaryOp .Mult) (rI CMul fun i j => .int (i * j)) := opI fun _ _ _ _ _ _ _ hc q => mul_int q hc.ok
/-- // by a positive divisor -/
theorem op_fdiv : OpR X (binaryOp .FloorDiv) (rI CDiv fun i j => .int (i / j)) := opI fun i j _ _ _ _ _ hc q => by
  have h1 : (0 : Int) < j := hc.1
  have h2 : j < 1073741824 := hc.2
  exact floordiv_int (by omega) (by rw [Int.fdiv_eq_ediv_of_nonneg i (by omega)]; exact q) (.inl (PyProof.noPylong_small (by omega)))
theorem op_fdivN : OpR X (binaryOp .FloorDiv) (rI CDivN fun i j => .int (i.fdiv j)) := opI fun _ _ _ _ _ _ _ hc q => floordiv_int hc.1 q (.inl (PyProof.noPylong_small hc.2))
/-- % by a positive divisor of any size -/
theorem op_mod : OpR X (binaryOp .Mod) (rI (fun _ j => 0 < j) fun i j => .int (i % j)) := opI fun i j _ _ _ _ _ hc q => by
  have h1 : (0 : Int) < j := hc
  exact mod_int' (by omega) (by rw [Int.fmod_eq_emod_of_nonneg i (by omega)]; exact q)
theorem op_modN : OpR X (binaryOp .Mod) (rI (fun _ j => j ≠ 0) fun i j => .int (i.fmod j)) := opI fun _ _ _ _ _ _ _ hc q => mod_int' hc q
theorem op_pow : OpR X (binaryOp .Pow) (rI CPow fun i j => .int (i ^ j.toNat)) := opI fun _ _ _ _ _ _ _ hc q => pow_int_small hc.1 hc.2.1 hc.2.2 q
theorem op_shl : OpR X (binaryOp .LShift) (rI CPow fun i j => .int (i * 2 ^ j.toNat)) := opI fun _ _ _ _ _ _ _ hc q => lshift_int_small hc.1 hc.2.1 hc.2.2 q
theorem op_shr : OpR X (binaryOp .RShift) (rI (fun _ j => 0 ≤ j) fun i j => .int (i / 2 ^ j.toNat)) := opI fun i j _ _ _ _ _ hc q =>
  rshift_int hc (by rw [Int.fdiv_eq_ediv_of_nonneg i (two_pow_nn _)]; exact q)
theorem op_and : OpR X (binaryOp .BitAnd) (rI0 fun i j => .int (Builtin.bitAnd i j)) := opI0 fun _ _ _ _ _ _ _ q => and_int q
theorem op_or : OpR X (binaryOp .BitOr) (rI0 fun i j => .int (Builtin.bitOr i j)) := opI0 fun _ _ _ _ _ _ _ q => or_int q
theorem op_xor : OpR X (binaryOp .BitXor) (rI0 fun i j => .int (Builtin.bitXor i j)) := opI0 fun _ _ _ _ _ _ _ q => xor_int q

theorem iop_add : OpR X (inplaceOp .Add) (rI0 fun i j => .int (i + j)) := opI0 fun _ _ _ _ _ _ _ q => iadd_int q
theorem iop_sub : OpR X (inplaceOp .Sub) (rI0 fun i j => .int (i - j)) := opI0 fun _ _ _ _ _ _ _ q => isub_int q
theorem iop_mul : OpR X (inplaceOp .Mult) (rI CMul fun i j => .int (i * j)) := opI fun _ _ _ _ _ _ _ hc q => imul_int q hc.ok
theorem iop_fdiv : OpR X (inplaceOp .FloorDiv) (rI CDiv fun i j => .int (i / j)) := opI fun i j _ _ _ _ _ hc q => by
  have h1 : (0 : Int) < j := hc.1
  have h2 : j < 1073741824 := hc.2
  exact ifloordiv_int (by omega) (by rw [Int.fdiv_eq_ediv_of_nonneg i (by omega)]; exact q) (.inl (PyProof.noPylong_small (by omega)))
theorem iop_mod : OpR X (inplaceOp .Mod) (rI (fun _ j => 0 < j) fun i j => .int (i % j)) := opI fun i j _ _ _ _ _ hc q => by
  have h1 : (0 : Int) < j := hc
  exact imod_int (by omega) (by rw [Int.fmod_eq_emod_of_nonneg i (by omega)]; exact q)
theorem iop_shl : OpR X (inplaceOp .LShift) (rI CPow fun i j => .int (i * 2 ^ j.toNat)) := opI fun _ _ _ _ _ _ _ hc q => ilshift_int_small hc.1 hc.2.1 hc.2.2 q
theorem iop_shr : OpR X (inplaceOp .RShift) (rI (fun _ j => 0 ≤ j) fun i j => .int (i / 2 ^ j.toNat)) := opI fun i j _ _ _ _ _ hc q =>
  irshift_int hc (by rw [Int.fdiv_eq_ediv_of_nonneg i (two_pow_nn _)]; exact q)
theorem iop_and : OpR X (inplaceOp .BitAnd) (rI0 fun i j => .int (Builtin.bitAnd i j)) := opI0 fun _ _ _ _ _ _ _ q => iand_int q
theorem iop_or : OpR X (inplaceOp .BitOr) (rI0 fun i j => .int (Builtin.bitOr i j)) := opI0 fun _ _ _ _ _ _ _ q => ior_int q
theorem iop_xor : OpR X (inplaceOp .BitXor) (rI0 fun i j => .int (Builtin.bitXor i j)) := opI0 fun _ _ _ _ _ _ _ q => ixor_int q

theorem unI {f : Value → Sem Value} {g : Int → Int}
    (rule : ∀ (i : Int) (t : Tok) (s : Shared) (Q : Value → Shared → Prop) (E : Value → Shared → Prop), Q (.int (g i) s.toks) { s with toks := s.toks + 1 } → wpAny (model X.prog X.w) X.A (f (.int i t)) Q E s) :
    UnR X f (rU fun i => .int (g i)) := by
  intro pins s σ H x v Q I rx h
  obtain ⟨i, rfl, q⟩ := h
  obtain ⟨t, rfl⟩ := rx
  exact rule i t s _ _ ⟨.int (g i), H, I.tok _, ⟨_, rfl⟩, q⟩
theorem un_neg : UnR X (unaryOp .USub) (rU fun i => .int (-i)) := unI fun _ _ _ _ _ q => neg_int q
theorem un_inv : UnR X (unaryOp .Invert) (rU fun i => .int (Builtin.bitNot i)) := unI fun _ _ _ _ _ q => invert_int q

/-! ### bools among ints: n += (a < b) -/
theorem op_add_ib : OpR X (binaryOp .Add) (fun x y H Q => ∃ i k, x = .int i ∧ y = .bl k ∧ Q (.int (i + b2i k)) H) := by
  intro pins s σ H x y v u Q I rx ry h
  obtain ⟨i, k, rfl, rfl, q⟩ := h
  obtain ⟨t, rfl⟩ := rx
  cases ry
  exact add_int_bool ⟨.int (i + b2i k), H, I.tok _, ⟨_, rfl⟩, q⟩
end

/-! ### comparisons -/
/-- the scalars that == tells apart as data does -/
def scal : V → V → Bool
  | .non, .non => true | .non, .int _ => true | .int _, .non => true | .non, .bl _ => true | .bl _, .non => true | .non, .str _ => true | .str _, .non => true
  | .int _, .int _ => true | .bl _, .bl _ => true | .str _, .str _ => true | .byt _, .byt _ => true
  | .int _, .str _ => true | .str _, .int _ => true | .bl _, .str _ => true | .str _, .bl _ => true
  | _, _ => false
def rEq : R2 := fun x y H Q => scal x y = true ∧ Q (.bl (decide (x = y))) H
def rNe : R2 := fun x y H Q => scal x y = true ∧ Q (.bl (!decide (x = y))) H

theorem dec_int {i j : Int} : decide (V.int i = V.int j) = (i == j) := by
  rw [Bool.eq_iff_iff]
  simp
theorem dec_bl {i j : Bool} : decide (V.bl i = V.bl j) = (i == j) := by
  rw [Bool.eq_iff_iff]
  simp
theorem dec_str {i j : Str} : decide (V.str i = V.str j) = (i == j) := by
  rw [Bool.eq_iff_iff]
  simp
theorem dec_byt {i j : Array UInt8} : decide (V.byt i = V.byt j) = (i.toList == j.toList) := by
  rw [Bool.eq_iff_iff]
  cases i
  cases j
  simp

section
variable {X : Cx} {a b c : Expr} {ta tb tc : TE} {pos : Pos}
theorem fin_bl {pins : List (Addr × Obj)} {σ : St} {H : Hp} {s : Shared} {Q : VK} {k k' : Bool} (I : Inv X pins σ H s) (q : Q (.bl k) H) (e : k = k') : EP X pins σ Q (.bool k') s := by
  subst e
  exact ⟨.bl k, H, I, rfl, q⟩
theorem op_eq : OpR X (compareOp .Eq) rEq := by
  intro pins s σ H x y v u Q I rx ry h
  obtain ⟨hs, q⟩ := h
  cases x with
  | non =>
    cases rx
    cases y with
    | non => cases ry; exact PySem.EqNone.eq_none_none (fin_bl I q (by simp))
    | bl j => cases ry; exact PySem.EqNone.eq_none_bool (fin_bl I q (by simp))
    | int j => obtain ⟨t', rfl⟩ := ry; exact PySem.EqNone.eq_none_int (fin_bl I q (by simp))
    | str j => obtain ⟨t', rfl⟩ := ry; exact PySem.EqNone.eq_none_str (fin_bl I q (by simp))
    | _ => exact absurd (show false = true from hs) Bool.false_ne_true
  | bl i =>
    cases rx
    cases y with
    | non => cases ry; exact PySem.EqNone.eq_bool_none (fin_bl I q (by simp))
    | bl j => cases ry; exact eq_bool (fin_bl I q dec_bl)
    | str j => obtain ⟨t', rfl⟩ := ry; exact PySem.EqMixed.eq_bool_str (fin_bl I q (by simp))
    | _ => exact absurd (show false = true from hs) Bool.false_ne_true
  | int i =>
    obtain ⟨t, rfl⟩ := rx
    cases y with
    | non => cases ry; exact PySem.EqNone.eq_int_none (fin_bl I q (by simp))
    | int j => obtain ⟨t', rfl⟩ := ry; exact eq_int (fin_bl I q dec_int)
    | str j => obtain ⟨t', rfl⟩ := ry; exact PySem.EqMixed.eq_int_str (fin_bl I q (by simp))
    | _ => exact absurd (show false = true from hs) Bool.false_ne_true
  | str i =>
    obtain ⟨t, rfl⟩ := rx
    cases y with
    | non => cases ry; exact PySem.EqNone.eq_str_none (fin_bl I q (by simp))
    | bl j => cases ry; exact PySem.EqMixed.eq_str_bool (fin_bl I q (by simp))
    | int j => obtain ⟨t', rfl⟩ := ry; exact PySem.EqMixed.eq_str_int (fin_bl I q (by simp))
    | str j => obtain ⟨t', rfl⟩ := ry; exact eq_str (fin_bl I q dec_str)
    | _ => exact absurd (show false = true from hs) Bool.false_ne_true
  | byt i =>
    obtain ⟨t, rfl⟩ := rx
    cases y with
    | byt j => obtain ⟨t', rfl⟩ := ry; exact PySem.W.eq_bytes (fin_bl I q dec_byt)
    | _ => exact absurd (show false = true from hs) Bool.false_ne_true
  | _ => cases y <;> exact absurd (show false = true from hs) Bool.false_ne_true
theorem op_ne : OpR X (compareOp .NotEq) rNe := by
  intro pins s σ H x y v u Q I rx ry h
  obtain ⟨hs, q⟩ := h
  cases x with
  | non =>
    cases rx
    cases y with
    | non => cases ry; exact PySem.EqNone.ne_none_none (fin_bl I q (by simp))
    | bl j => cases ry; exact PySem.EqNone.ne_none_bool (fin_bl I q (by simp))
    | int j => obtain ⟨t', rfl⟩ := ry; exact PySem.EqNone.ne_none_int (fin_bl I q (by simp))
    | str j => obtain ⟨t', rfl⟩ := ry; exact PySem.EqNone.ne_none_str (fin_bl I q (by simp))
    | _ => exact absurd (show false = true from hs) Bool.false_ne_true
  | bl i =>
    cases rx
    cases y with
    | non => cases ry; exact PySem.EqNone.ne_bool_none (fin_bl I q (by simp))
    | bl j => cases ry; exact ne_bool (fin_bl I q (congrArg not dec_bl))
    | str j => obtain ⟨t', rfl⟩ := ry; exact PySem.EqMixed.ne_bool_str (fin_bl I q (by simp))
    | _ => exact absurd (show false = true from hs) Bool.false_ne_true
  | int i =>
    obtain ⟨t, rfl⟩ := rx
    cases y with
    | non => cases ry; exact PySem.EqNone.ne_int_none (fin_bl I q (by simp))
    | int j => obtain ⟨t', rfl⟩ := ry; exact ne_int (fin_bl I q (congrArg not dec_int))
    | str j => obtain ⟨t', rfl⟩ := ry; exact PySem.EqMixed.ne_int_str (fin_bl I q (by simp))
    | _ => exact absurd (show false = true from hs) Bool.false_ne_true
  | str i =>
    obtain ⟨t, rfl⟩ := rx
    cases y with
    | non => cases ry; exact PySem.EqNone.ne_str_none (fin_bl I q (by simp))
    | bl j => cases ry; exact PySem.EqMixed.ne_str_bool (fin_bl I q (by simp))
    | int j => obtain ⟨t', rfl⟩ := ry; exact PySem.EqMixed.ne_str_int (fin_bl I q (by simp))
    | str j => obtain ⟨t', rfl⟩ := ry; exact ne_str (fin_bl I q (congrArg not dec_str))
    | _ => exact absurd (show false = true from hs) Bool.false_ne_true
  | byt i =>
    obtain ⟨t, rfl⟩ := rx
    cases y with
    | byt j => obtain ⟨t', rfl⟩ := ry; exact PySem.W.ne_bytes (fin_bl I q (congrArg not dec_byt))
    | _ => exact absurd (show false = true from hs) Bool.false_ne_true
  | _ => cases y <;> exact absurd (show false = true from hs) Bool.false_ne_true

theorem op_lt : OpR X (compareOp .Lt) (rI0 fun i j => .bl (decide (i < j))) := opB0 fun _ _ _ _ _ _ _ q => lt_int q
theorem op_le : OpR X (compareOp .LtE) (rI0 fun i j => .bl (decide (i ≤ j))) := opB0 fun _ _ _ _ _ _ _ q => le_int q
theorem op_gt : OpR X (compareOp .Gt) (rI0 fun i j => .bl (decide (j < i))) := opB0 fun _ _ _ _ _ _ _ q => gt_int q
theorem op_ge : OpR X (compareOp .GtE) (rI0 fun i j => .bl (decide (j ≤ i))) := opB0 fun _ _ _ _ _ _ _ q => ge_int q
theorem op_lt_str : OpR X (compareOp .Lt) (fun x y H Q => ∃ i j, x = .str i ∧ y = .str j ∧ Q (.bl (decide (i.cps.toList < j.cps.toList))) H) := by
  intro pins s σ H x y v u Q I rx ry h
  obtain ⟨i, j, rfl, rfl, q⟩ := h
  obtain ⟨t, rfl⟩ := rx
  obtain ⟨t', rfl⟩ := ry
  exact lt_str (fin_bl I q rfl)
/-- the one string within the other -/
theorem op_in_str : OpR X (compareOp .In) (fun x y H Q => ∃ i j, x = .str i ∧ y = .str j ∧ Q (.bl (!(Builtin.Str.occurrences j i 0 j.length 1).isEmpty)) H) := by
  intro pins s σ H x y v u Q I rx ry h
  obtain ⟨i, j, rfl, rfl, q⟩ := h
  obtain ⟨t, rfl⟩ := rx
  obtain ⟨t', rfl⟩ := ry
  exact in_str (fin_bl I q rfl)

/-- is None, is not None: the right side a value none -/
theorem op_isN : OpR X (compareOp .Is) (fun x y H Q => y = .non ∧ Q (.bl (decide (x = .non))) H) := by
  intro pins s σ H x y v u Q I rx ry h
  obtain ⟨rfl, q⟩ := h
  cases ry
  refine is_none_gen (fin_bl I q ?_)
  cases x <;> first
    | (cases rx; rfl)
    | (obtain ⟨t, rfl⟩ := rx; rfl)
theorem op_notN : OpR X (compareOp .IsNot) (fun x y H Q => y = .non ∧ Q (.bl (!decide (x = .non))) H) := by
  intro pins s σ H x y v u Q I rx ry h
  obtain ⟨rfl, q⟩ := h
  cases ry
  refine isnot_none_gen (fin_bl I q ?_)
  cases x <;> first
    | (cases rx; rfl)
    | (obtain ⟨t, rfl⟩ := rx; rfl)

theorem op_notin_str : OpR X (compareOp .NotIn) (fun x y H Q => ∃ i j, x = .str i ∧ y = .str j ∧ Q (.bl (!(!(Builtin.Str.occurrences j i 0 j.length 1).isEmpty))) H) := by
  intro pins s σ H x y v u Q I rx ry h
  obtain ⟨i, j, rfl, rfl, q⟩ := h
  obtain ⟨t, rfl⟩ := rx
  obtain ⟨t', rfl⟩ := ry
  exact notIn_str (fin_bl I q rfl)
/-- is, is not of two objects that are tracked lists or instances -/
def isObj : HO → Bool
  | .lst _ => true
  | .ins _ _ _ => true
  | _ => false
theorem obj_there {pins : List (Addr × Obj)} {s : Shared} {σ : St} {H : Hp} {a : Addr} {o : HO} (I : Inv X pins σ H s) (h : H a = some o) (p : isObj o = true) : ∃ ob, s.heap.get? a = some ob ∧ ob.cls ≠ .type "tuple" := by
  cases o with
  | lst xs =>
    obtain ⟨_, its, n, _, e⟩ : xs.length ≤ sizeLine ∧ ∃ (its : List Value) (n : Nat), Vals xs its ∧ s.heap.get? a = some { cls := .type "list", data := .seq its.toArray n } := I.hok a _ h
    exact ⟨_, e, (by show Value.type "list" ≠ .type "tuple"; decide +kernel)⟩
  | ins C dx fs =>
    have x := I.hok a _ h
    obtain ⟨_, _, _, e, _⟩ := x
    exact ⟨_, e, (by show Value.ref C ≠ .type "tuple"; exact fun z => by cases z)⟩
  | _ => exact absurd (show false = true from p) Bool.false_ne_true
theorem op_is_ref : OpR X (compareOp .Is) (fun x y H Q => ∃ a b oa ob, x = .ref a ∧ y = .ref b ∧ H a = some oa ∧ isObj oa = true ∧ H b = some ob ∧ isObj ob = true ∧ Q (.bl (decide (a = b))) H) := by
  intro pins s σ H x y v u Q I rx ry h
  obtain ⟨a, b, oa, ob, rfl, rfl, ha, pa, hb, pb, q⟩ := h
  cases rx
  cases ry
  obtain ⟨o1, e1, n1⟩ := obj_there I ha pa
  obtain ⟨o2, e2, _⟩ := obj_there I hb pb
  by_cases z : a = b
  · subst z
    exact wpAny_is_ref_self (fin_bl I q (by simp))
  · exact wpAny_is_ref_other z e1 e2 n1 (fin_bl I q (by simp [z]))
theorem op_isnot_ref : OpR X (compareOp .IsNot) (fun x y H Q => ∃ a b oa ob, x = .ref a ∧ y = .ref b ∧ H a = some oa ∧ isObj oa = true ∧ H b = some ob ∧ isObj ob = true ∧ Q (.bl (!decide (a = b))) H) := by
  intro pins s σ H x y v u Q I rx ry h
  obtain ⟨a, b, oa, ob, rfl, rfl, ha, pa, hb, pb, q⟩ := h
  cases rx
  cases ry
  obtain ⟨o1, e1, n1⟩ := obj_there I ha pa
  obtain ⟨o2, e2, _⟩ := obj_there I hb pb
  by_cases z : a = b
  · subst z
    exact wpAny_isNot_ref_self (fin_bl I q (by simp))
  · exact wpAny_isNot_ref_other z e1 e2 n1 (fin_bl I q (by simp [z]))

/-- two rules for one operation: by cases -/
theorem OpR.or {f : Value → Value → Sem Value} {r r' : R2} (h : OpR X f r) (h' : OpR X f r') : OpR X f (fun x y H Q => r x y H Q ∨ r' x y H Q) := by
  intro pins s σ H x y v u Q I rx ry q
  rcases q with q | q
  · exact h pins s σ H x y v u Q I rx ry q
  · exact h' pins s σ H x y v u Q I rx ry q

theorem nomark (b : Expr) {op : CmpOp} (h : op ≠ .In := by decide) (h2 : op ≠ .NotIn := by decide) : behindInMarks op b = false := by
  have e1 : (op == CmpOp.In) = false := by cases op <;> first | rfl | exact absurd rfl h
  have e2 : (op == CmpOp.NotIn) = false := by cases op <;> first | rfl | exact absurd rfl h2
  cases b <;> simp [behindInMarks, e1, e2]
/-- a comparison as a value; hm: nomark b, or (for in, not in) by with_unfolding_all rfl -/
theorem pe_cmpR {op : CmpOp} {r : R2} (ho : OpR X (compareOp op) r) (ha : PE X a ta) (hb : PE X b tb) (hm : behindInMarks op b = false) : PE X (.Compare a [op] [b] pos) (tOp r ta tb) := by
  intro pins s σ H Q I h
  exact wpAny_Compare1 (binT ha hb I h fun v u s2 x y H2 I2 rx ry q => ho pins s2 σ H2 x y v u Q I2 rx ry q) hm
/-- a reading of a value as a test -/
def tTest (t : TE) : TT := fun σ H Q => t σ H fun x H' => ∃ k, x = .bl k ∧ Q k H'
theorem pt_cmpR {op : CmpOp} {r : R2} (ho : OpR X (compareOp op) r) (ha : PE X a ta) (hb : PE X b tb) (hm : behindInMarks op b = false) : PT X (.Compare a [op] [b] pos) (tTest (tOp r ta tb)) := by
  intro pins s σ H Q I h
  refine wpAny_isTrue_Compare1 (thn (ha pins s σ H _ I h) fun v s1 ⟨x, H1, I1, r1, q1⟩ => thn (hb pins s1 σ H1 _ I1 q1) fun u s2 ⟨y, H2, I2, r2, q2⟩ =>
    thn (ho pins s2 σ H2 x y v u _ I2 r1 r2 q2) fun c s3 ⟨z, H3, I3, r3, k, e, q3⟩ => ?_) hm
  subst e
  cases r3
  exact wpAny_truthy_bool ⟨H3, I3, q3⟩
/-- a op1 b op2 c -/
def tChain (r r' : R2) (ta tb tc : TE) : TE := fun σ H Q => ta σ H fun x H1 => tb σ H1 fun y H2 => r x y H2 fun z H3 => ∃ k, z = .bl k ∧
  (if k = true then tc σ H3 fun w' H4 => r' y w' H4 Q else Q (.bl false) H3)
theorem pe_chain {op op' : CmpOp} {r r' : R2} (ho : OpR X (compareOp op) r) (ho' : OpR X (compareOp op') r') (ha : PE X a ta) (hb : PE X b tb) (hc : PE X c tc)
    (hm : lastMarks [op, op'] [b, c] = false := by with_unfolding_all rfl) : PE X (.Compare a [op, op'] [b, c] pos) (tChain r r' ta tb tc) := by
  intro pins s σ H Q I h
  refine Compare_chain (thn (ha pins s σ H _ I h) fun v s1 ⟨x, H1, I1, r1, q1⟩ => chain_link (thn (hb pins s1 σ H1 _ I1 q1) fun u s2 ⟨y, H2, I2, r2, q2⟩ =>
    thn (ho pins s2 σ H2 x y v u _ I2 r1 r2 q2) fun d s3 ⟨z, H3, I3, r3, k, e, q3⟩ => ?_)) hm
  subst e
  cases r3
  refine wpAny_truthy_bool ?_
  cases k with
  | false => exact ite_ff ⟨.bl false, H3, I3, rfl, q3⟩
  | true => exact ite_tt (chain_last (thn (hc pins s3 σ H3 _ I3 q3) fun w' s4 ⟨z', H4, I4, r4, q4⟩ => ho' pins s4 σ H4 y z' u w' Q I4 r2 r4 q4))
theorem pt_chain {op op' : CmpOp} {r r' : R2} (ho : OpR X (compareOp op) r) (ho' : OpR X (compareOp op') r') (ha : PE X a ta) (hb : PE X b tb) (hc : PE X c tc)
    (hm : lastMarks [op, op'] [b, c] = false := by with_unfolding_all rfl) : PT X (.Compare a [op, op'] [b, c] pos) (tTest (tChain r r' ta tb tc)) := by
  intro pins s σ H Q I h
  refine isTrue_chain (thn (ha pins s σ H _ I h) fun v s1 ⟨x, H1, I1, r1, q1⟩ => test_link (thn (hb pins s1 σ H1 _ I1 q1) fun u s2 ⟨y, H2, I2, r2, q2⟩ =>
    thn (ho pins s2 σ H2 x y v u _ I2 r1 r2 q2) fun d s3 ⟨z, H3, I3, r3, k, e, q3⟩ => ?_)) hm
  subst e
  cases r3
  refine wpAny_truthy_bool ?_
  cases k with
  | false =>
    obtain ⟨k', e', q'⟩ := q3
    cases e'
    exact ite_ff ⟨H3, I3, q'⟩
  | true =>
    refine ite_tt (test_last (thn (hc pins s3 σ H3 _ I3 q3) fun w' s4 ⟨z', H4, I4, r4, q4⟩ => thn (ho' pins s4 σ H4 y z' u w' _ I4 r2 r4 q4) fun d' s5 ⟨z2, H5, I5, r5, k2, e2, q5⟩ => ?_))
    subst e2
    cases r5
    exact wpAny_truthy_bool ⟨H5, I5, q5⟩

/-! ### truth -/
/-- a value's truth by the abstract heap -/
def TruV (K : PySem.W.Frag) (x : V) (H : Hp) (k : Bool) : Prop :=
  match x with
  | .non => k = false
  | .bl b => k = b
  | .int i => k = (i != 0)
  | .str y => y.length ≤ sizeLine ∧ k = ((y.length : Int) != 0)
  | .byt y => y.size ≤ sizeLine ∧ k = ((y.size : Int) != 0)
  | .ref p => (∃ xs, SqL K H p xs ∧ k = !xs.isEmpty) ∨ (∃ xs, SqT K H p xs ∧ k = !xs.isEmpty) ∨ ∃ kvs, H p = some (.dK kvs) ∧ k = !kvs.isEmpty
  | _ => False
theorem isEmpty_kv {κ : Type} {kvs : List (κ × V)} {vs : List (κ × Value)} (r : KV kvs vs) : (!vs.isEmpty) = !kvs.isEmpty := by
  cases r <;> rfl
theorem isEmpty_of {xs : List V} {its : List Value} (r : Vals xs its) : (!its.toArray.isEmpty) = !xs.isEmpty := by
  cases r <;> simp
theorem line63 : (sizeLine : Nat) < 2 ^ 63 := by rw [sizeLine_eq]; decide
theorem tru_ok : TruR X (fun x H Q => ∃ k, TruV X.K x H k ∧ Q k H) := by
  intro pins s σ H x v Q I rx h
  obtain ⟨k, e, q⟩ := h
  have hl := line63
  have hs : sizeLine = 16777216 := sizeLine_eq
  cases x with
  | non =>
    cases rx
    have e' : k = false := e
    subst e'
    exact truthy_none ⟨H, I, q⟩
  | bl b =>
    cases rx
    have e' : k = b := e
    subst e'
    exact wpAny_truthy_bool ⟨H, I, q⟩
  | int i =>
    obtain ⟨t, rfl⟩ := rx
    have e' : k = (i != 0) := e
    subst e'
    exact PySem.P.truthy_int ⟨H, I, q⟩
  | str y =>
    obtain ⟨t, rfl⟩ := rx
    obtain ⟨hy, e'⟩ : y.length ≤ sizeLine ∧ k = ((y.length : Int) != 0) := e
    subst e'
    exact PySem.P.truthy_str (by omega) ⟨H, I.tok _, q⟩
  | byt y =>
    obtain ⟨t, rfl⟩ := rx
    obtain ⟨hy, e'⟩ : y.size ≤ sizeLine ∧ k = ((y.size : Int) != 0) := e
    subst e'
    exact PySem.W.truthy_bytes (by omega) ⟨H, I.tok _, q⟩
  | ref p =>
    cases rx
    have e' : (∃ xs, SqL X.K H p xs ∧ k = !xs.isEmpty) ∨ (∃ xs, SqT X.K H p xs ∧ k = !xs.isEmpty) ∨ ∃ kvs, H p = some (.dK kvs) ∧ k = !kvs.isEmpty := e
    rcases e' with ⟨xs, hx, e'⟩ | ⟨xs, hx, e'⟩ | ⟨kvs, hx, e'⟩
    · subst e'
      obtain ⟨its, r, pl, hz⟩ := I.list hx
      have hlen := r.length
      exact wpAny_truthy_list pl.isList (by simp only [List.size_toArray]; omega) ⟨H, I.tok _, by rw [isEmpty_of r]; exact q⟩
    · subst e'
      obtain ⟨its, r, pl, hz⟩ := I.tuple hx
      have hlen := r.length
      exact truthy_tuple pl (by simp only [List.size_toArray]; omega) ⟨H, I.tok _, by rw [isEmpty_of r]; exact q⟩
    · subst e'
      obtain ⟨hz, hS, vs, r, m⟩ : kvs.length ≤ sizeLine ∧ (p == sysModules) = false ∧ ∃ vs, KV kvs vs ∧ s.heap.DictOf (mixKind X.prog X.w) p vs := I.hok p _ hx
      have hlen : kvs.length = vs.length := Paired.length r
      exact wpAny_truthy_dict hS m (by omega) ⟨H, I.tok _, by rw [isEmpty_kv r]; exact q⟩
  | _ => exact (show False from e).elim
/-- any expression whose test is its value's truth (a name, a call, a subscript, a field ..: he by fun _ => rfl) -/
theorem pt_truth (ha : PE X a ta) (he : ∀ whole, isTrue a X.env whole = (do let v ← whole; standAt a.pos; holding [v] (truthy v))) :
    PT X a (fun σ H Q => ta σ H fun x H' => ∃ k, TruV X.K x H' k ∧ Q k H') := by
  intro pins s σ H Q I h
  exact isTrue_plain (thn (ha pins s σ H _ I h) fun v s1 ⟨x, H1, I1, r1, q1⟩ => tru_ok pins s1 σ H1 x v Q I1 r1 q1) (he _)

/-! ### strs and bytes -/
theorem pe_byt {x : List UInt8} {k : Nat} : PE X (.Constant (.bytes x) k pos) (fun _ H Q => Q (.byt x.toArray) H) := fun _ _ _ H _ I h => PySem.W.Constant_bytes ⟨.byt x.toArray, H, I.tok _, ⟨_, rfl⟩, h⟩
theorem op_add_str : OpR X (binaryOp .Add) (fun x y H Q => ∃ i j, x = .str i ∧ y = .str j ∧ i.length + j.length ≤ sizeLine ∧ Q (.str (i ++ j)) H) := by
  intro pins s σ H x y v u Q I rx ry h
  obtain ⟨i, j, rfl, rfl, hz, q⟩ := h
  obtain ⟨t, rfl⟩ := rx
  obtain ⟨t', rfl⟩ := ry
  exact add_str (fun t' tk => ⟨.str (i ++ j), H, I.tok _, ⟨_, rfl⟩, q⟩) hz
theorem iop_add_str : OpR X (inplaceOp .Add) (fun x y H Q => ∃ i j, x = .str i ∧ y = .str j ∧ i.length + j.length ≤ sizeLine ∧ Q (.str (i ++ j)) H) := by
  intro pins s σ H x y v u Q I rx ry h
  obtain ⟨i, j, rfl, rfl, hz, q⟩ := h
  obtain ⟨t, rfl⟩ := rx
  obtain ⟨t', rfl⟩ := ry
  exact iadd_str (fun t' tk => ⟨.str (i ++ j), H, I.tok _, ⟨_, rfl⟩, q⟩) hz
theorem op_add_byt : OpR X (binaryOp .Add) (fun x y H Q => ∃ i j, x = .byt i ∧ y = .byt j ∧ i.size + j.size ≤ 16777216 ∧ Q (.byt (i ++ j)) H) := by
  intro pins s σ H x y v u Q I rx ry h
  obtain ⟨i, j, rfl, rfl, hz, q⟩ := h
  obtain ⟨t, rfl⟩ := rx
  obtain ⟨t', rfl⟩ := ry
  exact PySem.W.KBy.add_bytes hz (fun t' tk => ⟨.byt (i ++ j), H, I.tok _, ⟨_, rfl⟩, q⟩)

def PlainIxT (b : Expr) : Prop := ∀ o i, subscripted b false o i = operate [o, i] (getItem o i)
/-- s[i], 0 ≤ i < len -/
theorem pe_item_str (ha : PE X a ta) (hb : PE X b tb) (hs : PlainIxT b) :
    PE X (.Subscript a b pos) (tOp (fun x y H Q => ∃ z i c, x = .str z ∧ y = .int i ∧ 0 ≤ i ∧ i < 2 ^ 63 ∧ i < z.length ∧ z.cps[i.toNat]? = some c ∧ Q (.str ⟨#[c]⟩) H) ta tb) := by
  intro pins s σ H Q I h
  refine Subscript_ (binT ha hb I h fun v u s2 x y H2 I2 rx ry q => ?_)
  obtain ⟨z, i, c, rfl, rfl, h0, h63, h1, hc, q⟩ := q
  obtain ⟨t, rfl⟩ := rx
  obtain ⟨t', rfl⟩ := ry
  have e : seqIndex? i z.length = some i.toNat := PySem.StrLaws.seqIndex_nonneg h0 h1
  exact tail_any (typeIs_str s2 z t) slot_str_getitem.lookup (getItem_str (c := c) (by
    have e1 : decide (i < -(2 ^ 63 : Int)) = false := decide_eq_false (by omega)
    have e2 : decide (i ≥ 2 ^ 63) = false := decide_eq_false (by omega)
    rw [e1, e2] <;> rfl) (by rw [e]; exact hc) ⟨.str ⟨#[c]⟩, H2, I2.tok _, ⟨_, rfl⟩, q⟩) (hs _ _)
/-- b[i], 0 ≤ i < len -/
theorem pe_item_byt (ha : PE X a ta) (hb : PE X b tb) (hs : PlainIxT b) :
    PE X (.Subscript a b pos) (tOp (fun x y H Q => ∃ (z : List UInt8) (i : Int), x = .byt z.toArray ∧ y = .int i ∧ z.length ≤ sizeLine ∧ 0 ≤ i ∧ i < z.length ∧ Q (.int ((z.getD i.toNat 0).toNat : Nat)) H) ta tb) := by
  intro pins s σ H Q I h
  refine Subscript_ (binT ha hb I h fun v u s2 x y H2 I2 rx ry q => ?_)
  obtain ⟨z, i, rfl, rfl, hz, h0, h1, q⟩ := q
  obtain ⟨t, rfl⟩ := rx
  obtain ⟨t', rfl⟩ := ry
  have hl : sizeLine = 16777216 := sizeLine_eq
  exact tail_any (PySem.W.typeIs_bytes s2 z.toArray t) PySem.W.FB.slot_bytes_getitem.lookup (PySem.W.getItem_bytes (by omega) h0 h1 ⟨.int ((z.getD i.toNat 0).toNat : Nat), H2, I2.tok _, ⟨_, rfl⟩, q⟩) (hs _ _)

/-! ### scalar builtins, by CallR -/
theorem vals1 {x : V} {us : List Value} (r : Vals [x] us) : ∃ u, us = [u] ∧ RelV x u := by
  cases r with
  | cons r1 r2 => cases r2; exact ⟨_, rfl, r1⟩
theorem vals2 {x y : V} {us : List Value} (r : Vals [x, y] us) : ∃ u w', us = [u, w'] ∧ RelV x u ∧ RelV y w' := by
  cases r with
  | cons r1 r2 =>
    cases r2 with
    | cons r3 r4 => cases r4; exact ⟨_, _, rfl, r1, r3⟩
theorem call_abs : CallR X (.builtin "abs") (fun xs H Q => ∃ i, xs = [.int i] ∧ Q (.int (if i < 0 then -i else i)) H) := by
  intro pins s σ H xs us Q I r h
  obtain ⟨i, rfl, q⟩ := h
  obtain ⟨u, rfl, t, rfl⟩ := vals1 r
  exact call_abs_int fun u tk => ⟨.int (if i < 0 then -i else i), H, I.tok _, ⟨_, rfl⟩, q⟩
theorem call_max2 (hc : X.calm = true) : CallR X (.builtin "max") (fun xs H Q => ∃ i j, xs = [.int i, .int j] ∧ Q (.int (if j > i then j else i)) H) := by
  intro pins s σ H xs us Q I r h
  obtain ⟨i, j, rfl, q⟩ := h
  obtain ⟨u, w', rfl, ⟨t, rfl⟩, ⟨t', rfl⟩⟩ := vals2 r
  refine max_two_ints (I.ok.hd hc) fun h' tk k => ⟨_, H, I.kept k, ?_, q⟩
  by_cases hj : j > i
  · rw [if_pos hj, if_pos hj]; exact ⟨_, rfl⟩
  · rw [if_neg hj, if_neg hj]; exact ⟨_, rfl⟩
theorem call_min2 (hc : X.calm = true) : CallR X (.builtin "min") (fun xs H Q => ∃ i j, xs = [.int i, .int j] ∧ Q (.int (if j < i then j else i)) H) := by
  intro pins s σ H xs us Q I r h
  obtain ⟨i, j, rfl, q⟩ := h
  obtain ⟨u, w', rfl, ⟨t, rfl⟩, ⟨t', rfl⟩⟩ := vals2 r
  refine min_two_ints (I.ok.hd hc) fun h' tk k => ⟨_, H, I.kept k, ?_, q⟩
  by_cases hj : j < i
  · rw [if_pos hj, if_pos hj]; exact ⟨_, rfl⟩
  · rw [if_neg hj, if_neg hj]; exact ⟨_, rfl⟩
theorem call_int1 : CallR X (.type "int") (fun xs H Q => (∃ i, xs = [.int i] ∧ Q (.int i) H) ∨ ∃ k, xs = [.bl k] ∧ Q (.int (if k then 1 else 0)) H) := by
  intro pins s σ H xs us Q I r h
  rcases h with ⟨i, rfl, q⟩ | ⟨k, rfl, q⟩
  · obtain ⟨u, rfl, t, rfl⟩ := vals1 r
    exact call_int_int ⟨.int i, H, I, ⟨_, rfl⟩, q⟩
  · obtain ⟨u, rfl, r1⟩ := vals1 r
    cases r1
    exact call_int_bool ⟨.int (if k then 1 else 0), H, I.tok _, ⟨_, rfl⟩, q⟩
theorem call_bool1 : CallR X (.type "bool") (fun xs H Q => (∃ i, xs = [.int i] ∧ Q (.bl (i != 0)) H) ∨ ∃ k, xs = [.bl k] ∧ Q (.bl k) H) := by
  intro pins s σ H xs us Q I r h
  rcases h with ⟨i, rfl, q⟩ | ⟨k, rfl, q⟩
  · obtain ⟨u, rfl, t, rfl⟩ := vals1 r
    exact call_bool_int ⟨.bl (i != 0), H, I, rfl, q⟩
  · obtain ⟨u, rfl, r1⟩ := vals1 r
    cases r1
    exact call_bool_bool ⟨.bl k, H, I, rfl, q⟩
theorem call_str_int : CallR X (.type "str") (fun xs H Q => ∃ i, xs = [.int i] ∧ i.natAbs.log2 < 1920 ∧ Q (.str (toString i)) H) := by
  intro pins s σ H xs us Q I r h
  obtain ⟨i, rfl, hz, q⟩ := h
  obtain ⟨u, rfl, t, rfl⟩ := vals1 r
  exact PySem.P.str_of_int hz ⟨.str _, H, I.tok _, ⟨_, rfl⟩, q⟩
theorem call_ord : CallR X (.builtin "ord") (fun xs H Q => ∃ x, xs = [.str x] ∧ x.length = 1 ∧ Q (.int (x.cps.getD 0 0 : Nat)) H) := by
  intro pins s σ H xs us Q I r h
  obtain ⟨x, rfl, hz, q⟩ := h
  obtain ⟨u, rfl, t, rfl⟩ := vals1 r
  exact ord_of_one hz ⟨.int _, H, I.tok _, ⟨_, rfl⟩, q⟩
theorem call_chr : CallR X (.builtin "chr") (fun xs H Q => ∃ i, xs = [.int i] ∧ 0 ≤ i ∧ i ≤ 1114111 ∧ Q (.str ⟨#[i.toNat]⟩) H) := by
  intro pins s σ H xs us Q I r h
  obtain ⟨i, rfl, h0, h1, q⟩ := h
  obtain ⟨u, rfl, t, rfl⟩ := vals1 r
  exact chr_of_range h0 h1 ⟨.str _, H, I.tok _, ⟨_, rfl⟩, q⟩
/-- len of a str, a bytes, a list, a tuple -/
def LenV (K : PySem.W.Frag) (x : V) (H : Hp) (n : Nat) : Prop :=
  match x with
  | .str y => y.length ≤ sizeLine ∧ n = y.length
  | .byt y => y.size ≤ sizeLine ∧ n = y.size
  | .ref p => (∃ xs, SqL K H p xs ∧ n = xs.length) ∨ ∃ xs, SqT K H p xs ∧ n = xs.length
  | _ => False
theorem call_len : CallR X (.builtin "len") (fun xs H Q => ∃ x n, xs = [x] ∧ LenV X.K x H n ∧ Q (.int n) H) := by
  intro pins s σ H xs us Q I r h
  obtain ⟨x, n, rfl, e, q⟩ := h
  obtain ⟨u, rfl, rx⟩ := vals1 r
  have hl := line63
  have hs : sizeLine = 16777216 := sizeLine_eq
  cases x with
  | str y =>
    obtain ⟨t, rfl⟩ := rx
    obtain ⟨hy, e'⟩ : y.length ≤ sizeLine ∧ n = y.length := e
    subst e'
    exact len_str (by omega) ⟨.int _, H, I.tok _, ⟨_, rfl⟩, q⟩
  | byt y =>
    obtain ⟨t, rfl⟩ := rx
    obtain ⟨hy, e'⟩ : y.size ≤ sizeLine ∧ n = y.size := e
    subst e'
    exact PySem.W.len_bytes (by omega) ⟨.int _, H, I.tok _, ⟨_, rfl⟩, q⟩
  | ref p =>
    cases rx
    have e' : (∃ xs, SqL X.K H p xs ∧ n = xs.length) ∨ ∃ xs, SqT X.K H p xs ∧ n = xs.length := e
    rcases e' with ⟨xs, hx, e'⟩ | ⟨xs, hx, e'⟩
    · subst e'
      obtain ⟨its, r', pl, hz⟩ := I.list hx
      have hlen := r'.length
      exact Calls.call_len_list pl.isList (by simp only [List.size_toArray]; omega) ⟨.int xs.length, H, I.tok _, ⟨_, by simp only [List.size_toArray]; rw [hlen]⟩, q⟩
    · subst e'
      obtain ⟨its, r', pl, hz⟩ := I.tuple hx
      have hlen := r'.length
      exact len_tuple pl (by simp only [List.size_toArray]; omega) ⟨.int xs.length, H, I.tok _, ⟨_, by simp only [List.size_toArray]; rw [hlen]⟩, q⟩
  | _ => exact (show False from e).elim
/-- divmod: a new tuple -/
theorem call_divmod : CallR X (.builtin "divmod") (fun xs H Q => ∃ i j, xs = [.int i, .int j] ∧ CDiv i j ∧ ∀ p, H p = none → Q (.ref p) (upd H p (.tup [.int (i / j), .int (i % j)]))) := by
  intro pins s σ H xs us Q I r h
  obtain ⟨i, j, rfl, ⟨h1, h2⟩, q⟩ := h
  obtain ⟨u, w', rfl, ⟨t, rfl⟩, ⟨t', rfl⟩⟩ := vals2 r
  refine divmod_int (by omega) ?_ (.inl (PyProof.noPylong_small (by omega)))
  rw [Int.fdiv_eq_ediv_of_nonneg i (by omega), Int.fmod_eq_emod_of_nonneg i (by omega)]
  have hn : H s.heap.objs.size = none := I.hok.fresh (Nat.le_refl _)
  refine ⟨.ref s.heap.objs.size, _, ?_, rfl, q _ hn⟩
  refine I.laid (fun b o e => Heap.get?_push_of_some _ e) (Nat.le_refl _) ⟨by simp only [List.length_cons, List.length_nil]; rw [sizeLine_eq]; decide, [.int (i / j) s.toks, .int (i % j) (s.toks + 1)], .cons ⟨_, rfl⟩ (.cons ⟨_, rfl⟩ .nil), ?_⟩
  exact ⟨_, Heap.get?_push_size s.heap rfl, rfl, 0, rfl⟩
end
end L2

namespace L2
open PySem PySem.Spec PyProof.Rows

/-! ### an instance, its attributes a map -/
structure ObjM (h : Heap) (x dx C : Addr) (mA : Str → Option Value) : Prop where
  obj : h.get? x = some (PySem.W.instObj C dx)
  ns : h.Ns1 dx mA
  ne : dx ≠ x

theorem lookIn_ns {h : Heap} {dx : Addr} {mA : Str → Option Value} (n : h.Ns1 dx mA) : ∃ od, h.get? dx = some od ∧ ∀ name, PySem.W.lookIn name od = some (mA name) := by
  obtain ⟨o, es, ep, ho, hd, hk, _, hm⟩ := n
  refine ⟨o, ho, fun name => ?_⟩
  have e := hm name
  unfold nsFind findBy at e
  rw [← Array.find?_toList] at e
  unfold PySem.W.lookIn
  rw [hd]
  dsimp only
  split
  · rename_i y q
    rw [q] at e
    exact congrArg some e
  · rename_i q
    rw [q] at e
    have a : es.toList.any (·.refKey) = false := by
      rw [List.any_eq_false]
      intro y hy
      obtain ⟨z, t, hkey⟩ := hk y (Array.mem_toList_iff.mp hy)
      simp [DictEntry.refKey, hkey]
    have a' : ¬ es.toList.any (·.refKey) = true := by rw [a]; exact Bool.false_ne_true
    rw [if_neg a']
    exact congrArg some e

theorem ObjM.look {h : Heap} {x dx C : Addr} {mA : Str → Option Value} (I : ObjM h x dx C mA) : ∃ od, PySem.W.InstAt h x (PySem.W.instObj C dx) C (some od) ∧ ∀ name, PySem.W.lookIn name od = some (mA name) :=
  let ⟨od, ho, hl⟩ := lookIn_ns I.ns
  ⟨od, ⟨I.obj, rfl, rfl, ho⟩, hl⟩

section
variable {prog : Program} {w : World} {A : Around} {E : Value → Shared → Prop} {s : Shared} {K : PySem.W.Frag} {x dx C f : Addr} {mA : Str → Option Value} {name : Str} {v : Value}

theorem get_map {expr : Bool} {Q : Value → Shared → Prop} (X : K.In s.heap) (I : ObjM s.heap x dx C mA) (hg : PySem.W.plainGet K C name = true) (hh : PySem.W.hasDictIn K C = true)
    (ha : PySem.W.findIn K (.ref C) name = some none) (hv : mA name = some v) (hv' : PySem.W.handedIn v = true) (h : Q v { s with toks := s.toks + 1 }) :
    wpAny (model prog w) A (getAttr (.ref x) name expr) Q E s := by
  obtain ⟨od, J, hl⟩ := I.look
  exact PySem.W.get_value X J (PySem.W.plainGet_of hg).1 (PySem.W.findObj_own hh ha rfl (by rw [hl, hv])) hv' h

theorem get_const {expr : Bool} {a : Value} {Q : Value → Shared → Prop} (X : K.In s.heap) (I : ObjM s.heap x dx C mA) (hg : PySem.W.plainGet K C name = true) (hh : PySem.W.hasDictIn K C = true)
    (ha : PySem.W.findIn K (.ref C) name = some (some a)) (hn : PySem.W.specialIn K a "__get__" = some none) (hc : PySem.W.copiedNames.contains name = false) (hv : mA name = none) (hv' : PySem.W.handedIn a = true)
    (h : Q a { s with toks := s.toks + 1 }) : wpAny (model prog w) A (getAttr (.ref x) name expr) Q E s := by
  obtain ⟨od, J, hl⟩ := I.look
  exact PySem.W.get_value X J (PySem.W.plainGet_of hg).1 (PySem.W.findObj_cls hh ha hn hv' hc (by rw [hl, hv])) hv' h

theorem get_meth {pl : Sem Bool} {Q : Value × List Value → Shared → Prop} (X : K.In s.heap) (I : ObjM s.heap x dx C mA) (hg : PySem.W.plainGet K C name = true)
    (hf : PySem.W.findIn K (.ref C) name = some (some (.ref f))) (ht : PySem.W.isFn K (.ref f) = true) (hv : mA name = none) (h : Q (.ref f, [.ref x]) s) :
    wpAny (model prog w) A (getMethod (.ref x) name pl) Q E s := by
  obtain ⟨od, J, hl⟩ := I.look
  exact PySem.W.method_fn X J (PySem.W.plainGet_of hg).1 (PySem.W.plainGet_of hg).2 hf (beq_iff_eq.mp ht) (by show (PySem.W.lookIn name od).map (·.isSome) = some false; rw [hl, hv]; rfl) h

theorem set_map {ns : List Str} {Q : Unit → Shared → Prop} (X : K.In s.heap) (I : ObjM s.heap x dx C mA)
    (hs : PySem.W.findIn K (.ref C) "__setattr__" = some (some (.builtin "object.__setattr__"))) (hp : PySem.W.plainOver K C = true) (ht : PySem.W.takerIn K C name = some none) (hh : PySem.W.hasDictIn K C = true)
    (hw : PySem.Within mA ns) (hsz : ns.length ≤ sizeLine)
    (h : ∀ h', ObjM h' x dx C (fun y => if y = name then some v else mA y) → Heap.SameBut dx s.heap h' → Q () { s with heap := h', toks := s.toks + 2 }) :
    wpAny (model prog w) A (setAttr (.ref x) name v) Q E s := by
  obtain ⟨od, J, hl⟩ := I.look
  refine PySem.W.set_plain X J hs (PySem.W.osa_open (s := { s with toks := s.toks + 1 }) (r := none) X J hp ht fun b => ?_)
  obtain ⟨cd, hc, hd'⟩ := PySem.W.any_some hh
  have hx : s.heap.get? x = some ⟨.ref C, some dx, .plain, #[]⟩ := I.obj
  refine wpAny_bind (wpAny_pure (wpAny_bind (wpAny_bind (wpAny_loadPart hx (wpAny_bind (PySem.W.Looks.here (s := { s with toks := s.toks + 1 }) (PySem.W.looks_clsIn X hc) ?_))))))
  rw [hd']
  refine wpAny_pure (a := some dx) (wpAny_bind (wpAny_pure (wpAny_bind ?_)))
  refine wpAny_nsSet1 (s := { s with toks := s.toks + 1 }) I.ns fun h' hn2 hs2 => ?_
  obtain ⟨oD, esD, epD, hoD, hdD, hcD⟩ := hn2.count (PySem.Within.cons name v hw)
  refine wpAny_bind (wpAny_lookBehind hoD (by rw [hdD]; exact pastItsLine_dict (Nat.le_trans hcD (by rw [List.length_cons]; omega))) ?_)
  exact wpAny_pure (h _ ⟨(hs2.2 _ (Ne.symm I.ne)).trans I.obj, hn2, I.ne⟩ hs2)

/-- C(..): the dict at the heap's end, the instance behind it; then its __init__ -/
theorem make_map {R : Result → Shared → Prop} {vs : List Value} {kw : List (Str × Value)} (X : K.In s.heap) (hm : PySem.W.makesIn K C = true)
    (hi : PySem.W.findIn K (.ref C) "__init__" = some (some (.ref f))) (hf : PySem.W.typeIn K (.ref f) = some (.type "function"))
    (h : codeAny (model prog w) (A.under (.builtin "type.__call__" ⟨.ref C :: vs, kw⟩)) (.call (.ref f) ⟨.ref (s.heap.objs.size + 1) :: vs, kw⟩) (PySem.W.InitBack (s.heap.objs.size + 1) R)
      { s with heap := (s.heap.push PySem.W.emptyDict).push (PySem.W.instObj C s.heap.objs.size) }) :
    codeAny (model prog w) A (.call (.ref C) ⟨vs, kw⟩) R s := by
  obtain ⟨hh, g, d, t, os⟩ := s
  exact PySem.W.make_core (PySem.W.makes_of X hm) (PySem.W.looks_findIn X hi) (fun self => PySem.W.bind_fn X self hf) (.inl rfl) h
/-- C() where there is no __init__ but object's -/
theorem make_map0 {R : Result → Shared → Prop} (X : K.In s.heap) (hm : PySem.W.makesIn K C = true)
    (hi : PySem.W.findIn K (.ref C) "__init__" = some (some (.builtin "object.__init__")))
    (hb : ∀ self, PySem.W.Looks (model prog w) s.heap (bindSpecial (.builtin "object.__init__") self) (.builtin "object.__init__", [self]))
    (h : codeAny (model prog w) (A.under (.builtin "type.__call__" ⟨[.ref C], []⟩)) (.call (.builtin "object.__init__") ⟨[.ref (s.heap.objs.size + 1)], []⟩) (PySem.W.InitBack (s.heap.objs.size + 1) R)
      { s with heap := (s.heap.push PySem.W.emptyDict).push (PySem.W.instObj C s.heap.objs.size) }) :
    codeAny (model prog w) A (.call (.ref C) ⟨[], []⟩) R s := by
  obtain ⟨hh, g, d, t, os⟩ := s
  exact PySem.W.make_core (PySem.W.makes_of X hm) (PySem.W.looks_findIn X hi) hb (.inr ⟨rfl, rfl⟩) h
end

/-! ### the attributes as a list of pairs -/
def putF (f : Str) (v : V) : List (Str × V) → List (Str × V)
  | [] => [(f, v)]
  | (g, x) :: r => if g = f then (g, v) :: r else (g, x) :: putF f v r
theorem lookup_putF (f g : Str) (v : V) : ∀ fs : List (Str × V), (putF f v fs).lookup g = if g = f then some v else fs.lookup g
  | [] => by
    show List.lookup g [(f, v)] = _
    by_cases h : g = f
    · have hb : (g == f) = true := beq_iff_eq.mpr h
      simp only [List.lookup, hb, if_pos h]
    · have hb : (g == f) = false := beq_eq_false_iff_ne.mpr h
      simp only [List.lookup, hb, if_neg h]
  | (k, x) :: r => by
    have ih := lookup_putF f g v r
    rw [show putF f v ((k, x) :: r) = (if k = f then (k, v) :: r else (k, x) :: putF f v r) from rfl]
    by_cases hk : k = f
    · rw [if_pos hk]
      by_cases h : g = k
      · have hb : (g == k) = true := beq_iff_eq.mpr h
        simp only [List.lookup, hb, if_pos (h.trans hk)]
      · have hb : (g == k) = false := beq_eq_false_iff_ne.mpr h
        simp only [List.lookup, hb, if_neg (fun e : g = f => h (e.trans hk.symm))]
    · rw [if_neg hk]
      by_cases h : g = k
      · have hb : (g == k) = true := beq_iff_eq.mpr h
        simp only [List.lookup, hb, if_neg (fun e : g = f => hk (h.symm.trans e))]
      · have hb : (g == k) = false := beq_eq_false_iff_ne.mpr h
        simp only [List.lookup, hb]
        exact ih
theorem keys_putF (f : Str) (v : V) : ∀ fs : List (Str × V), f ∈ (putF f v fs).map (·.1) ∧ ∀ g, g ∈ fs.map (·.1) → g ∈ (putF f v fs).map (·.1)
  | [] => ⟨by simp [putF], fun g h => by simp at h⟩
  | (k, x) :: r => by
    obtain ⟨i1, i2⟩ := keys_putF f v r
    rw [show putF f v ((k, x) :: r) = (if k = f then (k, v) :: r else (k, x) :: putF f v r) from rfl]
    by_cases hk : k = f
    · rw [if_pos hk]
      subst hk
      exact ⟨by simp, fun g h => by simpa using h⟩
    · rw [if_neg hk]
      refine ⟨?_, fun g h => ?_⟩
      · rw [List.map_cons]
        exact List.mem_cons_of_mem _ i1
      · rw [List.map_cons] at h ⊢
        rcases List.mem_cons.mp h with e | e
        · exact List.mem_cons.mpr (.inl e)
        · exact List.mem_cons_of_mem _ (i2 g e)
theorem length_putF (f : Str) (v : V) : ∀ fs : List (Str × V), (putF f v fs).length ≤ fs.length + 1
  | [] => by simp [putF]
  | (k, x) :: r => by
    have ih := length_putF f v r
    rw [show putF f v ((k, x) :: r) = (if k = f then (k, v) :: r else (k, x) :: putF f v r) from rfl]
    by_cases hk : k = f
    · rw [if_pos hk, List.length_cons, List.length_cons]; omega
    · rw [if_neg hk, List.length_cons, List.length_cons]; omega

theorem RelO.some_of {v : V} {o : Option Value} (r : RelO (some v) o) : ∃ u, o = some u ∧ RelV v u := by
  cases o with
  | none => exact (show False from r).elim
  | some u => exact ⟨u, rfl, r⟩
theorem RelO.none_of {o : Option Value} (r : RelO none o) : o = none := by
  cases o with
  | none => rfl
  | some u => exact (show False from r).elim
theorem handed_of {v : V} {u : Value} (r : RelV v u) : PySem.W.handedIn u = true := by
  cases v with
  | non => cases (show u = Value.none from r); rfl
  | bl b => cases (show u = Value.bool b from r); rfl
  | int i => obtain ⟨t, e⟩ := (show ∃ t, u = Value.int i t from r); cases e; rfl
  | str x => obtain ⟨t, e⟩ := (show ∃ t, u = Value.str x t from r); cases e; rfl
  | byt b => obtain ⟨t, e⟩ := (show ∃ t, u = Value.bytes b t from r); cases e; rfl
  | flt b => obtain ⟨t, e⟩ := (show ∃ t, u = Value.float b t from r); cases e; rfl
  | ref a => cases (show u = Value.ref a from r); rfl
  | ty n => cases (show u = Value.type n from r); rfl

section
variable {P : Program} {w : World} {H H' : Hp} {h h' : Heap} {a C dx : Addr} {fs fs' : List (Str × V)}
theorem ins_get (hok : HOk P w H h) (e : H a = some (.ins C dx fs)) : ∃ mA, ObjM h a dx C mA ∧ (∀ f, RelO (fs.lookup f) (mA f)) ∧ PySem.Within mA (fs.map (·.1)) ∧ fs.length ≤ 1000 ∧ H dx = some (.own a) := by
  obtain ⟨d, z, ne, ob, mA, n, r, q⟩ := (show ObjOk P w H h a (.ins C dx fs) from hok a _ e)
  exact ⟨mA, ⟨ob, n, ne⟩, r, q, z, d⟩
end

/-! ### what of the text a class must have -/
structure Cls (K : PySem.W.Frag) (C : Addr) : Prop where
  pg : PySem.W.plainGet K C Str.empty = true
  hd : PySem.W.hasDictIn K C = true
  po : PySem.W.plainOver K C = true
  sa : PySem.W.findIn K (.ref C) "__setattr__" = some (some (.builtin "object.__setattr__"))
theorem Cls.get {K : PySem.W.Frag} {C : Addr} (c : Cls K C) (f : Str) : PySem.W.plainGet K C f = true := c.pg
/-- no class of it has the name -/
def NoAttr (K : PySem.W.Frag) (C : Addr) (f : Str) : Prop := PySem.W.findIn K (.ref C) f = some none
theorem NoAttr.taker {K : PySem.W.Frag} {C : Addr} {f : Str} (n : NoAttr K C f) : PySem.W.takerIn K C f = some none := by
  unfold PySem.W.takerIn
  rw [show PySem.W.findIn K (.ref C) f = some none from n]
  rfl
/-- a constant of the class -/
structure Con (K : PySem.W.Frag) (C : Addr) (f : Str) (v : V) (u : Value) : Prop where
  at_ : PySem.W.findIn K (.ref C) f = some (some u)
  rel : RelV v u
  get : PySem.W.specialIn K u "__get__" = some none
  cp : PySem.W.copiedNames.contains f = false
/-- a method: a plain def of the class or of one above it -/
structure Meth (K : PySem.W.Frag) (C : Addr) (m : Str) (f : Addr) : Prop where
  at_ : PySem.W.findIn K (.ref C) m = some (some (.ref f))
  fn : PySem.W.isFn K (.ref f) = true
  kp : PySem.W.keepIn K (.ref f) = true

section
variable {X : Cx} {pins : List (Addr × Obj)} {σ : St} {H : Hp} {s : Shared} {a C dx : Addr} {fs : List (Str × V)} {f : Str} {v : V} {A : Around} {E : Value → Shared → Prop}

theorem getattr_ok {b : Bool} {Q : Value → Shared → Prop} (I : Inv X pins σ H s) (e : H a = some (.ins C dx fs)) (c : Cls X.K C) (n : NoAttr X.K C f) (l : fs.lookup f = some v)
    (h : ∀ u s', Inv X pins σ H s' → RelV v u → Q u s') : wpAny (model X.prog X.w) A (getAttr (.ref a) f b) Q E s := by
  obtain ⟨mA, O, r, _, _, _⟩ := ins_get I.hok e
  obtain ⟨u, hu, ru⟩ := RelO.some_of (v := v) (o := mA f) (by rw [← l]; exact r f)
  exact get_map I.kIn O (c.get f) c.hd n hu (handed_of ru) (h u _ (I.tok _) ru)

theorem getcon_ok {b : Bool} {u : Value} {Q : Value → Shared → Prop} (I : Inv X pins σ H s) (e : H a = some (.ins C dx fs)) (c : Cls X.K C) (k : Con X.K C f v u) (l : fs.lookup f = none)
    (h : ∀ s', Inv X pins σ H s' → Q u s') : wpAny (model X.prog X.w) A (getAttr (.ref a) f b) Q E s := by
  obtain ⟨mA, O, r, _, _, _⟩ := ins_get I.hok e
  have hn : mA f = none := RelO.none_of (by rw [← l]; exact r f)
  exact get_const I.kIn O (c.get f) c.hd k.at_ k.get k.cp hn (handed_of k.rel) (h _ (I.tok _))

theorem getmeth_ok {m : Str} {g : Addr} {pl : Sem Bool} {Q : Value × List Value → Shared → Prop} (I : Inv X pins σ H s) (e : H a = some (.ins C dx fs)) (c : Cls X.K C) (k : Meth X.K C m g) (l : fs.lookup m = none)
    (h : Q (.ref g, [.ref a]) s) : wpAny (model X.prog X.w) A (getMethod (.ref a) m pl) Q E s := by
  obtain ⟨mA, O, r, _, _, _⟩ := ins_get I.hok e
  have hn : mA m = none := RelO.none_of (by rw [← l]; exact r m)
  exact get_meth I.kIn O (c.get m) k.at_ k.fn hn h

theorem setattr_ok {y : V} {u : Value} {Q : Unit → Shared → Prop} (I : Inv X pins σ H s) (e : H a = some (.ins C dx fs)) (c : Cls X.K C) (n : NoAttr X.K C f) (hl : fs.length < 1000) (ry : RelV y u)
    (h : ∀ s', Inv X pins σ (upd H a (.ins C dx (putF f y fs))) s' → Q () s') : wpAny (model X.prog X.w) A (setAttr (.ref a) f u) Q E s := by
  obtain ⟨mA, O, r, wi, _, ho⟩ := ins_get I.hok e
  have hz : (fs.map (·.1)).length ≤ sizeLine := by rw [List.length_map, sizeLine_eq]; omega
  refine set_map I.kIn O c.sa c.po n.taker c.hd wi hz fun h' O' sb => h _ ?_
  have hd : ∃ o, h'.get? dx = some o := let ⟨o, _, _, e', _⟩ := O'.ns; ⟨o, e'⟩
  refine I.write (x := a) (e := dx) (by rw [e]; exact True.intro) (.inr ho) (fun b q hb z => (sb.2 b hb).trans z) hd ?_
  refine ⟨by rw [upd_ne O.ne]; exact ho, ?_, O.ne, O'.obj, _, O'.ns, fun g => ?_, fun g hg => ?_⟩
  · have := length_putF f y fs; omega
  · show RelO ((putF f y fs).lookup g) (if g = f then some u else mA g)
    rw [lookup_putF]
    by_cases q : g = f
    · rw [if_pos q, if_pos q]; exact ry
    · rw [if_neg q, if_neg q]; exact r g
  · by_cases q : g = f
    · rw [q]; exact (keys_putF f y fs).1
    · refine (keys_putF f y fs).2 g (wi g fun z => hg ?_)
      show (if g = f then some u else mA g) = none
      rw [if_neg q]; exact z

/-- a new instance, tracked, without attributes -/
theorem Inv.made (I : Inv X pins σ H s) : Inv X pins σ (upd (upd H s.heap.objs.size (.own (s.heap.objs.size + 1))) (s.heap.objs.size + 1) (.ins C s.heap.objs.size []))
    { s with heap := (s.heap.push PySem.W.emptyDict).push (PySem.W.instObj C s.heap.objs.size) } := by
  have e1 : (s.heap.push PySem.W.emptyDict).get? s.heap.objs.size = some PySem.W.emptyDict := Heap.get?_push_size s.heap rfl
  have e2 : ((s.heap.push PySem.W.emptyDict).push (PySem.W.instObj C s.heap.objs.size)).get? (s.heap.objs.size + 1) = some (PySem.W.instObj C s.heap.objs.size) := by
    have := Heap.get?_push_size (s.heap.push PySem.W.emptyDict) (o := PySem.W.instObj C s.heap.objs.size) rfl
    rwa [Heap.size_push] at this
  have e3 : (s.heap.push PySem.W.emptyDict).Ns s.heap.objs.size (fun _ => none) := ⟨PySem.W.emptyDict, #[], _, e1, rfl, (fun e he => absurd he (by simp)), fun _ => rfl⟩
  have I1 := I.laid (a := s.heap.objs.size) (o := .own (s.heap.objs.size + 1)) (h' := s.heap.push PySem.W.emptyDict) (t' := s.toks) (fun b u q => Heap.get?_push_of_some _ q) (Nat.le_refl _) ⟨_, e1⟩
  refine I1.laid (a := s.heap.objs.size + 1) (o := .ins C s.heap.objs.size []) (t' := s.toks) (fun b u q => Heap.get?_push_of_some _ q) (Nat.le_of_eq (Heap.size_push _ _)) ?_
  have ne : s.heap.objs.size ≠ s.heap.objs.size + 1 := Nat.ne_of_lt (Nat.lt_succ_self _)
  refine ⟨by rw [upd_ne ne, upd_same], Nat.zero_le _, ne, e2, fun _ => none, (Heap.Ns1.of_empty e3).at fun o q => Heap.get?_push_of_some _ q, fun _ => True.intro, fun y hy => absurd rfl hy⟩

/-- e.f where nothing but the object is asked: through attributeBase (super) and the last hold -/
theorem attr_of {prog : Program} {w : World} {env : Env} {e : Expr} {f : Str} {pos : Pos} {s : Shared} {Q : Value → Shared → Prop} (hb : attributeBase e f env (eval e env) = eval e env)
    (h : wpAny (model prog w) A (eval e env) (fun o s₁ => wpAny (model prog w) A (getAttr o f true) Q E s₁) E s) : wpAny (model prog w) A (eval (.Attribute e f pos) env) Q E s :=
  Attribute_any_ h (by rw [arm_eval_Attribute, hb])
end

/-! ### readings and rules -/
/-- e.f, an attribute of the instance -/
def tFld (K : PySem.W.Frag) (ta : TE) (f : Str) : TE := fun σ H Q => ta σ H fun x H1 => ∃ a C dx fs v, x = .ref a ∧ H1 a = some (.ins C dx fs) ∧ Cls K C ∧ NoAttr K C f ∧ fs.lookup f = some v ∧ Q v H1
/-- e.f, a constant of the class -/
def tCon (K : PySem.W.Frag) (ta : TE) (f : Str) : TE := fun σ H Q => ta σ H fun x H1 => ∃ a C dx fs v u, x = .ref a ∧ H1 a = some (.ins C dx fs) ∧ Cls K C ∧ Con K C f v u ∧ fs.lookup f = none ∧ Q v H1
/-- e.f = value -/
def sFld (K : PySem.W.Frag) (ta tv : TE) (f : Str) : TS := fun D σ H => tv σ H fun y H1 => ta σ H1 fun x H2 => ∃ a C dx fs, x = .ref a ∧ H2 a = some (.ins C dx fs) ∧ Cls K C ∧ NoAttr K C f ∧ fs.length < 1000 ∧
  D.nx σ (upd H2 a (.ins C dx (putF f y fs)))
/-- an augmented operator on two values -/
def InOp (X : Cx) (op : Operator) (rd : V → V → Hp → VK → Prop) : Prop :=
  ∀ (pins : List (Addr × Obj)) (s : Shared) (σ : St) (H : Hp) (x y : V) (u v : Value) (Q : VK), Inv X pins σ H s → RelV x u → RelV y v → rd x y H Q → wpAny (model X.prog X.w) X.A (inplaceOp op u v) (EP X pins σ Q) X.xe s
/-- e.f op= value -/
def sFldAug (K : PySem.W.Frag) (ta tv : TE) (rd : V → V → Hp → VK → Prop) (f : Str) : TS := fun D σ H => ta σ H fun x H1 => ∃ a C dx fs v, x = .ref a ∧ H1 a = some (.ins C dx fs) ∧ Cls K C ∧ NoAttr K C f ∧ fs.lookup f = some v ∧
  tv σ H1 fun y H2 => rd v y H2 fun z H3 => ∃ dx' fs', H3 a = some (.ins C dx' fs') ∧ fs'.length < 1000 ∧ D.nx σ (upd H3 a (.ins C dx' (putF f z fs')))

section
variable {X : Cx} {o e value : Expr} {f : Str} {pos pos' tpos : Pos} {ta tv : TE}
theorem pe_fld (he : PE X e ta) (hb : attributeBase e f X.env (eval e X.env) = eval e X.env) : PE X (.Attribute e f pos) (tFld X.K ta f) := by
  intro pins s σ H Q I h
  refine attr_of hb (thn (he pins s σ H _ I h) fun u s1 ⟨x, H1, I1, rx, a, C, dx, fs, v, ex, ea, c, n, l, q⟩ => ?_)
  subst ex
  obtain rfl : u = Value.ref a := rx
  exact getattr_ok I1 ea c n l fun u' s2 I2 ru => ⟨v, H1, I2, ru, q⟩
theorem pe_con (he : PE X e ta) (hb : attributeBase e f X.env (eval e X.env) = eval e X.env) : PE X (.Attribute e f pos) (tCon X.K ta f) := by
  intro pins s σ H Q I h
  refine attr_of hb (thn (he pins s σ H _ I h) fun u s1 ⟨x, H1, I1, rx, a, C, dx, fs, v, u0, ex, ea, c, k, l, q⟩ => ?_)
  subst ex
  obtain rfl : u = Value.ref a := rx
  exact getcon_ok I1 ea c k l fun s2 I2 => ⟨v, H1, I2, k.rel, q⟩
theorem ps_fld (ha : PE X o ta) (hv : PE X value tv) (hs : swapsWith value (some (.Attribute o f pos')) pos.line X.env = pure false) : PS X (.Assign [.Attribute o f pos'] value pos) (sFld X.K ta tv f) := by
  intro pins s σ H D I h
  refine plainObj_wpAny_Assign_Attribute (thn (hv pins s σ H _ I h) fun u s1 ⟨y, H1, I1, ry, q⟩ => thn (ha pins s1 σ H1 _ I1 q) fun ov s2 ⟨x, H2, I2, rx, a, C, dx, fs, ex, ea, c, n, l, q2⟩ => ?_) hs
  subst ex
  obtain rfl : ov = Value.ref a := rx
  exact setattr_ok I2 ea c n l ry fun s3 I3 => ⟨σ, _, I3, q2⟩
theorem ps_fldaug {op : Operator} {rd : V → V → Hp → VK → Prop} (ha : PE X o ta) (hv : PE X value tv) (hop : InOp X op rd) : PS X (.AugAssign (.Attribute o f tpos) op value pos) (sFldAug X.K ta tv rd f) := by
  intro pins s σ H D I h
  refine wpAny_AugAssign_AttributeAny (thn (ha pins s σ H _ I h) fun ov s1 ⟨x, H1, I1, rx, a, C, dx, fs, v, ex, ea, c, n, l, q⟩ => ?_)
  subst ex
  obtain rfl : ov = Value.ref a := rx
  refine getattr_ok I1 ea c n l fun u s2 I2 ru => thn (hv pins s2 σ H1 _ I2 q) fun w3 s3 ⟨y, H2, I3, ry, q3⟩ => thn (hop pins s3 σ H2 v y u w3 _ I3 ru ry q3) fun w4 s4 ⟨z, H3, I4, rz, dx', fs', ea', l', q4⟩ => ?_
  exact setattr_ok I4 ea' c n l' rz fun s5 I5 => ⟨σ, _, I5, q4⟩
def rAdd : V → V → Hp → VK → Prop := fun x y H Q => ∃ i j, x = .int i ∧ y = .int j ∧ Q (.int (i + j)) H
def rSub : V → V → Hp → VK → Prop := fun x y H Q => ∃ i j, x = .int i ∧ y = .int j ∧ Q (.int (i - j)) H
theorem in_add : InOp X .Add rAdd := by
  rintro pins s σ H x y u v Q I rx ry ⟨i, j, rfl, rfl, q⟩
  obtain ⟨t, rfl⟩ := (show ∃ t, u = Value.int i t from rx)
  obtain ⟨t', rfl⟩ := (show ∃ t', v = Value.int j t' from ry)
  exact PyProof.Rows.iadd_int ⟨.int (i + j), H, I.tok _, ⟨_, rfl⟩, q⟩
theorem in_sub : InOp X .Sub rSub := by
  rintro pins s σ H x y u v Q I rx ry ⟨i, j, rfl, rfl, q⟩
  obtain ⟨t, rfl⟩ := (show ∃ t, u = Value.int i t from rx)
  obtain ⟨t', rfl⟩ := (show ∃ t', v = Value.int j t' from ry)
  exact PyProof.Rows.isub_int ⟨.int (i - j), H, I.tok _, ⟨_, rfl⟩, q⟩

/-- what is between an instance and its method: the tree of a method call -/
theorem methcall_of {pl : Sem Bool} {m : Str} {apos : Pos} {args : List Expr} {pins : List (Addr × Obj)} {s : Shared} {σ : St} {H : Hp} {Q : Value → Shared → Prop} {te : TE} (he : PE X e te) (I : Inv X pins σ H s)
    (h : te σ H fun x H1 => ∃ a C dx fs g, x = .ref a ∧ H1 a = some (.ins C dx fs) ∧ Cls X.K C ∧ Meth X.K C m g ∧ fs.lookup m = none ∧
      ∀ s1, Inv X pins σ H1 s1 → wpAny (model X.prog X.w) X.A (callWith pos (.ref g) [.ref a] (backTo pos (starEach args X.env)) (backToKw pos (keywordEach [] X.env))) Q X.xe s1)
    (ht : eval (.Call (.Attribute e m apos) args [] pos) X.env = (do
      let ov ← eval e X.env
      standAt apos.atName
      let (f, first) ← holding [ov] (getMethod ov m pl)
      callWith pos f first (backTo pos (starEach args X.env)) (backToKw pos (keywordEach [] X.env)))) :
    wpAny (model X.prog X.w) X.A (eval (.Call (.Attribute e m apos) args [] pos) X.env) Q X.xe s := by
  refine PySem.W.methodCall_KW (pl := pl) (thn (he pins s σ H _ I h) fun u s1 ⟨x, H1, I1, rx, a, C, dx, fs, g, ex, ea, c, k, l, q⟩ => ?_) ht
  subst ex
  obtain rfl : u = Value.ref a := rx
  exact getmeth_ok I1 ea c k l (q s1 I1)
end

/-! ### isinstance -/
section
variable {X : Cx} {pins : List (Addr × Obj)} {σ : St} {H : Hp} {s : Shared} {A : Around} {E : Value → Shared → Prop} {Q : Value → Shared → Prop} {c : Value} {b : Bool}
/-- the type of a value, as the fragment's deciders take it; for an instance its class -/
inductive TyOf (K : PySem.W.Frag) (H : Hp) : V → Value → Prop where
  | non : TyOf K H .non (.type "NoneType")
  | bl (x : Bool) : TyOf K H (.bl x) (.type "bool")
  | int (i : Int) : TyOf K H (.int i) (.type "int")
  | str (x : Str) : TyOf K H (.str x) (.type "str")
  | flt (x : UInt64) : TyOf K H (.flt x) (.type "float")
  | lst {a : Addr} {xs : List V} (e : H a = some (.lst xs)) : TyOf K H (.ref a) (.type "list")
  | frz {a : Addr} {o : Obj} {xs : List V} (e : H a = some (.frz o (.lst xs))) : TyOf K H (.ref a) (.type "list")
  | tup {a : Addr} {xs : List V} (e : H a = some (.tup xs)) : TyOf K H (.ref a) (.type "tuple")
  | dK {a : Addr} {kvs : List (Key × V)} (e : H a = some (.dK kvs)) : TyOf K H (.ref a) (.type "dict")
  | dT {a : Addr} {kvs : List (List Key × V)} (e : H a = some (.dT kvs)) : TyOf K H (.ref a) (.type "dict")
  | ins {a C dx : Addr} {fs : List (Str × V)} (e : H a = some (.ins C dx fs)) (cl : Cls K C) (ha : PySem.W.findIn K (.ref C) "__class__" = some (some (.builtin "object.__class__")))
      (hn : PySem.W.specialIn K (.builtin "object.__class__") "__get__" = some (some (.builtin "getset_descriptor.__get__"))) (htk : PySem.W.takesIn K (.builtin "object.__class__") = some true)
      (hm : PySem.W.mroIn K C (.type "object") = some true) : TyOf K H (.ref a) (.ref C)
/-- isinstance(x, c) for one class c, a built-in or an own one: kitOne's answer -/
theorem isinst_ok {x : V} {u t : Value} (I : Inv X pins σ H s) (rx : RelV x u) (ty : TyOf X.K H x t) (e : PySem.W.kitOne X.K t c = some b) (h : ∀ tk, Q (.bool b) { s with toks := tk }) :
    wpAny (model X.prog X.w) A (call (.builtin "isinstance") [u, c]) Q E s := by
  cases ty with
  | non => cases (show u = Value.none from rx); exact PySem.W.kia_one PySem.W.kitx_none I.kIn True.intro e (fun z => nomatch z) h
  | bl y => cases (show u = Value.bool y from rx); exact PySem.W.kia_one PySem.W.kitx_bool I.kIn True.intro e (fun z => nomatch z) h
  | int i => obtain ⟨t, q⟩ := (show ∃ t, u = Value.int i t from rx); cases q; exact PySem.W.kia_one PySem.W.kitx_int I.kIn True.intro e (fun z => nomatch z) h
  | str y => obtain ⟨t, q⟩ := (show ∃ t, u = Value.str y t from rx); cases q; exact PySem.W.kia_one PySem.W.kitx_str I.kIn True.intro e (fun z => nomatch z) h
  | flt y => obtain ⟨t, q⟩ := (show ∃ t, u = Value.float y t from rx); cases q; exact PySem.W.kia_one PySem.W.kitx_float I.kIn True.intro e (fun z => nomatch z) h
  | @lst a xs ea =>
    cases (show u = Value.ref a from rx)
    obtain ⟨_, _, n, _, h1⟩ := (show ObjOk X.prog X.w H s.heap a (.lst xs) from I.hok a _ ea)
    exact PySem.W.kia_one PySem.W.kitx_list I.kIn ⟨_, h1, rfl⟩ e (fun z => nomatch z) h
  | @frz a ob xs ea =>
    cases (show u = Value.ref a from rx)
    obtain ⟨_, _, _, n, _, h1⟩ := (show ObjOk X.prog X.w H s.heap a (.frz ob (.lst xs)) from I.hok a _ ea)
    exact PySem.W.kia_one PySem.W.kitx_list I.kIn ⟨_, h1, rfl⟩ e (fun z => nomatch z) h
  | @tup a xs ea =>
    cases (show u = Value.ref a from rx)
    obtain ⟨_, _, _, p⟩ := (show ObjOk X.prog X.w H s.heap a (.tup xs) from I.hok a _ ea)
    obtain ⟨o, h1, h2, _⟩ := p
    exact PySem.W.kia_one PySem.W.kitx_tuple I.kIn ⟨o, h1, h2⟩ e (fun z => nomatch z) h
  | @dK a kvs ea =>
    cases (show u = Value.ref a from rx)
    obtain ⟨_, _, vs, _, p⟩ := (show ObjOk X.prog X.w H s.heap a (.dK kvs) from I.hok a _ ea)
    obtain ⟨o, es, ep, h1, h2, _⟩ := p
    exact PySem.W.kia_one PySem.W.kitx_dict I.kIn ⟨o, h1, h2.1⟩ e (fun z => nomatch z) h
  | @dT a kvs ea =>
    cases (show u = Value.ref a from rx)
    obtain ⟨_, _, xs, _, o, es, ep, h1, h2, _⟩ := (show ObjOk X.prog X.w H s.heap a (.dT kvs) from I.hok a _ ea)
    exact PySem.W.kia_one PySem.W.kitx_dict I.kIn ⟨o, h1, h2.1⟩ e (fun z => nomatch z) h
  | @ins a C dx fs ea cl ha hn htk hm =>
    cases (show u = Value.ref a from rx)
    obtain ⟨mA, O, _⟩ := ins_get I.hok ea
    obtain ⟨od, J, _⟩ := O.look
    exact PySem.W.kia_one (PySem.W.kitx_own (cl.get _) cl.hd ha hn htk hm) I.kIn J e (fun z => nomatch z) h
end
end L2

namespace L2
open PySem PySem.Spec PyProof.Rows

/-! ### room -/
structure Room (k : Nat) (A : Around) : Prop where
  hd : A.handled = none
  dp : A.depth + 3 * k + 5 < recursionLimit
  un : A.units + 16 * k + 200 < cLine
theorem Room.mono {j k : Nat} {A : Around} (r : Room k A) (h : j ≤ k) : Room j A := ⟨r.hd, by have := r.dp; omega, by have := r.un; omega⟩
theorem Room.deeper {k : Nat} {A : Around} (r : Room (k + 1) A) (env : Env) : Room k (A.deeper env) :=
  ⟨r.hd, by have := r.dp; show A.depth + 1 + 3 * k + 5 < _; omega, by have := r.un; show A.units + 3 + 16 * k + 200 < _; omega⟩
theorem Room.in1 {k : Nat} {A : Around} (r : Room (k + 1) A) : Room k A.in1 :=
  ⟨r.hd, by have := r.dp; show A.depth + 3 * k + 5 < _; omega, by have := r.un; show A.units + 1 + 16 * k + 200 < _; omega⟩
theorem make_depth {A : Around} {C : Addr} {us : List Value} {kw : List (Str × Value)} : (A.under (.builtin "type.__call__" ⟨.ref C :: us, kw⟩)).depth = A.depth + 1 := by
  first | rfl | simp [Around.under, Code.weight, Code.isCreation, Code.isGuard, Code.isCaller, Code.frames, Code.isFrame, guardIds]
theorem make_units {A : Around} {C : Addr} {us : List Value} {kw : List (Str × Value)} : (A.under (.builtin "type.__call__" ⟨.ref C :: us, kw⟩)).units = A.units + 1 := by
  first | rfl | simp [Around.under, Code.cUnits, Code.frames, Code.isFrame]
theorem Room.make {k : Nat} {A : Around} (r : Room (k + 1) A) (C : Addr) (us : List Value) (kw : List (Str × Value)) : Room k (A.under (.builtin "type.__call__" ⟨.ref C :: us, kw⟩)) :=
  ⟨r.hd, by have := r.dp; rw [make_depth]; omega, by have := r.un; rw [make_units]; omega⟩
theorem Room.depth {k : Nat} {A : Around} (r : Room k A) : A.depth < recursionLimit := by have := r.dp; omega
theorem Room.units {k : Nat} {A : Around} (r : Room k A) : A.units + 64 < cLine := by have := r.un; omega
theorem Room.units0 {k : Nat} {A : Around} (r : Room k A) : A.units < cLine := by have := r.un; omega

/-! ### argument lists and displays -/
def tNil : TA := fun _ H Q => Q [] H
def tCons (ta : TE) (tr : TA) : TA := fun σ H Q => ta σ H fun x H1 => tr σ H1 fun xs H2 => Q (x :: xs) H2
section
variable {X : Cx} {e : Expr} {es : List Expr} {te : TE} {t : TA} {pos : Pos}
theorem pa_nil : PA X [] tNil := fun _ _ _ _ H Q I h => Calls.spliced_nil ⟨[], H, I, .nil, h⟩
theorem pa_cons (ha : PE X e te) (hr : PA X es t) (hs : starEach (e :: es) X.env = (false, eval e X.env) :: starEach es X.env := by rfl) : PA X (e :: es) (tCons te t) := by
  intro pos pins s σ H Q I h
  rw [hs]
  show wpAny _ _ (spliced ((false, eval e X.env) :: backTo pos (starEach es X.env))) _ _ s
  refine Calls.spliced_cons (thn (ha pins s σ H _ I h) fun u s1 ⟨x, H1, I1, r1, q1⟩ => ?_)
  exact thn (hr pos pins s1 σ H1 _ I1 q1) fun us s2 ⟨xs, H2, I2, r2, q2⟩ => ⟨x :: xs, H2, I2, .cons r1 r2, q2⟩

/-- a tuple, a list of written items -/
def tTup (t : TA) : TE := fun σ H Q => t σ H fun xs H1 => xs.length ≤ sizeLine ∧ ∀ p, H1 p = none → Q (.ref p) (upd H1 p (.tup xs))
def tLst (t : TA) : TE := fun σ H Q => t σ H fun xs H1 => xs.length ≤ sizeLine ∧ ∀ p, H1 p = none → Q (.ref p) (upd H1 p (.lst xs))
theorem pe_tup {x1} (h : PA X es t) : PE X (.Tuple es x1 pos) (tTup t) := by
  intro pins s σ H Q I hq
  refine wpAny_Tuple_spliced (thn (h pos pins s σ H _ I hq) fun us s1 ⟨xs, H1, I1, r, z, q⟩ => ⟨by rw [← r.length]; exact z, ?_⟩)
  have hf : H1 s1.heap.objs.size = none := I1.hok.fresh (Nat.le_refl _)
  refine ⟨.ref s1.heap.objs.size, upd H1 s1.heap.objs.size (.tup xs), I1.laid (t' := s1.toks) (fun b u e => Heap.get?_push_of_some _ e) (Nat.le_refl _) ?_, rfl, q _ hf⟩
  exact ⟨z, us, r, ⟨_, Heap.get?_push_size _ rfl, rfl, _, rfl⟩⟩
theorem pe_lst (h : PA X es t) : PE X (.List es pos) (tLst t) := by
  intro pins s σ H Q I hq
  refine wpAny_List_spliced (thn (h pos pins s σ H _ I hq) fun us s1 ⟨xs, H1, I1, r, z, q⟩ => ⟨by rw [← r.length]; exact z, ?_⟩)
  have hf : H1 s1.heap.objs.size = none := I1.hok.fresh (Nat.le_refl _)
  refine ⟨.ref s1.heap.objs.size, upd H1 s1.heap.objs.size (.lst xs), I1.laid (t' := s1.toks) (fun b u e => Heap.get?_push_of_some _ e) (Nat.le_refl _) ?_, rfl, q _ hf⟩
  exact ⟨z, us, 0, r, Heap.get?_push_size _ rfl⟩
end

/-! ### what a def promises -/
/-- a def's promise: the bound arguments in the parameters' order, the heap, the wanted end, the wanted exception -/
abbrev Sp := List V → Hp → VK → XK → Prop
/-- how an exception lies behind a call (file 08 gives it): the callers' frames, abstract heap and state ahead of the call, the wish, the exception, the state -/
abbrev CXT := List Env → Hp → Shared → XK → Value → Shared → Prop

/-- the state at a call -/
structure Env0 (P : Program) (w : World) (K : PySem.W.Frag) (mg : Str → Option Value) (base : Heap) (A : Around) (outer : List Env) (s : Shared) (H : Hp) : Prop where
  frames : A.frames = some outer
  mod : Mod K mg base
  bs : ∀ b o, base.get? b = some o → s.heap.get? b = some o ∧ H b = none
  bsz : base.objs.size ≤ s.heap.objs.size
  funs : s.heap.FunFrames base outer
  frf : ∀ b ∈ frs outer, H b = none
  hok : HOk P w H s.heap
  bare : AllBare s.gens
/-- a call's end -/
def CE (outer : List Env) (P : Program) (w : World) (H : Hp) (s : Shared) (Q : VK) (u : Value) (s' : Shared) : Prop :=
  ∃ v H', s'.os = s.os ∧ AllBare s'.gens ∧ Un (frs outer) [] H H' s.heap s'.heap ∧ HOk P w H' s'.heap ∧ RelV v u ∧ Q v H'
def CR (CX : CXT) (outer : List Env) (P : Program) (w : World) (H : Hp) (s : Shared) (Q : VK) (E : XK) (r : Result) (s' : Shared) : Prop :=
  match r with
  | .ok (.ret u) => CE outer P w H s Q u s'
  | .ok _ => False
  | .error e => CX outer H s E e s'
structure FnOk (P : Program) (w : World) (K : PySem.W.Frag) (mg : Str → Option Value) (base : Heap) (CX : CXT) (k : Nat) (f : Addr) (fd : FuncData) (ps : List Str) (sp : Sp) : Prop where
  len : ∀ vs H Q E, sp vs H Q E → vs.length = ps.length
  run : ∀ (A : Around) (outer : List Env) (s : Shared) (H : Hp) (args : Args) (us : List Value) (vs : List V) (Q : VK) (E : XK), Room k A → Env0 P w K mg base A outer s H → BindsTo s fd args (ps.zip us) → Vals vs us → sp vs H Q E →
    codeAny (model P w) A (.call (.ref f) args) (CR CX outer P w H s Q E) s
theorem FnOk.mono {P : Program} {w : World} {K : PySem.W.Frag} {mg : Str → Option Value} {base : Heap} {CX : CXT} {j k : Nat} {f : Addr} {fd : FuncData} {ps : List Str} {sp : Sp} (F : FnOk P w K mg base CX j f fd ps sp) (h : j ≤ k) :
    FnOk P w K mg base CX k f fd ps sp := ⟨F.len, fun A outer s H args us vs Q E hr => F.run A outer s H args us vs Q E (hr.mono h)⟩
/-- a weaker promise -/
theorem FnOk.imp {P : Program} {w : World} {K : PySem.W.Frag} {mg : Str → Option Value} {base : Heap} {CX : CXT} {k : Nat} {f : Addr} {fd : FuncData} {ps : List Str} {sp sp' : Sp} (F : FnOk P w K mg base CX k f fd ps sp)
    (h : ∀ vs H Q E, sp' vs H Q E → sp vs H Q E) : FnOk P w K mg base CX k f fd ps sp' :=
  ⟨fun vs H Q E q => F.len vs H Q E (h _ _ _ _ q), fun A outer s H args us vs Q E hr he hb hv hs => F.run A outer s H args us vs Q E hr he hb hv (h _ _ _ _ hs)⟩

theorem Env0.make {P : Program} {w : World} {K : PySem.W.Frag} {mg : Str → Option Value} {base : Heap} {A : Around} {outer : List Env} {s : Shared} {H : Hp} (e : Env0 P w K mg base A outer s H) (C : Addr) (us : List Value) (kw : List (Str × Value)) :
    Env0 P w K mg base (A.under (.builtin "type.__call__" ⟨.ref C :: us, kw⟩)) outer s H := ⟨by first | exact e.frames | (simpa [Around.under, Code.envs, Code.isFrame, pushEnvs] using e.frames), e.mod, e.bs, e.bsz, e.funs, e.frf, e.hok, e.bare⟩
theorem Env0.in1 {P : Program} {w : World} {K : PySem.W.Frag} {mg : Str → Option Value} {base : Heap} {A : Around} {outer : List Env} {s : Shared} {H : Hp} (e : Env0 P w K mg base A outer s H) :
    Env0 P w K mg base A.in1 outer s H := ⟨e.frames, e.mod, e.bs, e.bsz, e.funs, e.frf, e.hok, e.bare⟩

section
variable {X : Cx} {pins : List (Addr × Obj)} {σ : St} {H : Hp} {s s' : Shared}
/-- from a body: what a callee wants -/
theorem Inv.env0 (I : Inv X pins σ H s) : Env0 X.prog X.w X.K X.mg X.base X.A X.stack s H :=
  ⟨I.ok.frames, I.ok.mod, I.bs, Nat.le_trans I.ok.bsz I.sz, I.stack, I.stkFree, I.hok, I.bare⟩
/-- behind a call -/
theorem Inv.after {Q : VK} {u : Value} (I : Inv X pins σ H s) (h : CE X.stack X.prog X.w H s Q u s') : EP X pins σ Q u s' := by
  obtain ⟨v, H', os, bare, un, hok, r, q⟩ := h
  obtain ⟨hh, g, d, t, os'⟩ := s'
  obtain rfl : os' = s.os := os
  exact ⟨v, H', I.call (h' := hh) (g' := g) (d' := d) (t' := t) (ch := []) un hok bare (fun b z => absurd z (by simp)), r, q⟩
end

/-! ### calls -/
/-- f(..): the written arguments, then the defaults dvs; E: what is wanted of an exception -/
def tCall (sp : Sp) (dvs : List V) (E : XK) (t : TA) : TE := fun σ H Q => t σ H fun vs H1 => sp (vs ++ dvs) H1 Q E
/-- o.m(..) of an instance of the class at C -/
def tMeth (C : Addr) (m : Str) (sp : Sp) (dvs : List V) (E : XK) (ta : TE) (t : TA) : TE := fun σ H Q => ta σ H fun x H1 => ∃ a dx fs, x = .ref a ∧ H1 a = some (.ins C dx fs) ∧ fs.lookup m = none ∧
  t σ H1 fun vs H2 => sp (x :: (vs ++ dvs)) H2 Q E
/-- C(..): a new instance and its dict, then __init__ -/
def tMake (C : Addr) (sp : Sp) (dvs : List V) (E : XK) (t : TA) : TE := fun σ H Q => t σ H fun vs H1 => ∀ x dx, H1 x = none → H1 dx = none → dx ≠ x →
  sp (.ref x :: (vs ++ dvs)) (upd (upd H1 dx (.own x)) x (.ins C dx [])) (fun v H2 => v = .non ∧ Q (.ref x) H2) E

/-- how the parameters are bound: us the positional arguments, kw the keywords' values by name, ds the defaults that fill up -/
def Binds (K : PySem.W.Frag) (fd : FuncData) (ps : List Str) (ds : List Value) : Prop :=
  ∀ (s : Shared) (us : List Value), K.In s.heap → (us ++ ds).length = ps.length → BindsTo s fd ⟨us, []⟩ (ps.zip (us ++ ds))
/-- every parameter is given -/
theorem Binds.all {K : PySem.W.Frag} {fd : FuncData} {ps : List Str} (h : ∀ us : List Value, us.length = ps.length → bindArgs fd ⟨us, []⟩ = pure (ps.zip us)) : Binds K fd ps [] := fun s us _ hl => by
  rw [List.append_nil] at hl ⊢
  exact .of_eq (h us hl)

/-- an exception of a callee reaches what this body wants of exceptions -/
def Passes (CX : CXT) (X : Cx) (E : XK) : Prop := ∀ (pins : List (Addr × Obj)) (σ : St) (H : Hp) (s : Shared) (e : Value) (s' : Shared), Inv X pins σ H s → CX X.stack H s E e s' → X.xe e s'

section
variable {X : Cx} {CX : CXT} {k : Nat} {f C : Addr} {fd : FuncData} {ps : List Str} {sp : Sp} {dvs : List V} {ds : List Value} {E : XK} {x m : Str} {p pos apos : Pos} {e o : Expr} {es : List Expr} {ta : TE} {t : TA}

/-- the callee runs -/
theorem run_fn {pins : List (Addr × Obj)} {σ : St} {H : Hp} {s : Shared} {Q : VK} {us : List Value} {vs : List V} (F : FnOk X.prog X.w X.K X.mg X.base CX k f fd ps sp) (hr : Room k X.A) (hb : Binds X.K fd ps ds) (hd : Vals dvs ds) (hx : Passes CX X E)
    (I : Inv X pins σ H s) (r : Vals vs us) (h : sp (vs ++ dvs) H Q E) : wpAny (model X.prog X.w) X.A (call (.ref f) us) (EP X pins σ Q) X.xe s := by
  have r2 : Vals (vs ++ dvs) (us ++ ds) := r.append hd
  have hl : (us ++ ds).length = ps.length := by rw [← r2.length]; exact F.len _ _ _ _ h
  refine wpAny_call (codeAny_mono (F.run X.A X.stack s H ⟨us, []⟩ (us ++ ds) (vs ++ dvs) Q E hr I.env0 (hb s us I.kIn hl) r2 h) fun r s' hq => ?_)
  cases r with
  | error e => exact hx pins σ H s e s' I hq
  | ok fl =>
    cases fl with
    | ret u => exact I.after hq
    | next => exact False.elim hq
    | brk => exact False.elim hq
    | cont => exact False.elim hq

theorem pe_call (F : FnOk X.prog X.w X.K X.mg X.base CX k f fd ps sp) (hr : Room k X.A) (hg : Gl X x) (hm : X.mg x = some (.ref f)) (hk : PySem.W.keepIn X.K (.ref f) = true) (hb : Binds X.K fd ps ds) (hd : Vals dvs ds) (hx : Passes CX X E)
    (ha : PA X (e :: es) t) (hdb : (x == ("__debug__" : Str)) = false := by decide) (he : starEach (e :: es) X.env = (false, eval e X.env) :: starEach es X.env := by rfl) (hpl : (backTo pos (starEach es X.env)).any (·.1) = false := by rfl) :
    PE X (.Call (.Name x p) (e :: es) [] pos) (tCall sp dvs E t) := by
  intro pins s σ H Q I h
  refine wpAny_Call_Name_kw (ld_glob I hg hm ?_ hdb)
  refine PySem.W.callWith_K (h₀ := X.base) I.ok.mod.kin hk (thn (ha pos pins s σ H _ I h) fun us s1 ⟨vs, H1, I1, r, q⟩ => ⟨I1.kIn, ?_⟩) he hpl
  exact run_fn F hr hb hd hx I1 r q
theorem pe_call0 (F : FnOk X.prog X.w X.K X.mg X.base CX k f fd ps sp) (hr : Room k X.A) (hg : Gl X x) (hm : X.mg x = some (.ref f)) (hk : PySem.W.keepIn X.K (.ref f) = true) (hb : Binds X.K fd ps ds) (hd : Vals dvs ds) (hx : Passes CX X E)
    (hdb : (x == ("__debug__" : Str)) = false := by decide) : PE X (.Call (.Name x p) [] [] pos) (tCall sp dvs E tNil) := by
  intro pins s σ H Q I h
  refine wpAny_Call_Name_kw (ld_glob I hg hm ?_ hdb)
  exact PySem.W.callWith_K0 I.kIn hk (run_fn (us := []) F hr hb hd hx I .nil h)

/-- o.m(e, ..) -/
theorem pe_meth {pl : Sem Bool} (he : PE X o ta) (c : Cls X.K C) (hm : Meth X.K C m f) (F : FnOk X.prog X.w X.K X.mg X.base CX k f fd ps sp) (hr : Room k X.A) (hb : Binds X.K fd ps ds) (hd : Vals dvs ds) (hx : Passes CX X E) (ha : PA X (e :: es) t)
    (hst : starEach (e :: es) X.env = (false, eval e X.env) :: starEach es X.env := by rfl) (hpl : (backTo pos (starEach es X.env)).any (·.1) = false := by rfl)
    (ht : eval (.Call (.Attribute o m apos) (e :: es) [] pos) X.env = (do
      let ov ← eval o X.env
      standAt apos.atName
      let (f, first) ← holding [ov] (getMethod ov m pl)
      callWith pos f first (backTo pos (starEach (e :: es) X.env)) (backToKw pos (keywordEach [] X.env))) := by rfl) :
    PE X (.Call (.Attribute o m apos) (e :: es) [] pos) (tMeth C m sp dvs E ta t) := by
  intro pins s σ H Q I h
  refine PySem.W.methodCall_KW (pl := pl) (thn (he pins s σ H _ I h) fun u s1 ⟨x, H1, I1, rx, a, dx, fs, ex, ea, l, q⟩ => ?_) ht
  subst ex
  obtain rfl : u = Value.ref a := rx
  refine getmeth_ok I1 ea c hm l ?_
  refine PySem.W.callWith_K (first := [.ref a]) (h₀ := X.base) I.ok.mod.kin hm.kp (thn (ha pos pins s1 σ H1 _ I1 q) fun us s2 ⟨vs, H2, I2, r, q2⟩ => ⟨I2.kIn, ?_⟩) hst hpl
  exact run_fn (us := .ref a :: us) (vs := .ref a :: vs) F hr hb hd hx I2 (.cons rfl r) q2
/-- o.m() -/
theorem pe_meth0 {pl : Sem Bool} (he : PE X o ta) (c : Cls X.K C) (hm : Meth X.K C m f) (F : FnOk X.prog X.w X.K X.mg X.base CX k f fd ps sp) (hr : Room k X.A) (hb : Binds X.K fd ps ds) (hd : Vals dvs ds) (hx : Passes CX X E)
    (ht : eval (.Call (.Attribute o m apos) [] [] pos) X.env = (do
      let ov ← eval o X.env
      standAt apos.atName
      let (f, first) ← holding [ov] (getMethod ov m pl)
      callWith pos f first (backTo pos (starEach [] X.env)) (backToKw pos (keywordEach [] X.env))) := by rfl) :
    PE X (.Call (.Attribute o m apos) [] [] pos) (tMeth C m sp dvs E ta tNil) := by
  intro pins s σ H Q I h
  refine PySem.W.methodCall_KW (pl := pl) (thn (he pins s σ H _ I h) fun u s1 ⟨x, H1, I1, rx, a, dx, fs, ex, ea, l, q⟩ => ?_) ht
  subst ex
  obtain rfl : u = Value.ref a := rx
  refine getmeth_ok I1 ea c hm l ?_
  exact PySem.W.callWith_K0 (first := [.ref a]) I1.kIn hm.kp (run_fn (us := [.ref a]) (vs := [.ref a]) F hr hb hd hx I1 (.cons rfl .nil) q)

/-- what a class must have to be made -/
structure Mk (K : PySem.W.Frag) (C f : Addr) : Prop where
  makes : PySem.W.makesIn K C = true
  init : PySem.W.findIn K (.ref C) "__init__" = some (some (.ref f))
  fn : PySem.W.isFn K (.ref f) = true
  kp : PySem.W.keepIn K (.ref C) = true

theorem run_make {pins : List (Addr × Obj)} {σ : St} {H : Hp} {s : Shared} {Q : VK} {us : List Value} {vs : List V} (M : Mk X.K C f) (F : FnOk X.prog X.w X.K X.mg X.base CX k f fd ps sp) (hr : Room (k + 1) X.A) (hb : Binds X.K fd ps ds) (hd : Vals dvs ds)
    (hx : Passes CX X E) (I : Inv X pins σ H s) (r : Vals vs us)
    (h : ∀ x dx, H x = none → H dx = none → dx ≠ x → sp (.ref x :: (vs ++ dvs)) (upd (upd H dx (.own x)) x (.ins C dx [])) (fun v H2 => v = .non ∧ Q (.ref x) H2) E) :
    wpAny (model X.prog X.w) X.A (call (.ref C) us) (EP X pins σ Q) X.xe s := by
  have hq := h (s.heap.objs.size + 1) s.heap.objs.size (I.hok.fresh (Nat.le_succ _)) (I.hok.fresh (Nat.le_refl _)) (Nat.ne_of_lt (Nat.lt_succ_self _))
  have I2 := Inv.made (C := C) I
  have r2 : Vals (V.ref (s.heap.objs.size + 1) :: (vs ++ dvs)) (Value.ref (s.heap.objs.size + 1) :: (us ++ ds)) := .cons rfl (r.append hd)
  have hl : (Value.ref (s.heap.objs.size + 1) :: us ++ ds).length = ps.length := by
    have e := r2.length
    rw [F.len _ _ _ _ hq] at e
    exact e.symm
  refine wpAny_call (make_map (f := f) I.kIn M.makes M.init (beq_iff_eq.mp M.fn) (codeAny_mono (F.run _ X.stack _ _ ⟨Value.ref (s.heap.objs.size + 1) :: us, []⟩ (Value.ref (s.heap.objs.size + 1) :: (us ++ ds)) _ _ E (hr.make C us [])
    (I2.env0.make C us []) (hb _ (Value.ref (s.heap.objs.size + 1) :: us) I2.kIn hl) r2 hq) fun r s' hq' => ?_))
  cases r with
  | error e => exact hx pins σ _ _ e s' I2 hq'
  | ok fl =>
    cases fl with
    | ret u =>
      obtain ⟨v, H', I3, rv, ev, q3⟩ := I2.after hq'
      subst ev
      exact ⟨rv, ⟨V.ref (s.heap.objs.size + 1), H', I3, rfl, q3⟩⟩
    | next => exact False.elim hq'
    | brk => exact False.elim hq'
    | cont => exact False.elim hq'
theorem pe_make (M : Mk X.K C f) (F : FnOk X.prog X.w X.K X.mg X.base CX k f fd ps sp) (hr : Room (k + 1) X.A) (hg : Gl X x) (hm : X.mg x = some (.ref C)) (hb : Binds X.K fd ps ds) (hd : Vals dvs ds) (hx : Passes CX X E)
    (ha : PA X (e :: es) t) (hdb : (x == ("__debug__" : Str)) = false := by decide) (he : starEach (e :: es) X.env = (false, eval e X.env) :: starEach es X.env := by rfl) (hpl : (backTo pos (starEach es X.env)).any (·.1) = false := by rfl) :
    PE X (.Call (.Name x p) (e :: es) [] pos) (tMake C sp dvs E t) := by
  intro pins s σ H Q I h
  refine wpAny_Call_Name_kw (ld_glob I hg hm ?_ hdb)
  refine PySem.W.callWith_K (h₀ := X.base) I.ok.mod.kin M.kp (thn (ha pos pins s σ H _ I h) fun us s1 ⟨vs, H1, I1, r, q⟩ => ⟨I1.kIn, ?_⟩) he hpl
  exact run_make M F hr hb hd hx I1 r q
theorem pe_make0 (M : Mk X.K C f) (F : FnOk X.prog X.w X.K X.mg X.base CX k f fd ps sp) (hr : Room (k + 1) X.A) (hg : Gl X x) (hm : X.mg x = some (.ref C)) (hb : Binds X.K fd ps ds) (hd : Vals dvs ds) (hx : Passes CX X E)
    (hdb : (x == ("__debug__" : Str)) = false := by decide) : PE X (.Call (.Name x p) [] [] pos) (tMake C sp dvs E tNil) := by
  intro pins s σ H Q I h
  refine wpAny_Call_Name_kw (ld_glob I hg hm ?_ hdb)
  exact PySem.W.callWith_K0 I.kIn M.kp (run_make (us := []) M F hr hb hd hx I .nil h)
end

/-! ### keywords -/
/-- the values of the keywords, from the left -/
def PK (X : Cx) (kws : List Keyword) (t : TA) : Prop :=
  ∀ (pos : Pos) (pins : List (Addr × Obj)) (s : Shared) (σ : St) (H : Hp) (Q : List V → Hp → Prop), Inv X pins σ H s → t σ H Q → wpAny (model X.prog X.w) X.A (evalAll ((backToKw pos (keywordEach kws X.env)).map (·.2))) (AP X pins σ Q) X.xe s
section
variable {X : Cx} {CX : CXT} {k : Nat} {f C : Addr} {fd : FuncData} {ps ks : List Str} {sp : Sp} {E : XK} {x m : Str} {p pos apos kpos : Pos} {e o : Expr} {es : List Expr} {kws : List Keyword} {te ta : TE} {t tk : TA} {nm : Option Str}
theorem pk_nil : PK X [] tNil := fun _ _ _ _ H Q I h => wpAny_evalAll_nil ⟨[], H, I, .nil, h⟩
theorem pk_cons (ha : PE X e te) (hr : PK X kws t) : PK X (⟨nm, e, kpos⟩ :: kws) (tCons te t) := by
  intro pos pins s σ H Q I h
  show wpAny _ _ (evalAll ((do let v ← eval e X.env; standAt pos; pure v) :: (backToKw pos (keywordEach kws X.env)).map (·.2))) _ _ s
  refine wpAny_evalAll_cons (wpAny_bind (thn (ha pins s σ H _ I h) fun u s1 ⟨x, H1, I1, r1, q1⟩ => wpAny_bind (wpAny_standAt (wpAny_pure ?_))))
  exact thn (hr pos pins s1 σ H1 _ I1 q1) fun us s2 ⟨xs, H2, I2, r2, q2⟩ => ⟨x :: xs, H2, I2, .cons r1 r2, q2⟩

/-- how a call with keywords binds: g puts the positional values us and the keywords' values ws (names ks) in the parameters' order, defaults among them -/
structure KBinds (K : PySem.W.Frag) (fd : FuncData) (ps ks : List Str) (g : List Value → List Value → List Value) (gV : List V → List V → List V) : Prop where
  to : ∀ (s : Shared) (us ws : List Value), K.In s.heap → (g us ws).length = ps.length → BindsTo s fd ⟨us, ks.zip ws⟩ (ps.zip (g us ws))
  rel : ∀ {vs : List V} {us : List Value} {zs : List V} {ws : List Value}, Vals vs us → Vals zs ws → Vals (gV vs zs) (g us ws)
def tCallK (sp : Sp) (gV : List V → List V → List V) (E : XK) (t tk : TA) : TE := fun σ H Q => t σ H fun vs H1 => tk σ H1 fun zs H2 => sp (gV vs zs) H2 Q E
variable {g : List Value → List Value → List Value} {gV : List V → List V → List V}
theorem run_fnk {pins : List (Addr × Obj)} {σ : St} {H : Hp} {s : Shared} {Q : VK} {us ws : List Value} {vs zs : List V} (F : FnOk X.prog X.w X.K X.mg X.base CX k f fd ps sp) (hr : Room k X.A) (hb : KBinds X.K fd ps ks g gV) (hx : Passes CX X E)
    (I : Inv X pins σ H s) (r : Vals vs us) (rz : Vals zs ws) (h : sp (gV vs zs) H Q E) : wpAny (model X.prog X.w) X.A (call (.ref f) us (ks.zip ws)) (EP X pins σ Q) X.xe s := by
  have r2 := hb.rel r rz
  have hl : (g us ws).length = ps.length := by rw [← r2.length]; exact F.len _ _ _ _ h
  refine wpAny_call (codeAny_mono (F.run X.A X.stack s H ⟨us, ks.zip ws⟩ (g us ws) (gV vs zs) Q E hr I.env0 (hb.to s us ws I.kIn hl) r2 h) fun r s' hq => ?_)
  cases r with
  | error e => exact hx pins σ H s e s' I hq
  | ok fl =>
    cases fl with
    | ret u => exact I.after hq
    | next => exact False.elim hq
    | brk => exact False.elim hq
    | cont => exact False.elim hq
/-- f(e, .., k = v, ..) -/
theorem pe_callK (F : FnOk X.prog X.w X.K X.mg X.base CX k f fd ps sp) (hr : Room k X.A) (hg : Gl X x) (hm : X.mg x = some (.ref f)) (hk : PySem.W.keepIn X.K (.ref f) = true) (hb : KBinds X.K fd ps ks g gV) (hx : Passes CX X E)
    (ha : PA X (e :: es) t) (hkw : PK X kws tk) (hall : (backToKw pos (keywordEach kws X.env)).all (·.1.isSome) = true := by rfl) (hks : (backToKw pos (keywordEach kws X.env)).filterMap (·.1) = ks := by rfl)
    (hdb : (x == ("__debug__" : Str)) = false := by decide) (he : starEach (e :: es) X.env = (false, eval e X.env) :: starEach es X.env := by rfl)
    (hpl : ((backTo pos (starEach (e :: es) X.env)).any (·.1) || (backToKw pos (keywordEach kws X.env)).any (·.1.isNone)) = false := by rfl) :
    PE X (.Call (.Name x p) (e :: es) kws pos) (tCallK sp gV E t tk) := by
  intro pins s σ H Q I h
  refine wpAny_Call_Name_kw (ld_glob I hg hm ?_ hdb)
  refine PySem.W.callWith_KW (h₀ := X.base) I.ok.mod.kin hk hall (thn (ha pos pins s σ H _ I h) fun us s1 ⟨vs, H1, I1, r, q⟩ => ?_) hpl he
  refine thn (hkw pos pins s1 σ H1 _ I1 q) fun ws s2 ⟨zs, H2, I2, rz, q2⟩ => ⟨I2.kIn, ?_⟩
  rw [hks]
  exact run_fnk F hr hb hx I2 r rz q2
end

/-! ### a def's body keeps its promise -/
/-- names: the parameters first -/
structure FnScope (N P : List Str) (sc : Scope) : Prop where
  kind : sc.kind = .function
  co : sc.isCoroutine = false
  gen : sc.isGenerator = false
  nd : N.Nodup
  pre : N.take P.length = P
  par : ∀ x ∈ P, sc.names.lookup x = some .local ∨ sc.names.lookup x = some .cell
  nofree : ∀ y ∈ sc.names, y.2 ≠ .free

theorem bindL_out {kindOf : Str → Option NameKind} {x : Str} : ∀ {binds : List (Str × Value)} {m : Str → Option Value}, (∀ v, (x, v) ∉ binds) → bindL kindOf binds m x = m x
  | [], _, _ => rfl
  | (n, v) :: r, m, h => by
    unfold bindL
    rw [bindL_out fun w hw => h w (List.mem_cons_of_mem _ hw)]
    split
    · have : x ≠ n := by rintro rfl; exact h v List.mem_cons_self
      simp [this]
    · rfl
theorem bindC_out {kindOf : Str → Option NameKind} {x : Str} : ∀ {binds : List (Str × Value)} {m : Str → Option Value}, (∀ v, (x, v) ∉ binds) → bindC kindOf binds m x = m x
  | [], _, _ => rfl
  | (n, v) :: r, m, h => by
    unfold bindC
    rw [bindC_out fun w hw => h w (List.mem_cons_of_mem _ hw)]
    split
    · rfl
    · have : x ≠ n := by rintro rfl; exact h v List.mem_cons_self
      simp [this]
theorem bindL_get {kindOf : Str → Option NameKind} {x : Str} {v : Value} : ∀ {P : List Str} {vs : List Value} {i : Nat} {m : Str → Option Value}, P.Nodup → P[i]? = some x → vs[i]? = some v → kindOf x = some .local →
    bindL kindOf (P.zip vs) m x = some v
  | [], _, _, _, _, h, _, _ => by simp at h
  | _ :: _, [], _, _, _, _, h, _ => by simp at h
  | p :: P, w :: vs, 0, m, nd, h1, h2, hk => by
    simp at h1 h2; subst h1; subst h2
    show bindL kindOf ((p, w) :: P.zip vs) m p = _
    unfold bindL
    rw [bindL_out fun v hv => (List.nodup_cons.mp nd).1 (List.of_mem_zip hv).1, if_pos hk]
    simp
  | p :: P, w :: vs, i + 1, m, nd, h1, h2, hk => by
    show bindL kindOf ((p, w) :: P.zip vs) m x = _
    unfold bindL
    exact bindL_get (i := i) (List.nodup_cons.mp nd).2 (by simpa using h1) (by simpa using h2) hk
theorem bindC_get {kindOf : Str → Option NameKind} {x : Str} {v : Value} : ∀ {P : List Str} {vs : List Value} {i : Nat} {m : Str → Option Value}, P.Nodup → P[i]? = some x → vs[i]? = some v → kindOf x ≠ some .local →
    bindC kindOf (P.zip vs) m x = some v
  | [], _, _, _, _, h, _, _ => by simp at h
  | _ :: _, [], _, _, _, _, h, _ => by simp at h
  | p :: P, w :: vs, 0, m, nd, h1, h2, hk => by
    simp at h1 h2; subst h1; subst h2
    show bindC kindOf ((p, w) :: P.zip vs) m p = _
    unfold bindC
    rw [bindC_out fun v hv => (List.nodup_cons.mp nd).1 (List.of_mem_zip hv).1, if_neg hk]
    simp
  | p :: P, w :: vs, i + 1, m, nd, h1, h2, hk => by
    show bindC kindOf ((p, w) :: P.zip vs) m x = _
    unfold bindC
    exact bindC_get (i := i) (List.nodup_cons.mp nd).2 (by simpa using h1) (by simpa using h2) hk

/-- the names' values at the entry -/
def start (N : List Str) (vs : List V) : St := vs.map some ++ List.replicate (N.length - vs.length) none

/-- the context of a def's body, at its entry; an exception leaves the frame, then lies as CX says -/
def cxOf (CX : CXT) (P : Program) (w : World) (K : PySem.W.Frag) (mg : Str → Option Value) (base : Heap) (N : List Str) (qual : Str) (scope : Scope) (f : Addr) (cd : Value) (A : Around) (outer : List Env) (s : Shared) (H : Hp) (E : XK) : Cx where
  prog := P
  w := w
  K := K
  mg := mg
  base := base
  A := A.deeper (envOfC qual scope s.heap.objs.size f cd)
  N := N
  s₀ := s
  H₀ := H
  env := envOfC qual scope s.heap.objs.size f cd
  outer := outer
  stack := envOfC qual scope s.heap.objs.size f cd :: outer
  ex := []
  calm := true
  fn := fun _ => true
  pn := []
  xe := fun e s' => wpAny (model P w) (A.deeper (envOfC qual scope s.heap.objs.size f cd)) (leaving (envOfC qual scope s.heap.objs.size f cd) e) (fun _ s'' => CX outer H s E e s'') (fun e' s'' => CX outer H s E e' s'') s'

theorem cell_has {sc : Scope} {n : Nat} {x : Str} (h : sc.names.lookup x = some .cell) : ∃ c, (cellsFrom n sc.names []).lookup x = some c := by
  have q := PySem.W.cellsFrom_some sc.names n [] (.inl h)
  exact Option.isSome_iff_exists.mp q

theorem inv_start {CX : CXT} {P : Program} {w : World} {K : PySem.W.Frag} {mg : Str → Option Value} {base : Heap} {N ps : List Str} {qual : Str} {scope : Scope} {f : Addr} {cd : Value} {A : Around} {outer : List Env} {s s1 : Shared} {H : Hp} {E : XK} {us : List Value} {vs : List V}
    (S : FnScope N ps scope) (hd : A.handled = none) (e0 : Env0 P w K mg base A outer s H) (hl : vs.length = ps.length) (r : Vals vs us)
    (x : InCallC s s.heap.objs.size (bindL (envOfC qual scope s.heap.objs.size f cd).kindOf (ps.zip us) fun _ => none) (cellsFrom (s.heap.objs.size + 1) scope.names []) (bindC (envOfC qual scope s.heap.objs.size f cd).kindOf (ps.zip us) fun _ => none) s1) :
    Inv (cxOf CX P w K mg base N qual scope f cd A outer s H E) [] (start N vs) H s1 := by
  have hpl : ps.length ≤ N.length := by have := congrArg List.length S.pre; rw [List.length_take] at this; omega
  obtain ⟨h1, tk, rfl, hk⟩ := x.done
  have noA : ∀ b : Addr, b ∉ (cxOf CX P w K mg base N qual scope f cd A outer s H E).ex := fun b z => absurd (show b ∈ ([] : List Addr) from z) (by simp)
  refine ⟨⟨e0.mod, S.kind, rfl, rfl, Nat.le_refl _, fun y z c h1 h2 => ?_, fun y hy => ?_, fun y c _ h => ?_, fun _ => hd, Around.frames_deeper e0.frames, .inr ⟨rfl, rfl⟩, fun b z => absurd z (noA b), e0.bs, e0.bsz, fun b _ _ => noA b, fun b z => absurd z (noA b), e0.funs, e0.frf⟩,
    rfl, e0.bare, Un.kept hk, ⟨_, x.toInCall.ns, fun i y v h1 h2 h3 => ?_⟩, fun y c h => ⟨_, x.cell y c h⟩, e0.hok.fresh (Nat.le_refl _), fun y c h => ?_, fun p hp => absurd (show p ∈ ([] : List (Addr × Obj)) from hp) (by simp), e0.hok.kept hk, ?_⟩
  · exact name_of_addr x.apart (PySem.mem_of_lookup h1) (PySem.mem_of_lookup h2)
  · have hy : scope.names.lookup y = some .cell ∨ scope.names.lookup y = some .free := hy
    rcases hy with hy | hy
    · exact cell_has hy
    · exact absurd rfl (S.nofree _ (PySem.mem_of_lookup hy))
  · exact Nat.le_of_lt (x.above y c (PySem.mem_of_lookup h))
  · have hi : i < vs.length := by
      unfold start at h2
      by_cases hi : i < vs.length
      · exact hi
      · rw [List.getElem?_append_right (by simpa using hi)] at h2
        rw [List.getElem?_replicate] at h2
        split at h2 <;> cases h2
    have ha : vs[i]? = some v := by
      unfold start at h2
      rw [List.getElem?_append_left (by simpa using hi), List.getElem?_map] at h2
      cases e : vs[i]? with
      | none => rw [e] at h2; cases h2
      | some a => rw [e] at h2; cases h2; rfl
    obtain ⟨u, hu, rv⟩ := r.get ha
    have hp : ps[i]? = some y := by
      rw [← S.pre, List.getElem?_take_of_lt (by omega)]; exact h1
    have ndP : ps.Nodup := by rw [← S.pre]; exact S.nd.sublist (List.take_sublist _ _)
    refine ⟨u, rv, ?_⟩
    rcases S.par y (List.mem_of_getElem? hp) with k | k
    · exact .inl ⟨k, bindL_get ndP hp hu k⟩
    · obtain ⟨c, e⟩ := cell_has (n := s.heap.objs.size + 1) k
      refine .inr ⟨.inl k, c, e, ?_⟩
      have q := x.cell y c e
      rw [bindC_get ndP hp hu (by show scope.names.lookup y ≠ _; rw [k]; decide)] at q
      exact q
  · exact e0.hok.fresh (Nat.le_of_lt (x.above y c (PySem.mem_of_lookup h)))
  · unfold start
    show _ = N.length
    rw [List.length_append, List.length_map, List.length_replicate]
    omega

/-- THE RULE: a def (or a method) of the text, by its body. The body's reading t is chosen for each entry; it is run at the parameters' values -/
theorem fn_of {CX : CXT} {P : Program} {w : World} {K : PySem.W.Frag} {mg : Str → Option Value} {base : Heap} {k : Nat} {f : Addr} {name qual : Str} {params : Arguments} {body : List Stmt} {scope : Scope} {dV kV doc pm cdv ct oc : Value} {an od : Option Addr}
    {osl : Array (Option Value)} {N ps : List Str} {sp : Sp} (lk : K.lookup f = some ⟨oc, od, .func (PySem.W.fnOf name qual params body scope dV kV doc pm an cdv ct), osl⟩) (hcd : PySem.W.codeIn K cdv qual = true) (S : FnScope N ps scope)
    (len : ∀ vs H Q E, sp vs H Q E → vs.length = ps.length)
    (hbody : ∀ (A : Around) (outer : List Env) (s : Shared) (H : Hp) (vs : List V) (Q : VK) (E : XK), Room k (A.deeper (envOfC qual scope s.heap.objs.size f cdv)) → sp vs H Q E →
      ∃ t, PSs (cxOf CX P w K mg base N qual scope f cdv A outer s H E) body t ∧ t { nx := fun _ H' => Q .non H', rt := Q } (start N vs) H) :
    FnOk P w K mg base CX (k + 1) f (PySem.W.fnOf name qual params body scope dV kV doc pm an cdv ct) ps sp := by
  refine ⟨len, fun A outer s H args us vs Q E hr e0 hb r hsp => ?_⟩
  have hl := len _ _ _ _ hsp
  have KX : K.In s.heap := e0.mod.kin.keeps fun b o e => (e0.bs b o e).1
  have lim : s.heap.NoLimit := e0.mod.nolimit.keeps fun b o e => (e0.bs b o e).1
  have hkind : ∀ y ∈ ps.zip us, scope.names.lookup y.1 = some .local ∨ (scope.names.lookup y.1 = some .cell ∧ ((cellsFrom (s.heap.objs.size + 1) scope.names []).lookup y.1).isSome = true) := fun ⟨n, v⟩ hy => by
    rcases S.par n (List.of_mem_zip hy).1 with q | q
    · exact .inl q
    · exact .inr ⟨q, PySem.W.cellsFrom_some _ _ _ (.inl q)⟩
  refine codeAny_call_function hr.depth (KX _ _ lk) rfl S.co S.gen rfl (PySem.W.codeRec_of KX hcd) (hb _ _ _ _ ?_)
  refine wpAny_newFunctionEnv_cells S.kind hkind fun env he s1 x => ?_
  subst he
  refine ⟨lim.keeps x.toInCall.keep, codeAny_func ?_⟩
  obtain ⟨t, ht, hq⟩ := hbody A outer s H vs Q E (hr.deeper _) hsp
  have I : Inv (cxOf CX P w K mg base N qual scope f cdv A outer s H E) [] (start N vs) H s1 := inv_start S hr.hd e0 hl r x
  refine wpAny_mono (ht [] s1 (start N vs) H _ I hq) (fun fl s' hs => ?_) fun e s' hs => hs
  have fin : ∀ {σ' : St} {H' : Hp} {v : V} {u : Value}, Inv (cxOf CX P w K mg base N qual scope f cdv A outer s H E) [] σ' H' s' → RelV v u → Q v H' → CE outer P w H s Q u s' :=
    fun {σ' H' v u} J rv q => ⟨v, H', J.os, J.bare, J.base, J.hok, rv, q⟩
  cases fl with
  | ret u =>
    obtain ⟨v, σ', H', J, rv, q⟩ := hs
    exact fin J rv q
  | next =>
    obtain ⟨σ', H', J, q⟩ := hs
    exact fin (v := V.non) (u := Value.none) J rfl q
  | brk =>
    obtain ⟨_, _, _, q⟩ := hs
    exact False.elim q
  | cont =>
    obtain ⟨_, _, _, q⟩ := hs
    exact False.elim q
end L2

namespace L2
open PySem PySem.Spec PyProof.Rows
section
variable {X : Cx} {x : Str} {p pos : Pos} {e : Expr} {es : List Expr} {t : TA} {id T : String} {r : List V → Hp → VK → Prop}

def tCB (r : List V → Hp → VK → Prop) (t : TA) : TE := fun σ H Q => t σ H fun vs H1 => r vs H1 Q
/-- f(e, ..), f a built-in function -/
theorem pe_callB (hc : CallR X (.builtin id) r) (hg : Gl X x) (hm : X.mg x = none) (hv : bootBuiltins x = some (.builtin id)) (ha : PA X (e :: es) t) (hn : x ≠ "__name__" := by decide) (hdb : (x == ("__debug__" : Str)) = false := by decide)
    (he : starEach (e :: es) X.env = (false, eval e X.env) :: starEach es X.env := by rfl) (hpl : (backTo pos (starEach es X.env)).any (·.1) = false := by rfl) : PE X (.Call (.Name x p) (e :: es) [] pos) (tCB r t) := by
  intro pins s σ H Q I h
  refine wpAny_Call_Name_kw (ld_blt I hg hm hv ?_ hn hdb)
  exact PyProof.Rows.callWith_builtin1 (thn (ha pos pins s σ H _ I h) fun us s1 ⟨vs, H1, I1, r1, q1⟩ => hc pins s1 σ H1 vs us Q I1 r1 q1) he hpl
/-- T(e, ..), T a built-in type -/
theorem pe_callTy (hc : CallR X (.type T) r) (hg : Gl X x) (hm : X.mg x = none) (hv : bootBuiltins x = some (.type T)) (ha : PA X (e :: es) t) (hn : x ≠ "__name__" := by decide) (hdb : (x == ("__debug__" : Str)) = false := by decide)
    (he : starEach (e :: es) X.env = (false, eval e X.env) :: starEach es X.env := by rfl) (hpl : (backTo pos (starEach es X.env)).any (·.1) = false := by rfl) : PE X (.Call (.Name x p) (e :: es) [] pos) (tCB r t) := by
  intro pins s σ H Q I h
  refine wpAny_Call_Name_kw (ld_blt I hg hm hv ?_ hn hdb)
  exact PyProof.Rows.callWith_type1 (thn (ha pos pins s σ H _ I h) fun us s1 ⟨vs, H1, I1, r1, q1⟩ => hc pins s1 σ H1 vs us Q I1 r1 q1) he hpl
/-- T() -/
theorem pe_callTy0 (hc : CallR X (.type T) r) (hg : Gl X x) (hm : X.mg x = none) (hv : bootBuiltins x = some (.type T)) (hn : x ≠ "__name__" := by decide) (hdb : (x == ("__debug__" : Str)) = false := by decide) :
    PE X (.Call (.Name x p) [] [] pos) (tCB r tNil) := by
  intro pins s σ H Q I h
  refine wpAny_Call_Name_kw (ld_blt I hg hm hv ?_ hn hdb)
  exact PyProof.Rows.callWith_type0 (hc pins s σ H [] [] Q I .nil h)
end
end L2

namespace HT
open PySem PyProof.Rows

/-- t < u of tuples of ints -/
def lexLt : List Int → List Int → Bool
  | [], [] => false
  | [], _ :: _ => true
  | _ :: _, [] => false
  | x :: xs, y :: ys => if x = y then lexLt xs ys else decide (x < y)
theorem lexLt_cons (x y : Int) (xs ys : List Int) : lexLt (x :: xs) (y :: ys) = if x = y then lexLt xs ys else decide (x < y) := rfl
theorem lexLt_nil_nil : lexLt [] [] = false := rfl
theorem lexLt_nil_cons (y : Int) (ys : List Int) : lexLt [] (y :: ys) = true := rfl
theorem lexLt_cons_nil (x : Int) (xs : List Int) : lexLt (x :: xs) [] = false := rfl

theorem eqAt_int (A : Around) (s : Shared) (a : Int) (t : Tok) (c : Int) (u : Tok) : ∃ e, SeqAt.EqAt A s (.int a t) (.int c u) e ∧ (e = true ↔ a = c) :=
  ⟨(a == c), SeqAt.EqAt.int_int a t c u, by simp⟩
theorem rcLt_int (A : Around) (s : Shared) (a : Int) (t : Tok) (c : Int) (u : Tok) (prog : Program) (w : World) (E : Value → Shared → Prop) (Q : Value → Shared → Prop) (h : Q (.bool (decide (a < c))) s) :
    wpAny (model prog w) A (richCompare .Lt (.int a t) (.int c u)) Q E s :=
  (PyProof.Rows.lt_int h : wpAny (model prog w) A (compareOp .Lt (.int a t) (.int c u)) Q E s)

section
open PySem.SeqAt
open PySem.AutoSeq1 (wpAny_loadPart')
open PySem.MeetsSeq PySem.MeetsSeq2 PySem.MeetsSeq3

theorem tuple_lt_ints (l b : Addr) (items items2 : Array Value) (n n2 : Nat) (dd dd2 : Option Addr) (sl sl2 : Array (Option Value)) (ns ms : List Int) (hi : IntsAre items.toList ns) (hj : IntsAre items2.toList ms) :
    Meets (Builtin.«tuple.__lt__» ⟨[.ref l, .ref b], []⟩)
      (fun _ R s => s.heap.get? l = some { cls := .type "tuple", dict := dd, data := .seq items n, slots := sl } ∧ s.heap.get? b = some { cls := .type "tuple", dict := dd2, data := .seq items2 n2, slots := sl2 } ∧
        R (.ok (.ret (.bool (lexLt ns ms)))) s) :=
  .of_wp fun prog w A R s h => by
    obtain ⟨hp, g, d, tk, os⟩ := s; obtain ⟨hl, hb, h⟩ := h
    have f2 := AutoSeq1.sub_tuple_tuple
    have z1 : items.size = ns.length := by rw [← hi.length]; simp
    have z2 : items2.size = ms.length := by rw [← hj.length]; simp
    wp_walk using wpAny_loadPart' hl, wpAny_loadPart' hb, wpAny_forIn_list _ (fun rest b s' => b.1 = none ∧ s' = ⟨hp, g, d, tk, os⟩ ∧ ∃ (vs ws : List Value) (ns' ms' : List Int), rest = vs.zip ws ∧
      IntsAre vs ns' ∧ IntsAre ws ms' ∧ ns'.length + items2.size = ms'.length + items.size ∧ R (.ok (.ret (.bool (lexLt ns' ms')))) ⟨hp, g, d, tk, os⟩) _
    case turn =>
      rintro ⟨y, x⟩ rest b s' ⟨hb', rfl, vs, ws, ns', ms', hz, hvi, hwi, hlen, hR⟩
      cases hvi with
      | nil => rw [List.zip_nil_left] at hz; cases hz
      | cons a t hvi' =>
        cases hwi with
        | nil => rw [List.zip_nil_right] at hz; cases hz
        | cons c u hwi' =>
          rw [List.zip_cons_cons] at hz
          injection hz with hyx hrest
          injection hyx with hy hx
          subst hy hx
          rw [lexLt_cons] at hR
          simp only [List.length_cons] at hlen
          obtain ⟨e, he, hiff⟩ := eqAt_int A.in1 ⟨hp, g, d, tk, os⟩ a t c u
          refine wpAny_bind (he prog w _ _ ?_)
          cases e with
          | true =>
            rw [if_pos (hiff.mp rfl)] at hR
            wp_walk
            exact ⟨rfl, rfl, _, _, _, _, hrest, hvi', hwi', by omega, hR⟩
          | false =>
            rw [if_neg (fun q => absurd (hiff.mpr q) Bool.false_ne_true)] at hR
            have hri := rcLt_int A.in1 ⟨hp, g, d, tk, os⟩ a t c u prog w
            wp_walk using hri
            exact ⟨_, rfl, by simpa using hR⟩
    case fin =>
      rintro ⟨b1, b2⟩ s' ⟨hb', rfl, vs, ws, ns', ms', hz, hvi, hwi, hlen, hR⟩
      simp only at hb'
      subst hb'
      have hv : lexLt ns' ms' = decide (items.size < items2.size) := by
        cases hvi with
        | nil =>
          cases hwi with
          | nil =>
            simp only [List.length_nil] at hlen
            rw [lexLt_nil_nil]
            exact (decide_eq_false (by omega)).symm
          | cons c u hw =>
            simp only [List.length_nil, List.length_cons] at hlen
            rw [lexLt_nil_cons]
            exact (decide_eq_true (by omega)).symm
        | cons a t hv =>
          cases hwi with
          | nil =>
            simp only [List.length_nil, List.length_cons] at hlen
            rw [lexLt_cons_nil]
            exact (decide_eq_false (by omega)).symm
          | cons c u hw =>
            rw [List.zip_cons_cons] at hz
            cases hz
      rw [hv] at hR
      wp_walk
      exact ⟨_, rfl, by simpa [Builtin.Tuple.tupleCompareSizes] using hR⟩
    case h =>
      exact ⟨rfl, rfl, items.toList, items2.toList, ns, ms, rfl, hi, hj, by omega, h⟩
end

section
variable {prog : Program} {w : World} {A : Around} {E : Value → Shared → Prop} {s : Shared}

theorem lt_tupInts {l b : Addr} {items items2 : Array Value} {ns ms : List Int} {Q : Value → Shared → Prop} (hl : IsTup s.heap l items) (hb : IsTup s.heap b items2) (hi : IntsAre items.toList ns) (hj : IntsAre items2.toList ms)
    (hu : A.units < cLine) (h : Q (.bool (lexLt ns ms)) s) : wpAny (model prog w) A (compareOp .Lt (.ref l) (.ref b)) Q E s := by
  obtain ⟨⟨cls, dd, data, sl⟩, ho, hc, n, hd⟩ := id hl
  obtain ⟨⟨cls2, dd2, data2, sl2⟩, ho2, hc2, n2, hd2⟩ := id hb
  simp only at hc hd hc2 hd2
  subst hc hd hc2 hd2
  exact richCompare_meets_room (op := .Lt) ⟨_, ho, rfl⟩ ⟨_, ho2, rfl⟩ PySem.F.slot_tuple_lt PySem.F.entry_tuple_lt (PySem.F.args_tuple_lt_2 _ _) (tuple_lt_ints l b items items2 n n2 dd dd2 sl sl2 ns ms hi hj)
    ⟨ho, ho2, show Value.bool (lexLt ns ms) ≠ Value.notImplemented ∧ Q (.bool (lexLt ns ms)) s from ⟨(fun x => nomatch x), h⟩⟩ hu

/-- t + u, t not empty -/
theorem cat_tup {t b : Addr} {vs ws : List Value} {Q : Value → Shared → Prop} (ht : IsTup s.heap t vs.toArray) (hb : IsTup s.heap b ws.toArray) (hv : vs ≠ [])
    (h1 : ws = [] → Q (.ref t) s) (h2 : ws ≠ [] → Q (.ref s.heap.objs.size) { s with heap := s.heap.push { cls := .type "tuple", data := .seq (vs ++ ws).toArray } })
    (hsz : vs.length + ws.length ≤ sizeLine) : wpAny (model prog w) A (binaryOp .Add (.ref t) (.ref b)) Q E s := by
  obtain ⟨⟨cls, dd, data, sl⟩, ho, hc, n, hd⟩ := id ht
  obtain ⟨⟨cls2, dd2, data2, sl2⟩, ho2, hc2, n2, hd2⟩ := id hb
  simp only at hc hd hc2 hd2
  subst hc hd hc2 hd2
  have e : vs.toArray ++ ws.toArray = (vs ++ ws).toArray := by simp
  by_cases hw : ws = []
  · exact concat_meets ⟨_, ho, rfl⟩ ⟨_, ho2, rfl⟩ noFill_tuple_add seq_tuple_add PySem.F.slot_tuple_add PySem.F.entry_tuple_add (PySem.F.args_tuple_add_2 _ _)
      (tuple_addW1 t b vs.toArray ws.toArray n n2 dd dd2 sl sl2 (by simpa using hv) (by simp [hw])) ⟨ho, ho2, h1 hw⟩
  · refine concat_meets ⟨_, ho, rfl⟩ ⟨_, ho2, rfl⟩ noFill_tuple_add seq_tuple_add PySem.F.slot_tuple_add PySem.F.entry_tuple_add (PySem.F.args_tuple_add_2 _ _)
      (tuple_addW2 t b vs.toArray ws.toArray n n2 dd dd2 sl sl2 (by simpa using hv) (by simpa using hw) (by rw [List.size_toArray, List.size_toArray]; exact hsz)) ⟨ho, ho2, ?_⟩
    rw [e]
    exact h2 hw

/-! ### t[a:b], not the whole -/
/-- a slice's bound as a place among n (d where it is left out) -/
def sIx (n d : Nat) : Option Int → Nat
  | none => d
  | some v => if v < 0 then (v + (n : Int)).toNat else min v.toNat n
theorem sIx_none (n d : Nat) : sIx n d none = d := rfl
theorem sIx_nat (n d k : Nat) : sIx n d (some (k : Int)) = min k n := by
  show (if (k : Int) < 0 then ((k : Int) + (n : Int)).toNat else min (k : Int).toNat n) = min k n
  rw [if_neg (by omega), Int.toNat_natCast]
theorem sIx_le (n d : Nat) (hd : d ≤ n) (o : Option Int) : sIx n d o ≤ n := by
  cases o with
  | none => exact hd
  | some v =>
    show (if v < 0 then (v + (n : Int)).toNat else min v.toNat n) ≤ n
    by_cases hv : v < 0
    · rw [if_pos hv]; omega
    · rw [if_neg hv]; exact Nat.min_le_right _ _
theorem clip_eq (v : Int) (n d : Nat) : (if v < 0 then max (v + (n : Int)) 0 else min v (n : Int)) = ((sIx n d (some v) : Nat) : Int) := by
  show (if v < 0 then max (v + (n : Int)) 0 else min v (n : Int)) = (((if v < 0 then (v + (n : Int)).toNat else min v.toNat n) : Nat) : Int)
  by_cases hv : v < 0
  · simp only [if_pos hv]; omega
  · simp only [if_neg hv]; omega
theorem adjust_gen (lo hi : Option Int) (n : Nat) : Builtin.Slice.sliceAdjust lo hi 1 (n : Int) = (((sIx n 0 lo : Nat) : Int), ((sIx n n hi : Nat) : Int)) := by
  have h1 : ¬ ((1 : Int) < 0) := by omega
  unfold Builtin.Slice.sliceAdjust
  simp only [h1, if_false]
  refine Prod.ext ?_ ?_
  · cases lo with
    | none => rfl
    | some v => exact clip_eq v n 0
  · cases hi with
    | none => rfl
    | some v => exact clip_eq v n n
theorem places_gen (i j : Nat) : Builtin.Slice.slicePlaces (i : Int) (j : Int) 1 = j - i := by
  unfold Builtin.Slice.slicePlaces
  have h1 : (1 : Int) > 0 := by omega
  simp only [h1, if_true, Int.ediv_one]
  split <;> omega
theorem slicePart_ {v : Value} {o : Option Int} {Q : Option Int → Shared → Prop} (p : IsPart v o) (h : Q o s) : wpAny (model prog w) A (Builtin.Slice.slicePartIndex v) Q E s := by
  cases p with
  | none => exact slicePart_none h
  | int i t => exact slicePart_int h
theorem sliceApplied_gen {sl : Addr} {vl vu : Value} {lo hi : Option Int} {n : Nat} {Q : Int × Int × Nat → Shared → Prop} (hs : s.heap.IsSliceOf sl vl vu .none) (pl : IsPart vl lo) (pu : IsPart vu hi)
    (h : Q (((sIx n 0 lo : Nat) : Int), 1, sIx n n hi - sIx n 0 lo) s) : wpAny (model prog w) A (Builtin.Slice.sliceApplied (.ref sl) (pure (n : Int))) Q E s := by
  obtain ⟨os, hos, hcs, hds⟩ := id hs
  unfold Builtin.Slice.sliceApplied Builtin.Slice.sliceFields
  refine wpAny_bind (wpAny_bind (wpAny_field hos hds (x := vl) rfl (wpAny_bind (wpAny_field hos hds (x := vu) rfl (wpAny_bind (wpAny_field hos hds (x := .none) rfl (wpAny_pure ?_)))))))
  refine wpAny_bind (slicePart_none ?_)
  show wpAny _ _ (if ((1 : Int) == 0) = true then _ else _) _ _ s
  rw [if_neg (by decide)]
  refine wpAny_bind (slicePart_ pl (wpAny_bind (slicePart_ pu (wpAny_bind (wpAny_pure ?_)))))
  show wpAny _ _ (match Builtin.Slice.sliceAdjust lo hi 1 (n : Int) with | (lo, hi) => pure (lo, (1 : Int), Builtin.Slice.slicePlaces lo hi 1)) _ _ s
  rw [adjust_gen lo hi n]
  show wpAny _ _ (pure (((sIx n 0 lo : Nat) : Int), (1 : Int), Builtin.Slice.slicePlaces ((sIx n 0 lo : Nat) : Int) ((sIx n n hi : Nat) : Int) 1)) _ _ s
  rw [places_gen]
  exact wpAny_pure h
theorem pick_gen (xs : Array Value) (i k : Nat) : ((List.range k).filterMap fun (m : Nat) => xs[((i : Int) + (m : Int) * 1).toNat]?).toArray = ((xs.toList.drop i).take k).toArray := by
  have e : (fun (m : Nat) => xs[((i : Int) + (m : Int) * 1).toNat]?) = fun m => xs[i + m]? := by
    funext m
    have : ((i : Int) + (m : Int) * 1).toNat = i + m := by omega
    rw [this]
  rw [e]
  have := pick_run xs i k
  rw [List.filterMap_map] at this
  have e2 : ((fun x => xs[x]?) ∘ fun x => i + x) = fun m => xs[i + m]? := rfl
  rw [e2] at this
  rw [this]

theorem getItem_tuple_cut {t sl : Addr} {items : Array Value} {vl vu : Value} {lo hi : Option Int} {Q : Value → Shared → Prop} (ht : IsTup s.heap t items) (hs : s.heap.IsSliceOf sl vl vu .none) (pl : IsPart vl lo) (pu : IsPart vu hi)
    (hw : ¬ (sIx items.size 0 lo = 0 ∧ sIx items.size items.size hi = items.size))
    (h : Q (.ref s.heap.objs.size) { s with heap := s.heap.push { cls := .type "tuple", data := .seq ((items.toList.drop (sIx items.size 0 lo)).take (sIx items.size items.size hi - sIx items.size 0 lo)).toArray } })
    (hsz : items.size ≤ sizeLine) : wpAny (model prog w) A (getItem (.ref t) (.ref sl)) Q E s := by
  have htake : sizeOk (.seq ((items.toList.drop (sIx items.size 0 lo)).take (sIx items.size items.size hi - sIx items.size 0 lo)).toArray) := by
    show ((items.toList.drop (sIx items.size 0 lo)).take (sIx items.size items.size hi - sIx items.size 0 lo)).toArray.size ≤ sizeLine
    rw [List.size_toArray, List.length_take, List.length_drop, Array.length_toList]
    omega
  have hj : sIx items.size items.size hi ≤ items.size := sIx_le _ _ (Nat.le_refl _) hi
  obtain ⟨os, hos, hcs, hds⟩ := id hs
  have hTs : s.TypeIs (.ref sl) "slice" := ⟨os, hos, hcs⟩
  unfold getItem
  try with_reducible refine wpAny_holding ?_
  first | refine wpAny_bind (wpAny_pure ?_) | skip
  refine wpAny_bind (wpAny_sequenceKey ht.typeIs (by decide) ?_)
  refine wpAny_bind (wpAny_callSpecial?_slot (name := Str.ofString "__getitem__") ht.typeIs PyProof.Rows.slot_tuple_getitem
    (wpAny_call_entry PyProof.Rows.slot_tuple_getitem ht.typeIs entry_tuple_getitem ?_ (args_tuple_getitem _ _)))
  show wpAny _ _ (Builtin.Tuple.tupleItemsOf (.ref t) >>= _) _ _ s
  refine wpAny_bind (tupleItemsOf_ ht ?_)
  refine wpAny_bind (wpAny_typeOf hTs ?_)
  rw [if_pos (by decide)]
  refine wpAny_bind (sliceApplied_gen hs pl pu ?_)
  have hno : ¬ ((((sIx items.size 0 lo : Nat) : Int) == 0 && (1 : Int) == 1 && (sIx items.size items.size hi - sIx items.size 0 lo) == items.size) = true) := by
    intro q
    rw [Bool.and_eq_true, Bool.and_eq_true] at q
    have q1 : ((sIx items.size 0 lo : Nat) : Int) = 0 := eq_of_beq q.1.1
    have q2 : sIx items.size items.size hi - sIx items.size 0 lo = items.size := eq_of_beq q.2
    exact hw ⟨by omega, by omega⟩
  show wpAny _ _ (if (((sIx items.size 0 lo : Nat) : Int) == 0 && (1 : Int) == 1 && (sIx items.size items.size hi - sIx items.size 0 lo) == items.size) = true then _ else _) _ _ s
  rw [if_neg hno, pick_gen]
  first
    | exact wpAny_bind (m := Builtin.Tuple.tupleExact _) (wpAny_newObj_type (wpAny_pure ⟨_, rfl, wpAny_pure h⟩) htake)
    | exact wpAny_bind (m := Builtin.Tuple.tupleExact _) (wpAny_newObj_type (wpAny_bind (wpAny_pure (wpAny_pure ⟨_, rfl, wpAny_pure h⟩))) htake)
    | exact wpAny_bind (wpAny_bind (m := Builtin.Tuple.tupleExact _) (wpAny_newObj_type (wpAny_pure (wpAny_pure ⟨_, rfl, wpAny_pure h⟩)) htake))
    | exact wpAny_bind (wpAny_bind (m := Builtin.Tuple.tupleExact _) (wpAny_newObj_type (wpAny_pure ⟨_, rfl, wpAny_pure h⟩) htake))
end
end HT

namespace L2
open PySem PySem.Spec PyProof.Rows

/-! ### the parts of a slice -/
abbrev TO := St → Hp → (Option Int → Hp → Prop) → Prop
/-- a slice's part (left out, or an int) -/
def PO (X : Cx) (e : Option Expr) (t : TO) : Prop :=
  ∀ (pins : List (Addr × Obj)) (s : Shared) (σ : St) (H : Hp) (Q : Option Int → Hp → Prop), Inv X pins σ H s → t σ H Q →
    wpAny (model X.prog X.w) X.A (evalPart e X.env) (fun u s' => ∃ o H', Inv X pins σ H' s' ∧ IsPart u o ∧ Q o H') X.xe s
def tNoPart : TO := fun _ H Q => Q none H
def tPart (t : TE) : TO := fun σ H Q => t σ H fun x H1 => ∃ i, x = .int i ∧ Q (some i) H1

theorem intsAre_of {ns : List Int} : ∀ {us : List Value}, Vals (ns.map V.int) us → IntsAre us ns := by
  induction ns with
  | nil => intro us r; rw [List.map_nil] at r; cases r; exact .nil
  | cons n ns ih =>
    intro us r
    rw [List.map_cons] at r
    cases r with
    | cons r1 r2 =>
      obtain ⟨t, e⟩ := r1
      subst e
      exact .cons n t (ih r2)

section
variable {X : Cx} {e : Expr} {te : TE} {lo hi : Option Expr} {tl th : TO} {pos p2 : Pos}

theorem po_none : PO X none tNoPart := by
  intro pins s σ H Q I h
  rw [evalPart_none]
  exact wpAny_pure ⟨none, H, I, .none, h⟩
theorem po_some (h : PE X e te) : PO X (some e) (tPart te) := by
  intro pins s σ H Q I hw
  rw [evalPart_some]
  refine thn (h pins s σ H _ I hw) fun u s1 ⟨x, H1, I1, r1, q1⟩ => ?_
  obtain ⟨i, rfl, q⟩ := q1
  obtain ⟨t, rfl⟩ := r1
  exact ⟨some i, H1, I1, .int i t, q⟩

/-- what a slice of a value is, by values: the slice object stands at sl -/
def SlR (X : Cx) (r : V → Option Int → Option Int → Hp → VK → Prop) : Prop :=
  ∀ (pins : List (Addr × Obj)) (s : Shared) (σ : St) (H : Hp) (x : V) (v vl vu : Value) (lo hi : Option Int) (sl : Addr) (Q : VK), Inv X pins σ H s → RelV x v → s.heap.IsSliceOf sl vl vu .none → IsPart vl lo → IsPart vu hi → r x lo hi H Q →
    ∃ T id, typeLookup (.type T) "__getitem__" = pure (some (.builtin id)) ∧ s.TypeIs v T ∧ wpAny (model X.prog X.w) X.A (getItem v (.ref sl)) (EP X pins σ Q) X.xe s
theorem SlR.or {r r' : V → Option Int → Option Int → Hp → VK → Prop} (h : SlR X r) (h' : SlR X r') : SlR X (fun x lo hi H Q => r x lo hi H Q ∨ r' x lo hi H Q) := by
  intro pins s σ H x v vl vu lo hi sl Q I rx hs pl pu q
  rcases q with q | q
  · exact h pins s σ H x v vl vu lo hi sl Q I rx hs pl pu q
  · exact h' pins s σ H x v vl vu lo hi sl Q I rx hs pl pu q
def tSl (r : V → Option Int → Option Int → Hp → VK → Prop) (te : TE) (tl th : TO) : TE := fun σ H Q => te σ H fun x H1 => tl σ H1 fun l H2 => th σ H2 fun u H3 => r x l u H3 Q
/-- a[lo:hi], any a -/
theorem pe_slice {r : V → Option Int → Option Int → Hp → VK → Prop} (hr : SlR X r) (he : PE X e te) (hl : PO X lo tl) (hu : PO X hi th) : PE X (.Subscript e (.Slice lo hi none p2) pos) (tSl r te tl th) := by
  intro pins s σ H Q I h
  refine Subscript_ (thn (he pins s σ H _ I h) fun v s1 ⟨x, H1, I1, r1, q1⟩ => ?_)
  refine wpAny_Slice (thn (hl pins s1 σ H1 _ I1 q1) fun vl s2 ⟨l, H2, I2, pl, q2⟩ => thn (hu pins s2 σ H2 _ I2 q2) fun vu s3 ⟨u, H3, I3, pu, q3⟩ => ?_)
  rw [evalPart_none]
  refine wpAny_pure ?_
  have I4 : Inv X pins σ H3 { s3 with heap := s3.heap.push { cls := .type "slice", data := .fields #[vl, vu, .none] } } := I3.kept (t' := s3.toks) fun b ob q => Heap.get?_push_of_some _ q
  obtain ⟨T, id, hT, ht, hg⟩ := hr pins { s3 with heap := s3.heap.push { cls := .type "slice", data := .fields #[vl, vu, .none] } } σ H3 x v vl vu l u s3.heap.objs.size Q I4 r1 (Heap.IsSliceOf.new ..) pl pu q3
  show wpAny (model X.prog X.w) X.A (subscriptTail e (.Slice lo hi none p2) v (.ref s3.heap.objs.size)) (EP X pins σ Q) X.xe { s3 with heap := s3.heap.push { cls := .type "slice", data := .fields #[vl, vu, .none] } }
  exact tail_any (ops := [.ref s3.heap.objs.size, v]) ht hT hg (by with_unfolding_all rfl)

/-- the items of xs[lo:hi] -/
def cutV (xs : List V) (lo hi : Option Int) : List V := (xs.drop (HT.sIx xs.length 0 lo)).take (HT.sIx xs.length xs.length hi - HT.sIx xs.length 0 lo)
theorem cutV_length (xs : List V) (lo hi : Option Int) : (cutV xs lo hi).length ≤ xs.length := by
  unfold cutV
  rw [List.length_take, List.length_drop]
  omega
/-- t[lo:hi], not the whole of it (the whole would be t itself) -/
def rSlT (K : PySem.W.Frag) : V → Option Int → Option Int → Hp → VK → Prop := fun x lo hi H Q => ∃ a xs, x = .ref a ∧ SqT K H a xs ∧
  ¬ (HT.sIx xs.length 0 lo = 0 ∧ HT.sIx xs.length xs.length hi = xs.length) ∧ ∀ p, H p = none → Q (.ref p) (upd H p (.tup (cutV xs lo hi)))
theorem sl_tup : SlR X (rSlT X.K) := by
  intro pins s σ H x v vl vu lo hi sl Q I rx hs pl pu h
  obtain ⟨a, xs, rfl, hx, hw, q⟩ := h
  cases rx
  obtain ⟨its, r, ht, hz⟩ := I.tuple hx
  have hlen : its.toArray.size = xs.length := by rw [List.size_toArray]; exact r.length.symm
  refine ⟨"tuple", _, PyProof.Rows.slot_tuple_getitem.lookup, ht.typeIs, ?_⟩
  refine HT.getItem_tuple_cut ht hs pl pu (by rw [hlen]; exact hw) ?_ (by rw [hlen]; exact hz)
  rw [hlen]
  refine ⟨.ref s.heap.objs.size, _, I.laid (t' := s.toks) (o := .tup (cutV xs lo hi)) (fun b ob q => Heap.get?_push_of_some _ q) (Nat.le_refl _) ?_, rfl, q _ (I.hok.fresh (Nat.le_refl _))⟩
  exact ⟨Nat.le_trans (cutV_length xs lo hi) hz, _, (r.drop (HT.sIx xs.length 0 lo)).take (HT.sIx xs.length xs.length hi - HT.sIx xs.length 0 lo), IsTup.new _ _⟩

/-! ### t < u, t + u -/
def rLtT (K : PySem.W.Frag) : R2 := fun x y H Q => ∃ a b ns ms, x = .ref a ∧ y = .ref b ∧ SqT K H a (ns.map V.int) ∧ SqT K H b (ms.map V.int) ∧ Q (.bl (HT.lexLt ns ms)) H
theorem op_ltT (hu : X.A.units < cLine) : OpR X (compareOp .Lt) (rLtT X.K) := by
  intro pins s σ H x y v u Q I rx ry h
  obtain ⟨a, b, ns, ms, rfl, rfl, ha, hb, q⟩ := h
  cases rx
  cases ry
  obtain ⟨its, r1, p1, _⟩ := I.tuple ha
  obtain ⟨its2, r2, p2, _⟩ := I.tuple hb
  have i1 : IntsAre its.toArray.toList ns := intsAre_of r1
  have i2 : IntsAre its2.toArray.toList ms := intsAre_of r2
  exact HT.lt_tupInts p1 p2 i1 i2 hu ⟨.bl (HT.lexLt ns ms), H, I, rfl, q⟩
/-- t + u, t not empty: u empty gives t itself -/
def rCatT (K : PySem.W.Frag) : R2 := fun x y H Q => ∃ a b xs ys, x = .ref a ∧ y = .ref b ∧ SqT K H a xs ∧ SqT K H b ys ∧ xs ≠ [] ∧ xs.length + ys.length ≤ sizeLine ∧
  (ys = [] → Q (.ref a) H) ∧ (ys ≠ [] → ∀ p, H p = none → Q (.ref p) (upd H p (.tup (xs ++ ys))))
theorem Vals.nil_iff {xs : List V} {us : List Value} (r : Vals xs us) : us = [] ↔ xs = [] := by
  cases r with
  | nil => simp
  | cons _ _ => simp
theorem op_catT : OpR X (binaryOp .Add) (rCatT X.K) := by
  intro pins s σ H x y v u Q I rx ry h
  obtain ⟨a, b, xs, ys, rfl, rfl, ha, hb, hx, hz, q1, q2⟩ := h
  cases rx
  cases ry
  obtain ⟨its, r1, p1, _⟩ := I.tuple ha
  obtain ⟨its2, r2, p2, _⟩ := I.tuple hb
  refine HT.cat_tup p1 p2 (fun z => hx (r1.nil_iff.mp z)) (fun z => ⟨.ref a, H, I, rfl, q1 (r2.nil_iff.mp z)⟩) (fun z => ?_) (by rw [← r1.length, ← r2.length]; exact hz)
  refine ⟨.ref s.heap.objs.size, _, I.laid (t' := s.toks) (o := .tup (xs ++ ys)) (fun b ob q => Heap.get?_push_of_some _ q) (Nat.le_refl _) ?_, rfl, q2 (fun w => z (r2.nil_iff.mpr w)) _ (I.hok.fresh (Nat.le_refl _))⟩
  exact ⟨by rw [List.length_append]; exact hz, _, r1.append r2, IsTup.new _ _⟩
/-- tuple(t) -/
theorem call_tupleT : CallR X (.type "tuple") (fun xs H Q => ∃ a ys, xs = [.ref a] ∧ SqT X.K H a ys ∧ Q (.ref a) H) := by
  intro pins s σ H xs us Q I r h
  obtain ⟨a, ys, rfl, ha, q⟩ := h
  obtain ⟨u, rfl, ru⟩ := vals1 r
  cases ru
  obtain ⟨its, _, p1, _⟩ := I.tuple ha
  exact call_tuple_same (items := its.toArray) p1 ⟨.ref a, H, I, rfl, q⟩
end
end L2

namespace L2
open PySem PySem.Spec PyProof.Rows

/-! ### places -/
/-- the place that an index of any sign means -/
def ixN (n : Nat) (i : Int) : Option Nat := if 0 ≤ i then (if i < n then some i.toNat else none) else if -(n : Int) ≤ i then some (i + n).toNat else none
def atI {α : Type} (xs : List α) (i : Int) : Option α := (ixN xs.length i).bind fun j => xs[j]?
theorem ixN_seq {n : Nat} {i : Int} {j : Nat} (h : ixN n i = some j) : seqIndex? i n = some j ∧ j < n ∧ -(n : Int) ≤ i ∧ i < n := by
  unfold ixN at h
  by_cases h0 : 0 ≤ i
  · rw [if_pos h0] at h
    by_cases h1 : i < n
    · rw [if_pos h1] at h
      have e : i.toNat = j := Option.some.inj h
      exact ⟨by rw [seqIndex_of h0 h1, e], by omega, by omega, h1⟩
    · rw [if_neg h1] at h; cases h
  · rw [if_neg h0] at h
    by_cases h1 : -(n : Int) ≤ i
    · rw [if_pos h1] at h
      have e : (i + n).toNat = j := Option.some.inj h
      exact ⟨by rw [seqIndex_neg (by omega) h1, e], by omega, h1, by omega⟩
    · rw [if_neg h1] at h; cases h
theorem atI_get {α : Type} {xs : List α} {i : Int} {v : α} (h : atI xs i = some v) : ∃ j, seqIndex? i xs.length = some j ∧ xs[j]? = some v ∧ j < xs.length ∧ -(xs.length : Int) ≤ i ∧ i < xs.length := by
  unfold atI at h
  cases e : ixN xs.length i with
  | none => rw [e] at h; cases h
  | some j =>
    rw [e] at h
    obtain ⟨h1, h2, h3, h4⟩ := ixN_seq e
    exact ⟨j, h1, h, h2, h3, h4⟩
theorem atI_nat {α : Type} {xs : List α} {j : Nat} {v : α} (h : xs[j]? = some v) : atI xs (j : Int) = some v := by
  have hj : j < xs.length := (List.getElem?_eq_some_iff.mp h).1
  have e : ixN xs.length (j : Int) = some j := by
    unfold ixN
    rw [if_pos (by omega), if_pos (by omega)]; simp
  unfold atI; rw [e]; exact h
theorem atI_last {α : Type} (xs : List α) (v : α) : atI (xs ++ [v]) (-1) = some v := by
  have hl : (xs ++ [v]).length = xs.length + 1 := by simp
  have e : ixN (xs ++ [v]).length (-1) = some xs.length := by
    unfold ixN
    rw [hl, if_neg (by decide), if_pos (by omega)]
    congr 1
    omega
  unfold atI
  rw [e]
  show (xs ++ [v])[xs.length]? = some v
  simp

/-! ### what may be subscripted -/
/-- what stands as an index of a plain subscript -/
def PlainIx (b : Expr) : Prop := ∀ o i, subscripted b false o i = operate [o, i] (getItem o i)
/-- a subscript by values -/
def IxR (X : Cx) (r : R2) : Prop :=
  ∀ (value slice : Expr) (pins : List (Addr × Obj)) (s : Shared) (σ : St) (H : Hp) (x y : V) (v u : Value) (Q : VK), Inv X pins σ H s → RelV x v → RelV y u → r x y H Q →
    subscripted slice false v u = operate [v, u] (getItem v u) → wpAny (model X.prog X.w) X.A (subscriptTail value slice v u) (EP X pins σ Q) X.xe s
/-- a call of a builtin's method by values: the receiver, the arguments -/
def MtR (X : Cx) (id : String) (r : V → List V → Hp → VK → Prop) : Prop :=
  ∀ (pins : List (Addr × Obj)) (s : Shared) (σ : St) (H : Hp) (x : V) (xs : List V) (v : Value) (us : List Value) (Q : VK), Inv X pins σ H s → RelV x v → Vals xs us → r x xs H Q →
    wpAny (model X.prog X.w) X.A (call (.builtin id) (v :: us)) (EP X pins σ Q) X.xe s
section
variable {X : Cx} {a b : Expr} {ta tb : TE} {pos : Pos}
theorem IxR.or {r r' : R2} (h : IxR X r) (h' : IxR X r') : IxR X (fun x y H Q => r x y H Q ∨ r' x y H Q) := by
  intro value slice pins s σ H x y v u Q I rx ry q hs
  rcases q with q | q
  · exact h value slice pins s σ H x y v u Q I rx ry q hs
  · exact h' value slice pins s σ H x y v u Q I rx ry q hs
theorem MtR.or {id : String} {r r' : V → List V → Hp → VK → Prop} (h : MtR X id r) (h' : MtR X id r') : MtR X id (fun x xs H Q => r x xs H Q ∨ r' x xs H Q) := by
  intro pins s σ H x xs v us Q I rx rs q
  rcases q with q | q
  · exact h pins s σ H x xs v us Q I rx rs q
  · exact h' pins s σ H x xs v us Q I rx rs q
/-- a[b] -/
theorem pe_ix {r : R2} (hr : IxR X r) (ha : PE X a ta) (hb : PE X b tb) (hs : PlainIx b) : PE X (.Subscript a b pos) (tOp r ta tb) := by
  intro pins s σ H Q I h
  exact Subscript_ (binT ha hb I h fun v u s2 x y H2 I2 rx ry q => hr a b pins s2 σ H2 x y v u Q I2 rx ry q (hs _ _))

def rIxL (K : PySem.W.Frag) : R2 := fun x y H Q => ∃ p xs i v, x = .ref p ∧ y = .int i ∧ SqL K H p xs ∧ atI xs i = some v ∧ Q v H
def rIxT (K : PySem.W.Frag) : R2 := fun x y H Q => ∃ p xs i v, x = .ref p ∧ y = .int i ∧ SqT K H p xs ∧ atI xs i = some v ∧ Q v H
def rIxS : R2 := fun x y H Q => ∃ z i c, x = .str z ∧ y = .int i ∧ z.length ≤ sizeLine ∧ atI z.cps.toList i = some c ∧ Q (.str ⟨#[c]⟩) H
theorem ix_list : IxR X (rIxL X.K) := by
  intro value slice pins s σ H x y v u Q I rx ry h hs
  obtain ⟨p, xs, i, z, rfl, rfl, hq, he, q⟩ := h
  cases rx
  obtain ⟨t, rfl⟩ := ry
  obtain ⟨its, r, pl, hz⟩ := I.list hq
  obtain ⟨j, h1, h2, h3, h4, h5⟩ := atI_get he
  obtain ⟨w, ew, rw'⟩ := r.get h2
  have hl := r.length
  have hn := line63
  have fin : EP X pins σ Q w s := ⟨z, H, I, rw', q⟩
  by_cases h0 : 0 ≤ i
  · have hj : i.toNat = j := by
      rw [seqIndex_of h0 h5] at h1
      exact Option.some.inj h1
    exact item_listR pl.isList h0 (by omega) (by rw [hj]; simpa using ew) fin hs
  · have hj : (i + (its.toArray.size : Int)).toNat = j := by
      rw [seqIndex_neg (by omega) h4] at h1
      rw [List.size_toArray, ← hl]
      exact Option.some.inj h1
    exact subscriptTail_builtinR (x := w) pl.isList.typeIs slot_list_getitem.lookup
      (wpAny_getItem_list_neg (Q := fun r s' => r = w ∧ EP X pins σ Q r s') pl.isList (by omega) (by rw [List.size_toArray] <;> omega) (by omega) (by rw [hj]; simpa using ew) ⟨rfl, fin⟩) hs
theorem ix_tup : IxR X (rIxT X.K) := by
  intro value slice pins s σ H x y v u Q I rx ry h hs
  obtain ⟨p, xs, i, z, rfl, rfl, hq, he, q⟩ := h
  cases rx
  obtain ⟨t, rfl⟩ := ry
  obtain ⟨its, r, pl, hz⟩ := I.tuple hq
  obtain ⟨j, h1, h2, h3, h4, h5⟩ := atI_get he
  obtain ⟨w, ew, rw'⟩ := r.get h2
  have hl := r.length
  have hn := line63
  have fin : EP X pins σ Q w s := ⟨z, H, I, rw', q⟩
  exact subscriptTail_builtinR (x := w) pl.typeIs slot_tuple_getitem.lookup
    (getItem_tuple (j := j) (Q := fun r s' => r = w ∧ EP X pins σ Q r s') pl (by omega) (by omega) (by rw [List.size_toArray, ← hl]; exact h1) (by simpa using ew) ⟨rfl, fin⟩) hs
theorem ix_str : IxR X rIxS := by
  intro value slice pins s σ H x y v u Q I rx ry h hs
  obtain ⟨z, i, c, rfl, rfl, hz, he, q⟩ := h
  obtain ⟨t, rfl⟩ := rx
  obtain ⟨t', rfl⟩ := ry
  obtain ⟨j, h1, h2, h3, h4, h5⟩ := atI_get he
  have hl : z.cps.toList.length = z.length := by simp [Str.length]
  rw [hl] at h1 h4 h5
  have hn := line63
  exact tail_any (typeIs_str s z t) slot_str_getitem.lookup (getItem_str (c := c) (by
    have e1 : decide (i < -(2 ^ 63 : Int)) = false := decide_eq_false (by omega)
    have e2 : decide (i ≥ 2 ^ 63) = false := decide_eq_false (by omega)
    rw [e1, e2, Bool.or_false]) (by rw [h1]; simpa using h2) ⟨.str ⟨#[c]⟩, H, I.tok _, ⟨_, rfl⟩, q⟩) hs
/-- list, tuple or str -/
def rIx (K : PySem.W.Frag) : R2 := fun x y H Q => rIxL K x y H Q ∨ rIxT K x y H Q ∨ rIxS x y H Q
theorem ix_seq : IxR X (rIx X.K) := ix_list.or (ix_tup.or ix_str)

/-! ### xs[i] = v, any sign -/
/-- the list's object behind a store -/
theorem mapSeq_set (its : List Value) (n j : Nat) (u : Value) : Obj.mapSeq (·.setIfInBounds j u) { cls := .type "list", data := .seq its.toArray n } = { cls := .type "list", data := .seq (its.set j u).toArray n } := by
  simp [Obj.mapSeq]
theorem Inv.lst {pins : List (Addr × Obj)} {σ : St} {H : Hp} {s : Shared} {p : Addr} {xs : List V} (I : Inv X pins σ H s) (h : H p = some (.lst xs)) :
    ∃ (its : List Value) (n : Nat), Vals xs its ∧ s.heap.get? p = some { cls := .type "list", data := .seq its.toArray n } ∧ xs.length ≤ sizeLine := by
  obtain ⟨z, its, n, r, e⟩ := I.hok p _ h
  exact ⟨its, n, r, e, z⟩
/-- the list at p is written by an update of its object -/
theorem Inv.lstUpd {pins : List (Addr × Obj)} {σ : St} {H : Hp} {s : Shared} {p : Addr} {xs ys : List V} {its its' : List Value} {n n' : Nat} {f : Obj → Obj} (I : Inv X pins σ H s) (h : H p = some (.lst xs))
    (ho : s.heap.get? p = some { cls := .type "list", data := .seq its.toArray n }) (hf : f { cls := .type "list", data := .seq its.toArray n } = { cls := .type "list", data := .seq its'.toArray n' }) (r : Vals ys its') (hz : ys.length ≤ sizeLine) (t : Nat) :
    Inv X pins σ (upd H p (.lst ys)) { s with heap := s.heap.update p f, toks := t } := by
  have e : (s.heap.update p f).get? p = some { cls := .type "list", data := .seq its'.toArray n' } := by
    rw [Heap.get?_update_self f ho (by rw [hf] <;> rfl), hf]
  refine I.write (x := p) (e := p) (by rw [h]; trivial) (.inl rfl) (fun b u hb q => (Heap.get?_update_other _ _ (Ne.symm hb)).trans q) ⟨_, e⟩ ?_
  exact ⟨hz, its', n', r, e⟩
def rSetL : V → V → V → Hp → (Hp → Prop) → Prop := fun o i v H Q => ∃ p xs k j, o = .ref p ∧ i = .int k ∧ H p = some (.lst xs) ∧ ixN xs.length k = some j ∧ Q (upd H p (.lst (xs.set j v)))
theorem set_list : PSet X rSetL := by
  intro pins s σ H o i v ov iv u Q I ro ri rv h
  obtain ⟨p, xs, k, j, rfl, rfl, hp, hj, q⟩ := h
  cases ro
  obtain ⟨t, rfl⟩ := ri
  obtain ⟨its, n, r, ho, hz⟩ := I.lst hp
  obtain ⟨h1, h2, h3, h4⟩ := ixN_seq hj
  have hl := r.length
  have hn := line63
  have I' : Inv X pins σ (upd H p (.lst (xs.set j v))) { s with heap := s.heap.update p (Obj.mapSeq (·.setIfInBounds j u)) } :=
    I.lstUpd hp ho (mapSeq_set its n j u) (r.set rv j) (by rw [List.length_set]; exact hz) s.toks
  by_cases h0 : 0 ≤ k
  · have hk : k.toNat = j := by
      rw [seqIndex_of h0 h4] at h1
      exact Option.some.inj h1
    exact PySem.W.ki_setAt ho h0 (by omega) (by rw [List.size_toArray, ← hl]; exact h4) (by rw [hk]; exact ⟨_, I', q⟩)
  · have hk : (k + (its.toArray.size : Int)).toNat = j := by
      rw [seqIndex_neg (by omega) h3] at h1
      rw [List.size_toArray, ← hl]
      exact Option.some.inj h1
    exact PySem.W.ki_setBack ho (by omega) (by rw [List.size_toArray, ← hl]; exact h3) (by omega) (by rw [hk]; exact ⟨_, I', q⟩)

/-! ### slices -/
theorem slice_bounds (lo hi : Option Int) (n : Nat) : (sliceBounds lo hi none n).1 = ((HT.sIx n 0 lo : Nat) : Int) ∧ (sliceBounds lo hi none n).2.1 = ((HT.sIx n n hi : Nat) : Int) ∧ (sliceBounds lo hi none n).2.2 = 1 := by
  refine ⟨?_, ?_, rfl⟩
  · cases lo with
    | none => simp [sliceBounds, HT.sIx]
    | some i =>
      simp only [sliceBounds, HT.sIx, Option.getD_none, show (1 : Int) > 0 by decide, if_true]
      by_cases h : i < 0
      · simp only [h, if_true] <;> omega
      · simp only [h, if_false] <;> omega
  · cases hi with
    | none => simp [sliceBounds, HT.sIx]
    | some i =>
      simp only [sliceBounds, HT.sIx, Option.getD_none, show (1 : Int) > 0 by decide, if_true]
      by_cases h : i < 0
      · simp only [h, if_true] <;> omega
      · simp only [h, if_false] <;> omega
theorem slicePick_cut (its : List Value) (lo hi : Option Int) : slicePick its.toArray lo hi none = ((its.drop (HT.sIx its.length 0 lo)).take (HT.sIx its.length its.length hi - HT.sIx its.length 0 lo)).toArray := by
  obtain ⟨h1, h2, h3⟩ := slice_bounds lo hi its.toArray.size
  unfold slicePick
  rw [h1, h2, h3]
  simp only [sliceRange_one, pick_run, List.size_toArray] <;> rfl
/-- xs[lo:hi] of a list: a new list -/
def rSlL (K : PySem.W.Frag) : V → Option Int → Option Int → Hp → VK → Prop := fun x lo hi H Q => ∃ a xs, x = .ref a ∧ SqL K H a xs ∧ ∀ p, H p = none → Q (.ref p) (upd H p (.lst (cutV xs lo hi)))
theorem sl_list : SlR X (rSlL X.K) := by
  intro pins s σ H x v vl vu lo hi sl Q I rx hs pl pu h
  obtain ⟨a, xs, rfl, hx, q⟩ := h
  cases rx
  obtain ⟨its, r, ht, hz⟩ := I.list hx
  have hlen := r.length
  refine ⟨"list", _, slot_list_getitem.lookup, ht.isList.typeIs, ?_⟩
  refine wpAny_getItem_list_slice ht.isList hs pl pu .none (by simp) ?_ (by rw [List.size_toArray] <;> omega)
  rw [slicePick_cut, ← hlen]
  refine ⟨.ref s.heap.objs.size, _, I.laid (t' := s.toks) (o := .lst (cutV xs lo hi)) (fun b ob q => Heap.get?_push_of_some _ q) (Nat.le_refl _) ?_, rfl, q _ (I.hok.fresh (Nat.le_refl _))⟩
  exact ⟨Nat.le_trans (cutV_length xs lo hi) hz, _, 0, (r.drop (HT.sIx xs.length 0 lo)).take (HT.sIx xs.length xs.length hi - HT.sIx xs.length 0 lo), Heap.get?_push_size _ rfl⟩

/-! ### in, not in: flat items -/
def flatV : V → Bool
  | .non => true
  | .bl _ => true
  | .int _ => true
  | .str _ => true
  | _ => false
/-- == of flat values -/
def eqV : V → V → Bool
  | .non, .non => true
  | .bl a, .bl b => a == b
  | .bl a, .int b => (if a then 1 else 0) == b
  | .int a, .bl b => a == (if b then 1 else 0)
  | .int a, .int b => a == b
  | .str a, .str b => a == b
  | _, _ => false
theorem eqAt_V {A : Around} {s : Shared} {y x : V} {u v : Value} (ry : RelV y u) (rx : RelV x v) (fy : flatV y = true) (fx : flatV x = true) : SeqAt.EqAt A s u v (eqV y x) := by
  cases y with
  | non =>
    cases ry
    cases x with
    | non => cases rx; exact SeqAt.EqAt.same _
    | bl b => cases rx; exact SeqAt.EqAt.none_bool b
    | int b => obtain ⟨t, rfl⟩ := rx; exact SeqAt.EqAt.none_int b t
    | str b => obtain ⟨t, rfl⟩ := rx; exact SeqAt.EqAt.none_str b t
    | _ => exact absurd (show false = true from fx) Bool.false_ne_true
  | bl a =>
    cases ry
    cases x with
    | non => cases rx; exact SeqAt.EqAt.bool_none a
    | bl b => cases rx; exact SeqAt.EqAt.bool_bool a b
    | int b => obtain ⟨t, rfl⟩ := rx; exact SeqAt.EqAt.bool_int a b t
    | str b => obtain ⟨t, rfl⟩ := rx; exact SeqAt.EqAt.bool_str a b t
    | _ => exact absurd (show false = true from fx) Bool.false_ne_true
  | int a =>
    obtain ⟨t', rfl⟩ := ry
    cases x with
    | non => cases rx; exact SeqAt.EqAt.int_none a t'
    | bl b => cases rx; exact SeqAt.EqAt.int_bool a t' b
    | int b => obtain ⟨t, rfl⟩ := rx; exact SeqAt.EqAt.int_int a t' b t
    | str b => obtain ⟨t, rfl⟩ := rx; exact SeqAt.EqAt.int_str a t' b t
    | _ => exact absurd (show false = true from fx) Bool.false_ne_true
  | str a =>
    obtain ⟨t', rfl⟩ := ry
    cases x with
    | non => cases rx; exact SeqAt.EqAt.str_none a t'
    | bl b => cases rx; exact SeqAt.EqAt.str_bool a t' b
    | int b => obtain ⟨t, rfl⟩ := rx; exact SeqAt.EqAt.str_int a t' b t
    | str b => obtain ⟨t, rfl⟩ := rx; exact SeqAt.EqAt.str_str a t' b t
    | _ => exact absurd (show false = true from fx) Bool.false_ne_true
  | _ => exact absurd (show false = true from fy) Bool.false_ne_true
/-- the items' answers, read off the values (a value's own answer does not lean on its token) -/
def eqU (x : V) (u : Value) : Bool := match u with
  | .none => eqV .non x
  | .bool b => eqV (.bl b) x
  | .int i _ => eqV (.int i) x
  | .str z _ => eqV (.str z) x
  | _ => false
theorem eqU_of {x y : V} {u : Value} (r : RelV y u) (f : flatV y = true) : eqU x u = eqV y x := by
  cases y with
  | non => cases r; rfl
  | bl b => cases r; rfl
  | int i => obtain ⟨t, rfl⟩ := r; rfl
  | str z => obtain ⟨t, rfl⟩ := r; rfl
  | _ => exact absurd (show false = true from f) Bool.false_ne_true
theorem any_eqU {x : V} : ∀ {xs : List V} {us : List Value}, Vals xs us → xs.all flatV = true → us.any (eqU x) = xs.any fun y => eqV y x
  | _, _, .nil, _ => rfl
  | y :: xs, u :: us, .cons r t, f => by
    rw [List.all_cons, Bool.and_eq_true] at f
    rw [List.any_cons, List.any_cons, eqU_of r f.1, any_eqU t f.2]
theorem mem_eqAt {A : Around} {s : Shared} {x : V} {v : Value} (rx : RelV x v) (fx : flatV x = true) : ∀ {xs : List V} {us : List Value}, Vals xs us → xs.all flatV = true → ∀ u ∈ us, SeqAt.EqAt A s u v (eqU x u)
  | _, _, .nil, _ => fun u hu => by cases hu
  | y :: xs, u :: us, .cons r t, f => fun u' hu => by
    rw [List.all_cons, Bool.and_eq_true] at f
    rcases List.mem_cons.mp hu with rfl | hu
    · rw [eqU_of r f.1]; exact eqAt_V r rx f.1 fx
    · exact mem_eqAt rx fx t f.2 u' hu
def inV (x : V) (xs : List V) : Bool := xs.any fun y => eqV y x
/-- x in a list or tuple of flat items -/
def rIn (K : PySem.W.Frag) (neg : Bool) : R2 := fun x y H Q => ∃ p xs, y = .ref p ∧ (SqL K H p xs ∨ SqT K H p xs) ∧ flatV x = true ∧ xs.all flatV = true ∧ Q (.bl (if neg then !inV x xs else inV x xs)) H
theorem op_in_seq : OpR X (compareOp .In) (rIn X.K false) := by
  intro pins s σ H x y v u Q I rx ry h
  obtain ⟨p, xs, rfl, hq, fx, fs, q⟩ := h
  cases ry
  rcases hq with hq | hq
  · obtain ⟨its, r, pl, hz⟩ := I.list hq
    refine SeqAt.in_listAt (eqU x) pl.isList (fun w hw => mem_eqAt rx fx r fs w (by simpa using hw)) ⟨.bl _, H, I, rfl, ?_⟩
    rw [show its.toArray.any (eqU x) = its.any (eqU x) by simp, any_eqU r fs]
    exact q
  · obtain ⟨its, r, pl, hz⟩ := I.tuple hq
    refine SeqAt.in_tupleAt (eqU x) pl (fun w hw => mem_eqAt rx fx r fs w (by simpa using hw)) ⟨.bl _, H, I, rfl, ?_⟩
    rw [show its.toArray.any (eqU x) = its.any (eqU x) by simp, any_eqU r fs]
    exact q
theorem op_notIn_seq : OpR X (compareOp .NotIn) (rIn X.K true) := by
  intro pins s σ H x y v u Q I rx ry h
  obtain ⟨p, xs, rfl, hq, fx, fs, q⟩ := h
  cases ry
  rcases hq with hq | hq
  · obtain ⟨its, r, pl, hz⟩ := I.list hq
    refine SeqAt.notIn_listAt (eqU x) pl.isList (fun w hw => mem_eqAt rx fx r fs w (by simpa using hw)) ⟨.bl _, H, I, rfl, ?_⟩
    rw [show its.toArray.any (eqU x) = its.any (eqU x) by simp, any_eqU r fs]
    exact q
  · obtain ⟨its, r, pl, hz⟩ := I.tuple hq
    refine SeqAt.notIn_tupleAt (eqU x) pl (fun w hw => mem_eqAt rx fx r fs w (by simpa using hw)) ⟨.bl _, H, I, rfl, ?_⟩
    rw [show its.toArray.any (eqU x) = its.any (eqU x) by simp, any_eqU r fs]
    exact q
theorem op_notIn_str : OpR X (compareOp .NotIn) (fun x y H Q => ∃ i j, x = .str i ∧ y = .str j ∧ Q (.bl (!(!(Builtin.Str.occurrences j i 0 j.length 1).isEmpty))) H) := by
  intro pins s σ H x y v u Q I rx ry h
  obtain ⟨i, j, rfl, rfl, q⟩ := h
  obtain ⟨t, rfl⟩ := rx
  obtain ⟨t', rfl⟩ := ry
  exact notIn_str ⟨.bl _, H, I, rfl, q⟩

/-! ### len, list(x), tuple(x) of any list or tuple that is read -/
theorem call_len_seq : CallR X (.builtin "len") (fun xs H Q => ∃ p ys, xs = [.ref p] ∧ (SqL X.K H p ys ∨ SqT X.K H p ys) ∧ Q (.int ys.length) H) := by
  intro pins s σ H xs us Q I r h
  obtain ⟨p, ys, rfl, hq, q⟩ := h
  obtain ⟨u, rfl, rx⟩ := vals1 r
  cases rx
  have hn := line63
  rcases hq with hq | hq
  · obtain ⟨its, r', pl, hz⟩ := I.list hq
    have hlen := r'.length
    exact Calls.call_len_list pl.isList (by simp only [List.size_toArray] <;> omega) ⟨.int ys.length, H, I.tok _, ⟨s.toks + 1, by rw [List.size_toArray, hlen]⟩, q⟩
  · obtain ⟨its, r', pl, hz⟩ := I.tuple hq
    have hlen := r'.length
    exact len_tuple pl (by simp only [List.size_toArray] <;> omega) ⟨.int ys.length, H, I.tok _, ⟨s.toks + 1, by rw [List.size_toArray, hlen]⟩, q⟩
theorem call_len_str : CallR X (.builtin "len") (fun xs H Q => ∃ z, xs = [.str z] ∧ z.length ≤ sizeLine ∧ Q (.int z.length) H) := by
  intro pins s σ H xs us Q I r h
  obtain ⟨z, rfl, hz, q⟩ := h
  obtain ⟨u, rfl, t, rfl⟩ := vals1 r
  have hn := line63
  exact len_str (by omega) ⟨.int z.length, H, I.tok _, ⟨_, rfl⟩, q⟩
theorem CallR.or {f : Value} {r r' : List V → Hp → VK → Prop} (h : CallR X f r) (h' : CallR X f r') : CallR X f (fun xs H Q => r xs H Q ∨ r' xs H Q) := by
  intro pins s σ H xs us Q I rs q
  rcases q with q | q
  · exact h pins s σ H xs us Q I rs q
  · exact h' pins s σ H xs us Q I rs q
theorem call_list_of : CallR X (.type "list") (fun xs H Q => ∃ p ys, xs = [.ref p] ∧ (SqL X.K H p ys ∨ SqT X.K H p ys) ∧ ∀ l, H l = none → Q (.ref l) (upd H l (.lst ys))) := by
  intro pins s σ H xs us Q I r h
  obtain ⟨p, ys, rfl, hq, q⟩ := h
  obtain ⟨u, rfl, rx⟩ := vals1 r
  cases rx
  have fin : ∀ (its : List Value), Vals ys its → ys.length ≤ sizeLine → ∀ (h' : Heap) (c' : Nat), (∀ b o', s.heap.get? b = some o' → h'.get? b = some o') →
      h'.get? s.heap.objs.size = some { cls := .type "list", dict := none, data := .seq its.toArray c', slots := #[] } → EP X pins σ Q (.ref s.heap.objs.size) { s with heap := h' } := fun its r' hz h' c' kp e =>
    ⟨.ref s.heap.objs.size, _, I.laid (t' := s.toks) kp (Nat.le_refl _) (show ObjOk X.prog X.w _ h' _ (.lst ys) from ⟨hz, its, c', r', e⟩), rfl, q _ (I.hok.fresh (Nat.le_refl _))⟩
  rcases hq with hq | hq
  · obtain ⟨its, r', pl, hz⟩ := I.list hq
    have hlen := r'.length
    obtain ⟨o, ho, hc, n, hd⟩ := pl.isList
    exact call_list_seq p (.inl rfl) ho hc hd (fun h' c' kp e => fin its r' hz h' c' kp e) (by simp only [List.size_toArray] <;> omega)
  · obtain ⟨its, r', pl, hz⟩ := I.tuple hq
    have hlen := r'.length
    obtain ⟨o, ho, hc, n, hd⟩ := pl
    exact call_list_seq p (.inr rfl) ho hc hd (fun h' c' kp e => fin its r' hz h' c' kp e) (by simp only [List.size_toArray] <;> omega)
theorem call_tuple_of : CallR X (.type "tuple") (fun xs H Q => ∃ p ys, xs = [.ref p] ∧ ((SqL X.K H p ys ∧ ∀ l, H l = none → Q (.ref l) (upd H l (.tup ys))) ∨ (SqT X.K H p ys ∧ Q (.ref p) H))) := by
  intro pins s σ H xs us Q I r h
  obtain ⟨p, ys, rfl, h⟩ := h
  obtain ⟨u, rfl, rx⟩ := vals1 r
  cases rx
  rcases h with ⟨hq, q⟩ | ⟨hq, q⟩
  · obtain ⟨its, r', pl, hz⟩ := I.list hq
    have hlen := r'.length
    refine call_tuple_list pl.isList (fun h' kp => ?_) (by simp only [List.size_toArray] <;> omega)
    have I1 : Inv X pins σ H { s with heap := h' } := I.kept (t' := s.toks) kp
    have I2 : Inv X pins σ (upd H h'.objs.size (.tup ys)) { s with heap := h'.push { cls := .type "tuple", data := .seq its.toArray } } :=
      I1.laid (t' := s.toks) (fun b o e => Heap.get?_push_of_some _ e) (Nat.le_refl _) (show ObjOk X.prog X.w _ _ _ (.tup ys) from ⟨hz, its, r', IsTup.new _ _⟩)
    exact ⟨.ref h'.objs.size, _, I2, rfl, q _ (I1.hok.fresh (Nat.le_refl _))⟩
  · obtain ⟨its, r', pl, hz⟩ := I.tuple hq
    exact call_tuple_same pl ⟨.ref p, H, I, rfl, q⟩

/-! ### the call of a builtin's method: o.m(..) -/
/-- the value is of that builtin type -/
def tyV (K : PySem.W.Frag) (T : String) (x : V) (H : Hp) : Prop := match x with
  | .str _ => T = "str"
  | .int _ => T = "int"
  | .ref p => (T = "list" ∧ ∃ xs, SqL K H p xs) ∨ (T = "tuple" ∧ ∃ o, K.lookup p = some o ∧ o.cls = .type "tuple" ∧ o.dict = none) ∨
      (T = "dict" ∧ ((∃ kvs, H p = some (.dK kvs)) ∨ ∃ kvs, H p = some (.dT kvs))) ∨ (T = "set" ∧ ∃ S n, H p = some (.set S n))
  | _ => False
theorem tyV_is {pins : List (Addr × Obj)} {σ : St} {H : Hp} {s : Shared} {T : String} {x : V} {v : Value} (I : Inv X pins σ H s) (r : RelV x v) (ty : tyV X.K T x H) :
    s.TypeIs v T ∧ ∀ a, v = .ref a → ∃ ob, s.heap.get? a = some ob ∧ ob.dict = none := by
  cases x with
  | str z =>
    obtain ⟨t, rfl⟩ := r
    cases (show T = "str" from ty)
    exact ⟨typeIs_str s z t, fun _ e => nomatch e⟩
  | int i =>
    obtain ⟨t, rfl⟩ := r
    cases (show T = "int" from ty)
    exact ⟨typeIs_int s i t, fun _ e => nomatch e⟩
  | ref p =>
    cases r
    rcases ty with ⟨rfl, xs, hq⟩ | ⟨rfl, o, hk, hc, hd⟩ | ⟨rfl, hk⟩ | ⟨rfl, S, n, hk⟩
    · obtain ⟨its, _, pl, _⟩ := I.list hq
      refine ⟨pl.isList.typeIs, fun a e => ?_⟩
      cases e
      obtain ⟨o, n, e, c, hd, _⟩ := pl
      exact ⟨o, e, hd⟩
    · refine ⟨⟨o, I.kIn p o hk, hc⟩, fun a e => ?_⟩
      cases e
      exact ⟨o, I.kIn _ o hk, hd⟩
    · have z : ∃ o, s.heap.get? p = some o ∧ o.ExactDict := by
        rcases hk with ⟨kvs, hk⟩ | ⟨kvs, hk⟩
        · obtain ⟨_, _, _, _, o, _, _, e, ex, _⟩ := I.hok p _ hk
          exact ⟨o, e, ex⟩
        · obtain ⟨_, _, _, _, o, _, _, e, ex, _⟩ := I.hok p _ hk
          exact ⟨o, e, ex⟩
      obtain ⟨o, e, ex⟩ := z
      refine ⟨⟨o, e, ex.1⟩, fun a e2 => ?_⟩
      cases e2
      exact ⟨o, e, ex.2.1⟩
    · obtain ⟨o, _, _, _, e, ex, _⟩ := I.hok p _ hk
      refine ⟨⟨o, e, ex.1⟩, fun a e2 => ?_⟩
      cases e2
      exact ⟨o, e, ex.2.1⟩
  | _ => exact False.elim ty
def tBM0 (K : PySem.W.Frag) (T : String) (r : V → List V → Hp → VK → Prop) (to : TE) : TE := fun σ H Q => to σ H fun x H1 => tyV K T x H1 ∧ r x [] H1 Q
def tBM (K : PySem.W.Frag) (T : String) (r : V → List V → Hp → VK → Prop) (to : TE) (t : TA) : TE := fun σ H Q => to σ H fun x H1 => tyV K T x H1 ∧ t σ H1 fun xs H2 => r x xs H2 Q
variable {o e : Expr} {es : List Expr} {to : TE} {t : TA} {name : Str} {apos cpos : Pos} {T id : String} {r : V → List V → Hp → VK → Prop}
theorem pe_bm0 (pa : PlainAttrs T) (slot : Slot T name id) (hty : typeOf (.builtin id) = pure (.type "method_descriptor")) (hm : MtR X id r) (ho : PE X o to)
    (hbase : attributeBase o name X.env (eval o X.env) = eval o X.env := by rfl) (hline : (apos.endLine == cpos.line) = true := by rfl) : PE X (.Call (.Attribute o name apos) [] [] cpos) (tBM0 X.K T r to) := by
  intro pins s σ H Q I h
  refine wpAny_Call_method0_late hbase hline (thn (ho pins s σ H _ I h) fun v s1 ⟨x, H1, I1, r1, ty, q1⟩ => ?_)
  obtain ⟨h1, h2⟩ := tyV_is I1 r1 ty
  exact ⟨T, id, pa, slot, hty, h1, h2, Calls.callWith_builtin rfl (PySem.evalArgs_none (hm pins s1 σ H1 x [] v [] Q I1 r1 .nil q1))⟩
theorem pe_bm (pa : PlainAttrs T) (slot : Slot T name id) (hty : typeOf (.builtin id) = pure (.type "method_descriptor")) (hm : MtR X id r) (ho : PE X o to) (ha : PA X (e :: es) t)
    (hbase : attributeBase o name X.env (eval o X.env) = eval o X.env := by rfl)
    (hfew : ((backTo cpos (starEach (e :: es) X.env)).all (fun x => !x.1) && (backToKw cpos (keywordEach [] X.env)).all (fun x => x.1.isSome)
      && decide ((e :: es).length + ([] : List Keyword).length + (if ([] : List Keyword).isEmpty then 0 else 1) < 30)) = true := by rfl)
    (hline : (apos.endLine == cpos.line) = true := by rfl) (hs : starEach (e :: es) X.env = (false, eval e X.env) :: starEach es X.env := by rfl) (hplain : (backTo cpos (starEach es X.env)).any (·.1) = false := by rfl) :
    PE X (.Call (.Attribute o name apos) (e :: es) [] cpos) (tBM X.K T r to t) := by
  intro pins s σ H Q I h
  refine wpAny_Call_method_late hbase hfew hline rfl (thn (ho pins s σ H _ I h) fun v s1 ⟨x, H1, I1, r1, ty, q1⟩ => ?_)
  obtain ⟨h1, h2⟩ := tyV_is I1 r1 ty
  refine ⟨T, id, pa, slot, hty, h1, h2, ?_⟩
  have hA := ha cpos pins s1 σ H1 _ I1 q1
  rw [hs] at hA ⊢
  refine Calls.callWith_builtin (by show (false || (backTo cpos (starEach es X.env)).any (·.1)) = false; rw [hplain] <;> rfl) (Calls.evalArgs_plain ?_)
  exact thn hA fun us s2 ⟨vs, H2, I2, r2, q2⟩ => hm pins s2 σ H2 x vs v us Q I2 r1 r2 q2
/- xs.append(e), list.index on a module's tuple .. are MtR facts of 06m -/
end
end L2

namespace L2
open PySem PySem.Spec PyProof.Rows

def MtM (X : Cx) (id : String) (r : V → List V → Hp → VK → Prop) : Prop :=
  ∀ (pins : List (Addr × Obj)) (s : Shared) (σ : St) (H : Hp) (x : V) (xs : List V) (v : Value) (us : List Value) (Q : VK), Inv X pins σ H s → RelV x v → Vals xs us → r x xs H Q →
    wpAny (model X.prog X.w) X.A (call (.builtin id) (v :: us)) (EP X pins σ Q) X.xe s

/-! ### lists of values -/
theorem Vals.one : ∀ {x : V} {us : List Value}, Vals [x] us → ∃ u, us = [u] ∧ RelV x u
  | _, _, .cons r .nil => ⟨_, rfl, r⟩
theorem Vals.two : ∀ {x y : V} {us : List Value}, Vals [x, y] us → ∃ u v, us = [u, v] ∧ RelV x u ∧ RelV y v
  | _, _, _, .cons r (.cons q .nil) => ⟨_, _, rfl, r, q⟩
theorem Vals.zero : ∀ {us : List Value}, Vals [] us → us = []
  | _, .nil => rfl
theorem Vals.dropLast {xs : List V} {us : List Value} (h : Vals xs us) : Vals xs.dropLast us.dropLast := by
  induction h with
  | nil => exact .nil
  | cons r t ih =>
    cases t with
    | nil => exact .nil
    | cons q t' => exact .cons r ih
theorem Vals.eraseIdx : ∀ {xs : List V} {us : List Value} (i : Nat), Vals xs us → Vals (xs.eraseIdx i) (us.eraseIdx i)
  | _, _, _, .nil => .nil
  | _, _, 0, .cons _ t => t
  | _, _, i + 1, .cons r t => .cons r (Vals.eraseIdx i t)
theorem Vals.reverse {xs : List V} {us : List Value} (h : Vals xs us) : Vals xs.reverse us.reverse := by
  induction h with
  | nil => exact .nil
  | cons r t ih => rw [List.reverse_cons, List.reverse_cons]; exact Vals.append ih (.cons r .nil)
theorem Vals.rep {xs : List V} {us : List Value} (h : Vals xs us) : ∀ k : Nat, Vals (List.replicate k xs).flatten (List.replicate k us).flatten
  | 0 => .nil
  | k + 1 => by
    rw [List.replicate_succ, List.replicate_succ, List.flatten_cons, List.flatten_cons]
    exact Vals.append h (Vals.rep h k)
theorem erase_last {α : Type} (l : List α) : l.eraseIdx (l.length - 1) = l.dropLast := by
  induction l with
  | nil => rfl
  | cons a r ih =>
    cases r with
    | nil => rfl
    | cons b r =>
      have e : (a :: b :: r).length - 1 = ((b :: r).length - 1) + 1 := by
        have h1 : (a :: b :: r).length = r.length + 2 := rfl
        have h2 : (b :: r).length = r.length + 1 := rfl
        omega
      rw [e, List.eraseIdx_cons_succ, ih]
      all_goals rfl
theorem len_erase {α : Type} : ∀ (l : List α) (i : Nat), (l.eraseIdx i).length ≤ l.length
  | [], _ => Nat.le_refl _
  | _ :: _, 0 => Nat.le_succ _
  | _ :: r, i + 1 => Nat.succ_le_succ (len_erase r i)
theorem foldl_rep (its : List Value) : ∀ (k : Nat) (acc : List Value),
    List.foldl (fun x1 x2 => x1 ++ x2) acc.toArray (List.replicate k its.toArray) = (acc ++ (List.replicate k its).flatten).toArray
  | 0, acc => by simp
  | k + 1, acc => by
    have e : acc.toArray ++ its.toArray = (acc ++ its).toArray := by simp
    have e2 : (acc ++ its) ++ (List.replicate k its).flatten = acc ++ (List.replicate (k + 1) its).flatten := by
      rw [List.replicate_succ, List.flatten_cons, List.append_assoc]
    rw [← e2, ← foldl_rep its k (acc ++ its), ← e, List.replicate_succ, List.foldl_cons]

section
variable {X : Cx} {pins : List (Addr × Obj)} {σ : St} {H : Hp} {s : Shared} {l b : Addr} {xs ys zs : List V}

/-! ### the two steps: a tracked list is rewritten, a new list is laid -/
theorem Inv.lset {its its' : List Value} {n : Nat} {f : Array Value → Array Value} {t' : Nat} (I : Inv X pins σ H s) (hH : H l = some (.lst xs))
    (e : s.heap.get? l = some { cls := .type "list", data := .seq its.toArray n }) (hf : f its.toArray = its'.toArray) (hv : Vals ys its') (hz : ys.length ≤ sizeLine) :
    Inv X pins σ (upd H l (.lst ys)) { s with heap := s.heap.update l (Obj.mapSeq f), toks := t' } := by
  have q := PySem.IsL.update e f
  rw [hf] at q
  refine I.write (x := l) (e := l) (by rw [hH]; exact trivial) (.inl rfl) (fun b' u hb hu => (Heap.get?_update_other s.heap (Obj.mapSeq f) (Ne.symm hb)).trans hu) ⟨_, q⟩ ?_
  exact ⟨hz, its', _, hv, q⟩
theorem Inv.lnew {its : List Value} {t' : Nat} (I : Inv X pins σ H s) (hv : Vals ys its) (hz : ys.length ≤ sizeLine) :
    Inv X pins σ (upd H s.heap.objs.size (.lst ys)) { s with heap := s.heap.push { cls := .type "list", data := .seq its.toArray }, toks := t' } :=
  I.laid (fun _ _ q => Heap.get?_push_of_some _ q) (Nat.le_refl _) ⟨hz, its, 0, hv, Heap.get?_push_size _ rfl⟩
theorem Inv.fresh (I : Inv X pins σ H s) : H s.heap.objs.size = none := I.hok.fresh (Nat.le_refl _)
theorem Inv.lstM (I : Inv X pins σ H s) (hH : H l = some (.lst xs)) : xs.length ≤ sizeLine ∧ ∃ (its : List Value) (n : Nat), Vals xs its ∧ xs.length = its.length ∧ s.heap.get? l = some { cls := .type "list", data := .seq its.toArray n } := by
  obtain ⟨z, its, n, r, e⟩ := I.hok l _ hH
  exact ⟨z, its, n, r, r.length, e⟩

theorem notLongL {n : Nat} (h : n ≤ sizeLine) : Builtin.List.listTooLong n = false := by
  unfold Builtin.List.listTooLong
  exact decide_eq_false (by omega)
end

section
variable {X : Cx}

/-! ### methods -/
def rAppend : V → List V → Hp → VK → Prop := fun x vs H Q => ∃ l xs y, x = .ref l ∧ vs = [y] ∧ H l = some (.lst xs) ∧ xs.length < sizeLine ∧ Q .non (upd H l (.lst (xs ++ [y])))
theorem mt_append : MtM X "list.append" rAppend := by
  intro pins s σ H x vs v us Q I rx rv h
  obtain ⟨l, xs, y, rfl, rfl, hH, hz, q⟩ := h
  cases rx
  obtain ⟨u, rfl, ru⟩ := rv.one
  obtain ⟨z, its, n, r, hl, e⟩ := I.lstM hH
  refine call_meets F.slot_list_append ⟨_, e, rfl⟩ F.entry_list_append (F.args_list_append_2 _ _) (PySem.list_append l its.toArray n u (by rw [List.size_toArray]; omega)) ⟨e, ?_⟩
  refine ⟨.non, _, I.lset (its' := its ++ [u]) hH e (by simp) (r.append (.cons ru .nil)) ?_, rfl, q⟩
  rw [List.length_append, List.length_singleton]
  omega

def rExtend : V → List V → Hp → VK → Prop := fun x vs H Q => ∃ l b xs zs, x = .ref l ∧ vs = [.ref b] ∧ H l = some (.lst xs) ∧ H b = some (.lst zs) ∧ xs.length + zs.length ≤ sizeLine ∧ Q .non (upd H l (.lst (xs ++ zs)))
theorem mt_extend : MtM X "list.extend" rExtend := by
  intro pins s σ H x vs v us Q I rx rv h
  obtain ⟨l, b, xs, zs, rfl, rfl, hH, hB, hz, q⟩ := h
  cases rx
  obtain ⟨u, rfl, ru⟩ := rv.one
  cases ru
  obtain ⟨z, its, n, r, hl, e⟩ := I.lstM hH
  obtain ⟨z2, its2, n2, r2, hl2, e2⟩ := I.lstM hB
  have hsz : its.toArray.size + its2.toArray.size ≤ sizeLine := by rw [List.size_toArray, List.size_toArray]; omega
  have hlong : ¬ (!its.toArray.isEmpty && Builtin.List.listTooLong (its.toArray.size + its2.toArray.size)) = true := by
    rw [notLongL hsz, Bool.and_false]
    exact Bool.false_ne_true
  refine call_meets F.slot_list_extend ⟨_, e, rfl⟩ F.entry_list_extend (F.args_list_extend_2 _ _)
    (AutoSeq1.list_extend_list_list_0 l its.toArray n b its2.toArray n2 hlong (by rw [List.size_toArray]; omega) (by omega)) ⟨e, e2, ?_⟩
  refine ⟨.non, _, I.lset (its' := its ++ its2) hH e (by simp) (r.append r2) ?_, rfl, q⟩
  rw [List.length_append]
  omega

def rPop : V → List V → Hp → VK → Prop := fun x vs H Q => ∃ l xs y, x = .ref l ∧ vs = [] ∧ H l = some (.lst xs) ∧ xs[xs.length - 1]? = some y ∧ Q y (upd H l (.lst xs.dropLast))
theorem mt_pop : MtM X "list.pop" rPop := by
  intro pins s σ H x vs v us Q I rx rv h
  obtain ⟨l, xs, y, rfl, rfl, hH, hy, q⟩ := h
  cases rx
  have hus := rv.zero
  subst hus
  obtain ⟨z, its, n, r, hl, e⟩ := I.lstM hH
  obtain ⟨u, hu, ru⟩ := r.get hy
  have hy' : its.toArray[its.toArray.size - 1]? = some u := by
    show its.toArray[its.length - 1]? = some u
    rw [← Array.getElem?_toList, ← hl]
    exact hu
  refine call_meets F.slot_list_pop ⟨_, e, rfl⟩ F.entry_list_pop (F.args_list_pop_1 _) (MeetsSeq.list_pop_last l its.toArray n u hy' (by rw [List.size_toArray]; omega)) ⟨e, ?_⟩
  refine ⟨y, _, I.lset (its' := its.dropLast) hH e ?_ r.dropLast ?_, ru, q⟩
  · show its.toArray.eraseIdxIfInBounds (its.toArray.size - 1) = its.dropLast.toArray
    rw [List.size_toArray, List.eraseIdxIfInBounds_toArray, erase_last]
  · rw [List.length_dropLast]
    omega

def rPopAt : V → List V → Hp → VK → Prop := fun x vs H Q => ∃ l xs i k y, x = .ref l ∧ vs = [.int i] ∧ H l = some (.lst xs) ∧ -(2 ^ 63) ≤ i ∧ i < 2 ^ 63 ∧ seqIndex? i xs.length = some k ∧ xs[k]? = some y ∧ Q y (upd H l (.lst (xs.eraseIdx k)))
theorem mt_popAt : MtM X "list.pop" rPopAt := by
  intro pins s σ H x vs v us Q I rx rv h
  obtain ⟨l, xs, i, k, y, rfl, rfl, hH, h1, h2, hk, hy, q⟩ := h
  cases rx
  obtain ⟨u, rfl, ru⟩ := rv.one
  obtain ⟨t, rfl⟩ := ru
  obtain ⟨z, its, n, r, hl, e⟩ := I.lstM hH
  obtain ⟨w, hw, rw'⟩ := r.get hy
  refine call_meets F.slot_list_pop ⟨_, e, rfl⟩ F.entry_list_pop (F.args_list_pop_2 _ _)
    (MeetsSeq.list_pop_at l its.toArray n i t k w (fitsIndex_both h1 h2) (by rw [List.size_toArray, ← hl]; exact hk) (by rw [← Array.getElem?_toList]; exact hw) (by rw [List.size_toArray]; omega)) ⟨e, ?_⟩
  refine ⟨y, _, I.lset (its' := its.eraseIdx k) hH e ?_ (r.eraseIdx k) ?_, rw', q⟩
  · show its.toArray.eraseIdxIfInBounds k = (its.eraseIdx k).toArray
    rw [List.eraseIdxIfInBounds_toArray]
  · have := len_erase xs k
    omega

def rReverse : V → List V → Hp → VK → Prop := fun x vs H Q => ∃ l xs, x = .ref l ∧ vs = [] ∧ H l = some (.lst xs) ∧ Q .non (upd H l (.lst xs.reverse))
theorem mt_reverse : MtM X "list.reverse" rReverse := by
  intro pins s σ H x vs v us Q I rx rv h
  obtain ⟨l, xs, rfl, rfl, hH, q⟩ := h
  cases rx
  have hus := rv.zero
  subst hus
  obtain ⟨z, its, n, r, hl, e⟩ := I.lstM hH
  refine call_meets F.slot_list_reverse ⟨_, e, rfl⟩ F.entry_list_reverse (F.args_list_reverse_1 _) (AutoSeq1.list_reverse_list_0 l its.toArray n (by rw [List.size_toArray]; omega)) ⟨e, ?_⟩
  refine ⟨.non, _, I.lset (its' := its.reverse) hH e (by simp) r.reverse ?_, rfl, q⟩
  rw [List.length_reverse]
  omega

def rClear : V → List V → Hp → VK → Prop := fun x vs H Q => ∃ l xs, x = .ref l ∧ vs = [] ∧ H l = some (.lst xs) ∧ Q .non (upd H l (.lst []))
theorem mt_clear : MtM X "list.clear" rClear := by
  intro pins s σ H x vs v us Q I rx rv h
  obtain ⟨l, xs, rfl, rfl, hH, q⟩ := h
  cases rx
  have hus := rv.zero
  subst hus
  obtain ⟨z, its, n, r, hl, e⟩ := I.lstM hH
  refine call_meets F.slot_list_clear ⟨_, e, rfl⟩ F.entry_list_clear (F.args_list_clear_1 _) (AutoSeq1.list_clear_list_0 l its.toArray n (by rw [List.size_toArray]; omega)) ⟨e, ?_⟩
  exact ⟨.non, _, I.lset (its' := []) (ys := []) hH e rfl .nil (Nat.zero_le _), rfl, q⟩

/-! ### list + list, list += list, list * int -/
def rCat : R2 := fun x y H Q => ∃ l b xs zs, x = .ref l ∧ y = .ref b ∧ H l = some (.lst xs) ∧ H b = some (.lst zs) ∧ xs.length + zs.length ≤ sizeLine ∧ ∀ p, H p = none → Q (.ref p) (upd H p (.lst (xs ++ zs)))
theorem op_cat : OpR X (binaryOp .Add) rCat := by
  intro pins s σ H x y v u Q I rx ry h
  obtain ⟨l, b, xs, zs, rfl, rfl, hH, hB, hz, q⟩ := h
  cases rx
  cases ry
  obtain ⟨z, its, n, r, hl, e⟩ := I.lstM hH
  obtain ⟨z2, its2, n2, r2, hl2, e2⟩ := I.lstM hB
  refine PySem.P.add_list e e2 ?_ (by rw [List.size_toArray, List.size_toArray]; omega)
  have ea : its.toArray ++ its2.toArray = (its ++ its2).toArray := by simp
  rw [ea]
  exact ⟨.ref _, _, I.lnew (t' := s.toks) (r.append r2) (by rw [List.length_append]; omega), rfl, q _ I.fresh⟩
/-- a list times an int (a negative one is nothing) -/
def rRep : R2 := fun x y H Q => ∃ l k xs, x = .ref l ∧ y = .int k ∧ H l = some (.lst xs) ∧ -(2 ^ 63) ≤ k ∧ k < 2 ^ 63 ∧ xs.length * k.toNat ≤ sizeLine ∧
  ∀ p, H p = none → Q (.ref p) (upd H p (.lst (List.replicate k.toNat xs).flatten))
theorem len_rep {α : Type} (xs : List α) (k : Nat) : (List.replicate k xs).flatten.length = k * xs.length := by
  induction k with
  | zero => simp
  | succ k ih => rw [List.replicate_succ, List.flatten_cons, List.length_append, ih, Nat.succ_mul, Nat.add_comm]
theorem op_rep : OpR X (binaryOp .Mult) rRep := by
  intro pins s σ H x y v u Q I rx ry h
  obtain ⟨l, k, xs, rfl, rfl, hH, h1, h2, hz, q⟩ := h
  cases rx
  obtain ⟨t, rfl⟩ := ry
  obtain ⟨z, its, n, r, hl, e⟩ := I.lstM hH
  have hlen : its.toArray.size * k.toNat ≤ sizeLine := by rw [List.size_toArray, ← hl]; exact hz
  have hcap : ¬ its.toArray.size * k.toNat > (2 ^ 63 - 1) / 8 := by
    have : (sizeLine : Nat) ≤ (2 ^ 63 - 1) / 8 := by decide
    omega
  have hfit : ¬ (!Builtin.List.listFitsIndex k) = true := by
    rw [fitsIndex_both h1 h2]
    exact Bool.false_ne_true
  have hlong : ¬ Builtin.List.listTooLong (its.toArray.size * k.toNat) = true := by
    rw [notLongL hlen]
    exact Bool.false_ne_true
  have hnew : List.foldl (fun x1 x2 => x1 ++ x2) #[] (List.replicate (if its.toArray.isEmpty = true then 0 else k.toNat) its.toArray) = (List.replicate k.toNat its).flatten.toArray := by
    have f0 : ∀ m : Nat, List.foldl (fun x1 x2 => x1 ++ x2) #[] (List.replicate m its.toArray) = (List.replicate m its).flatten.toArray := fun m => by
      have := foldl_rep its m []
      rw [List.nil_append] at this
      exact this
    rw [f0]
    cases its with
    | nil => simp
    | cons a r' => rw [if_neg (by simp)]
  refine wpAny_binaryOp_repeat_ref (T := "list") (U := "int") (by decide) ⟨_, e, rfl⟩ (fun s' => typeIs_int s' k t) noFill_list_mul F.fills_int_mul F.slot_int_rmul repeat_list F.slot_int_index.lookup
    (call_meets F.slot_int_rmul (typeIs_int s k t) F.entry_int_rmul (F.args_int_rmul_2 _ _) (int___rmul___int_list k t l its.toArray n)
      ⟨e, rfl, ⟨_, e, rfl⟩, call_meets F.slot_list_mul ⟨_, e, rfl⟩ F.entry_list_mul (F.args_list_mul_2 _ _) (AutoListH.list___mul___list_int_3 l its.toArray n k t hfit hcap hlong) ⟨e, ?_⟩⟩)
  rw [hnew]
  exact ⟨.ref _, _, I.lnew (t' := s.toks) (r.rep k.toNat) (by rw [len_rep, Nat.mul_comm]; exact hz), rfl, q _ I.fresh⟩

/-! ### del xs[i] -/
theorem del_list {pins : List (Addr × Obj)} {s : Shared} {σ : St} {H : Hp} {l : Addr} {xs : List V} {i : Int} {t : Tok} {k : Nat} {Q : Unit → Shared → Prop} (I : Inv X pins σ H s) (hH : H l = some (.lst xs))
    (h1 : -(2 ^ 63) ≤ i) (h2 : i < 2 ^ 63) (hk : seqIndex? i xs.length = some k) (h : ∀ s', Inv X pins σ (upd H l (.lst (xs.eraseIdx k))) s' → Q () s') :
    wpAny (model X.prog X.w) X.A (delItem (.ref l) (.int i t)) Q X.xe s := by
  obtain ⟨z, its, n, r, hl, e⟩ := I.lstM hH
  refine PySem.P.delItem_list (k := k) e (fitsIndex_both h1 h2) (by rw [List.size_toArray, ← hl]; exact hk) (h _ ?_) (by rw [List.size_toArray]; omega)
  refine I.lset (its' := its.eraseIdx k) (t' := s.toks) hH e ?_ (r.eraseIdx k) ?_
  · show its.toArray.eraseIdxIfInBounds k = (its.eraseIdx k).toArray
    rw [List.eraseIdxIfInBounds_toArray]
  · have := len_erase xs k
    omega
end

/-! ### xs[a:b] = ys -/
section
variable {prog : Program} {w : World} {A : Around} {E : Value → Shared → Prop} {s : Shared}
theorem splice_eq (its its2 : List Value) (a c : Nat) : its.toArray.extract 0 a ++ its2.toArray ++ its.toArray.extract c its.toArray.size = (its.take a ++ its2 ++ its.drop c).toArray := by
  apply Array.toList_inj.mp
  first
    | (simp
       exact List.take_of_length_le (by simp))
    | simp [List.take_of_length_le]
    | simp
theorem bounds_run {a c n : Nat} (hac : a ≤ c) (hc : c ≤ n) : sliceBounds (some (a : Int)) (some (c : Int)) none n = ((a : Int), (c : Int), 1) := by
  simp only [sliceBounds, Option.getD_none]
  have h1 : ¬ ((a : Int) < 0) := by omega
  have h2 : ¬ ((c : Int) < 0) := by omega
  simp only [h1, h2, if_false, show (1 : Int) > 0 by decide, if_true]
  congr 1
  · omega
  · congr 1; omega
set_option maxRecDepth 100000 in
/-- list.__setitem__ with a slice of step one and another list -/
theorem setItem_slice {l b sl : Addr} {items new : Array Value} {n n2 : Nat} {vl vu : Value} {a c : Nat} {Q : Unit → Shared → Prop}
    (e : s.heap.get? l = some { cls := .type "list", data := .seq items n }) (e2 : s.heap.get? b = some { cls := .type "list", data := .seq new n2 }) (hne : l ≠ b)
    (hs : s.heap.IsSliceOf sl vl vu .none) (pl : IsPart vl (some (a : Int))) (pu : IsPart vu (some (c : Int))) (hac : a ≤ c) (hc : c ≤ items.size)
    (hsz : items.size + new.size ≤ sizeLine) (h : Q () { s with heap := s.heap.update l (Obj.mapSeq fun xs => xs.extract 0 a ++ new ++ xs.extract c xs.size) }) :
    wpAny (model prog w) A (setItem (.ref l) (.ref sl) (.ref b)) Q E s := by
  have hl : s.heap.IsList l items := PySem.IsL.isList e
  have hb : s.heap.IsList b new := PySem.IsL.isList e2
  obtain ⟨os, hos, hcs, hds⟩ := id hs
  have hTs : s.TypeIs (.ref sl) "slice" := ⟨os, hos, hcs⟩
  have hstep : ¬ ((rawPart none == rawInt 0) = true) := Bool.false_ne_true
  have hsame : Builtin.List.listSameRef (.ref l) (.ref b) = false := by
    unfold Builtin.List.listSameRef
    exact beq_eq_false_iff_ne.mpr hne
  have hmax : (max (a : Int) (c : Int)).toNat = c := by omega
  have hz' : ((fun xs : Array Value => xs.extract 0 a ++ new ++ xs.extract c xs.size) items).size ≤ sizeLine + 1 := by
    simp only [Array.size_append, Array.size_extract]
    omega
  unfold setItem
  try with_reducible refine wpAny_holding ?_
  first | refine wpAny_bind (wpAny_pure ?_) | skip
  refine wpAny_bind (wpAny_sequenceKey hl.typeIs (by decide) ?_)
  refine wpAny_bind (wpAny_callSpecial?_slot (name := Str.ofString "__setitem__") hl.typeIs slot_list_setitem
    (wpAny_call_entry slot_list_setitem hl.typeIs entry_list_setitem ?_ (args_list_setitem _ _ _)))
  show wpAny _ _ (Builtin.List.listSubscript? (.ref sl) >>= _) _ _ s
  refine wpAny_bind ?_
  unfold Builtin.List.listSubscript?
  refine wpAny_bind (wpAny_specialOf hTs slice_no_index ?_)
  simp only [Option.isNone_none, if_true]
  refine wpAny_pure ?_
  show wpAny _ _ (typeOf (.ref sl) >>= _) _ _ s
  refine wpAny_bind (wpAny_typeOf hTs ?_)
  first
    | rw [if_neg (by decide)]
    | refine PySem.W.KFB.if_not (by decide) ?_
  rw [listSliceParts_eq]
  refine wpAny_bind (wpAny_bind (wpAny_field hos hds (x := .none) rfl (wpAny_bind (wpAny_listPart .none ?_))))
  rw [if_neg hstep]
  refine wpAny_bind (wpAny_field hos hds (x := vl) rfl (wpAny_bind (wpAny_listPart pl ?_)))
  refine wpAny_bind (wpAny_field hos hds (x := vu) rfl (wpAny_bind (wpAny_listPart pu (wpAny_pure ?_))))
  first
    | simp only [hsame, Bool.false_eq_true, if_false]
    | refine PySem.W.KFB.if_not hsame ?_
    | (dsimp only
       rw [if_neg (by rw [hsame]; exact Bool.false_ne_true)])
  refine wpAny_bind (m := Builtin.List.listAllItems (.ref b) "must assign iterable to extended slice") ?_
  unfold Builtin.List.listAllItems
  refine wpAny_bind (wpAny_typeOf hb.typeIs ?_)
  first
    | refine PySem.W.KFB.if_so (by decide) ?_
    | rw [if_pos (by decide)]
    | simp only [beq_self_eq_true, Bool.true_or, if_true]
  unfold Builtin.List.listItems
  refine wpAny_bind (wpAny_seqItems e2 rfl (wpAny_pure ?_))
  refine wpAny_bind (wpAny_bind (wpAny_seqItems e rfl (wpAny_pure ?_)))
  refine wpAny_bind (wpAny_of_eq ((sliceIndices_raw (some (a : Int)) (some (c : Int)) none items.size (by simp)).trans (congrArg (pure : Int × Int × Int → Sem (Int × Int × Int)) (bounds_run hac hc))) ?_)
  show wpAny _ _ (if ((1 : Int) == 1) = true then _ else _) _ _ s
  rw [if_pos (by decide)]
  refine wpAny_bind (wpAny_rule ?_)
  first
    | simp only [notLongL hsz, Bool.false_eq_true, if_false]
    | refine PySem.W.KFB.if_not (notLongL hsz) ?_
  first | refine wpAny_bind (wpAny_pure ?_) | skip
  show wpAny _ _ (updateSeq l (fun xs => xs.extract 0 ((a : Int)).toNat ++ new ++ xs.extract (max (a : Int) (c : Int)).toNat xs.size) >>= _) _ _ s
  rw [hmax, Int.toNat_natCast]
  refine wpAny_bind (wpAny_updateSeq (hz := Nat.le_trans (Nat.le_add_right _ _) hsz) (_hz' := hz') e rfl ?_)
  refine wpAny_bind (wpAny_letGo ?_)
  first
    | exact wpAny_bind (wpAny_pure (wpAny_pure ⟨.none, rfl, wpAny_pure h⟩))
    | exact wpAny_pure ⟨.none, rfl, wpAny_pure h⟩
end

section
variable {X : Cx}
/-- xs[a:c] = ys of another list, at the value level: sl is the slice object that was just made -/
theorem set_slice {pins : List (Addr × Obj)} {s : Shared} {σ : St} {H : Hp} {l b sl : Addr} {xs ys : List V} {a c : Int} {vl vu : Value} {Q : Unit → Shared → Prop} (I : Inv X pins σ H s)
    (hH : H l = some (.lst xs)) (hB : H b = some (.lst ys)) (hne : l ≠ b) (hs : s.heap.IsSliceOf sl vl vu .none) (ra : RelV (.int a) vl) (rc : RelV (.int c) vu) (h0 : 0 ≤ a) (hac : a ≤ c) (hc : c ≤ xs.length)
    (hz : xs.length + ys.length ≤ sizeLine) (h : ∀ s', Inv X pins σ (upd H l (.lst (xs.take a.toNat ++ ys ++ xs.drop c.toNat))) s' → Q () s') :
    wpAny (model X.prog X.w) X.A (setItem (.ref l) (.ref sl) (.ref b)) Q X.xe s := by
  obtain ⟨ta, rfl⟩ := ra
  obtain ⟨tc, rfl⟩ := rc
  obtain ⟨z, its, n, r, hl, e⟩ := I.lstM hH
  obtain ⟨z2, its2, n2, r2, hl2, e2⟩ := I.lstM hB
  obtain ⟨a', rfl⟩ := Int.eq_ofNat_of_zero_le h0
  obtain ⟨c', rfl⟩ := Int.eq_ofNat_of_zero_le (Int.le_trans h0 hac)
  simp only [Int.toNat_natCast] at h
  refine setItem_slice (a := a') (c := c') e e2 hne hs (.int _ _) (.int _ _) (by omega) (by rw [List.size_toArray]; omega) (by rw [List.size_toArray, List.size_toArray]; omega) (h _ ?_)
  refine I.lset (its' := its.take a' ++ its2 ++ its.drop c') (t' := s.toks) hH e ?_ (Vals.append (Vals.append (r.take _) r2) (r.drop _)) ?_
  · exact splice_eq its its2 a' c'
  · rw [List.length_append, List.length_append, List.length_take, List.length_drop]
    omega
end
end L2

namespace Att
open PySem PySem.W PySem.Calls PyProof.Rows

/-! ### the script -/
theorem ints_of_wellAll {P : Params} {h : Heap} : ∀ (ns : List Int) (vs : List Value), WellAll P h vs (ns.map WData.int) → IntsAre vs ns := by
  intro ns
  induction ns with
  | nil =>
    intro vs w
    rw [List.map_nil] at w
    cases w
    exact .nil
  | cons n ns ih =>
    intro vs w
    rw [List.map_cons] at w
    cases w with
    | cons a b =>
      cases a
      exact .cons _ _ (ih _ b)

theorem script_of {l : OpenLaw} {n : Nat} (hn : l.most = some n) {P : Params} {h : Heap} {args : List WData} {vals : List Value}
    (hpre : l.row.toRowW.claim.pre args = true) (hwl : WellAll P h vals args) :
    ∃ a vs ns, vals = [Value.ref a] ∧ args = [WData.list (ns.map WData.int)] ∧ h.get? a = some { cls := .type "list", data := .seq vs.toArray } ∧ IntsAre vs ns ∧ ns.length ≤ n := by
  have hsh : WShape.hasAll [] args [.list .int] = true := (pre_splitW hpre).1
  have hc : l.pre.holds [] { args := args } = true := (pre_splitW hpre).2
  obtain ⟨d, r, rfl, h1, h2⟩ := hasAllW_cons hsh
  obtain rfl := hasAllW_nil h2
  obtain ⟨xs, rfl, h3⟩ := hasW_list h1
  obtain ⟨ns, rfl⟩ := items_int h3
  have hlen : ns.length ≤ n := by
    unfold OpenLaw.pre at hc
    have h4 : (WTm.not (.lt (.lit (.int (n : Int))) (.len (.arg 0)))).holds [] { args := [.list (ns.map .int)] } = true := by
      have h4 := (holds_andW hc).1
      rw [hn] at h4
      exact h4
    have h5 := condW_of h4 (w_not (w_lt w_lit (w_len_list (w_arg rfl))))
    rw [List.length_map] at h5
    refine Nat.le_of_not_lt fun q => ?_
    have q' : (n : Int) < ((ns.length : Nat) : Int) := by omega
    first
      | (rw [decide_eq_true q'] at h5; exact absurd h5 (by decide))
      | (simp at h5; omega)
  cases hwl with
  | cons w1 w2 =>
    cases w2
    cases w1 with
    | list ho hall => exact ⟨_, _, ns, rfl, rfl, ho, ints_of_wellAll ns _ hall, hlen⟩

theorem post_true (l : OpenLaw) (args : List WData) : l.row.toRowW.claim.post args (.bool true) args = true :=
  postW_of (r := l.row.toRowW) (X := (true == true))
    (show WShape.has [] (.bool true) .bool = true by first | rfl | decide | simp [WShape.has, WShape.arms, WShape.armsAll])
    (show (WTm.eq .res (.lit (.bool true))).value [] { args := args, res := some (.bool true), after := args } = some (.bool (true == true)) from w_eq_bool (w_res rfl) w_lit) rfl

/-! ### the attachment: holds_open's last premise (the goal 'hc' behind k_head) from a wpAny of the law's body -/
theorem attach {l : OpenLaw} {n : Nat} {q : Program} {loose : List Str} {XP : (Str → Option Value) → Heap → Prop} {YP : World → Heap → Prop} {d : DefRec} {x : Str}
    (hn : l.most = some n) (hdf : d.params.defaults = [])
    (hbind : ∀ pm cd doc v : Value, bindArgs (docDef d.name d.params d.body d.scope pm cd doc) ⟨[v], []⟩ = pure [(x, v)])
    (hx : d.scope.names.lookup x = some .local ∨ d.scope.names.lookup x = some .cell)
    (hk : d.scope.kind = .function) (hco : d.scope.isCoroutine = false) (hgen : d.scope.isGenerator = false)
    (body : ∀ (w : World) (s₀ s₁ s : Shared) (mg mb : Str → Option Value) (fa : Addr) (o : Obj) (pm cd doc : Value) (a : Addr) (vs : List Value) (ns : List Int),
      Ground q loose [] XP w s₀ mg mb s₁.heap → YP w s₁.heap →
      s₁.heap.get? fa = some o → o.data = .func (docDef d.name d.params d.body d.scope pm cd doc) → s₁.heap.CodeRec cd d.name → mg d.name = some (.ref fa) →
      s₁.heap.get? a = some { cls := .type "list", data := .seq vs.toArray } → IntsAre vs ns → ns.length ≤ n →
      s.gens = #[] → s.os = s₁.os →
      Fr s₁.heap s₁.heap.objs.size s.heap (bindL (envOfC d.name d.scope s₁.heap.objs.size fa cd).kindOf [(x, .ref a)] fun _ => none) →
      Cl s₁.heap.objs.size (cellsFrom (s₁.heap.objs.size + 1) d.scope.names []) s.heap (bindC (envOfC d.name d.scope s₁.heap.objs.size fa cd).kindOf [(x, .ref a)] fun _ => none) →
      wpAny (model l.prog w) (callerA.deeper (envOfC d.name d.scope s₁.heap.objs.size fa cd)) (execs d.body (envOfC d.name d.scope s₁.heap.objs.size fa cd))
        (fun f s' => f = .ret (.bool true) ∧ OldK s₁.heap s'.heap ∧ s'.os = s₁.os ∧ AllBare s'.gens) (fun _ _ => False) s) :
    WalkO q loose XP YP l.row.toRowW d [] (fun f vs => PySem.call f vs) := by
  intro w s₀ s₁ mg mb G Y fa o pm cd doc dV kV ho hd hcd hD hmg hg args vals as hpre hlay hrd hwl hlo
  obtain rfl : dV = .none := Dflts.none hD hdf
  obtain rfl : kV = .none := Dflts.noKw hD
  obtain ⟨a, vs, ns, rfl, rfl, hobj, hints, hlen⟩ := script_of hn hpre hwl
  refine enter_call ?_
  refine call_cells_ret (o := o) (by rw [depth_caller]; decide) ho (fd_plain hd) G.T.nolimit hcd (hbind pm cd doc (.ref a)) (fun y hy => ?_) (fun h₁ tk F X => ?_) hco hgen hk
  · obtain rfl : y = (x, Value.ref a) := List.mem_singleton.mp hy
    rcases hx with e | e
    · exact .inl e
    · exact .inr ⟨e, cellsFrom_some _ _ _ (.inl e)⟩
  · refine wpAny_mono (body w s₀ s₁ { s₁ with heap := h₁, toks := tk } mg mb fa o pm cd doc a vs ns G Y ho (fd_plain hd) hcd hmg hobj hints hlen hg rfl F X) (fun f s' hq => ?_) (fun _ _ hq => hq)
    obtain ⟨rfl, h2, h3, h4⟩ := hq
    exact ⟨.inl ⟨.bool true, .bool true, [], rfl, fun _ => rfl, .bool true, post_true l _, fun _ => ⟨List.Pairwise.nil, fun _ hm => (nomatch hm)⟩⟩, h2, h3, h4⟩

/-- the same from a codeAny of the CALL (for a layer whose function contracts speak of calls) -/
theorem attach_call {l : OpenLaw} {n : Nat} {q : Program} {loose : List Str} {XP : (Str → Option Value) → Heap → Prop} {YP : World → Heap → Prop} {d : DefRec}
    (hn : l.most = some n) (hdf : d.params.defaults = [])
    (call : ∀ (w : World) (s₀ s₁ : Shared) (mg mb : Str → Option Value) (fa : Addr) (o : Obj) (pm cd doc : Value) (a : Addr) (vs : List Value) (ns : List Int),
      Ground q loose [] XP w s₀ mg mb s₁.heap → YP w s₁.heap →
      s₁.heap.get? fa = some o → o.data = .func (docDef d.name d.params d.body d.scope pm cd doc) → s₁.heap.CodeRec cd d.name → mg d.name = some (.ref fa) →
      s₁.heap.get? a = some { cls := .type "list", data := .seq vs.toArray } → IntsAre vs ns → ns.length ≤ n → s₁.gens = #[] →
      codeAny (model l.prog w) callerA (.call (.ref fa) ⟨[.ref a], []⟩) (fun r s' => r = .ok (.ret (.bool true)) ∧ OldK s₁.heap s'.heap ∧ s'.os = s₁.os ∧ AllBare s'.gens) s₁) :
    WalkO q loose XP YP l.row.toRowW d [] (fun f vs => PySem.call f vs) := by
  intro w s₀ s₁ mg mb G Y fa o pm cd doc dV kV ho hd hcd hD hmg hg args vals as hpre hlay hrd hwl hlo
  obtain rfl : dV = .none := Dflts.none hD hdf
  obtain rfl : kV = .none := Dflts.noKw hD
  obtain ⟨a, vs, ns, rfl, rfl, hobj, hints, hlen⟩ := script_of hn hpre hwl
  refine enter_call (codeAny_mono (call w s₀ s₁ mg mb fa o pm cd doc a vs ns G Y ho (fd_plain hd) hcd hmg hobj hints hlen hg) fun r s' hq => ?_)
  obtain ⟨rfl, h2, h3, h4⟩ := hq
  exact ⟨.inl ⟨.bool true, .bool true, [], rfl, fun _ => rfl, .bool true, post_true l _, fun _ => ⟨List.Pairwise.nil, fun _ hm => (nomatch hm)⟩⟩, h2, h3, h4⟩

/-- the same where the top left finished generators (o_head chose holds_openN): nothing may have changed at all and no generator may be left -/
theorem attachN {l : OpenLaw} {n : Nat} {q : Program} {loose : List Str} {XP : (Str → Option Value) → Heap → Prop} {YP : World → Heap → Prop} {d : DefRec} {x : Str}
    (hn : l.most = some n) (hdf : d.params.defaults = [])
    (hbind : ∀ pm cd doc v : Value, bindArgs (docDef d.name d.params d.body d.scope pm cd doc) ⟨[v], []⟩ = pure [(x, v)])
    (hx : d.scope.names.lookup x = some .local ∨ d.scope.names.lookup x = some .cell)
    (hk : d.scope.kind = .function) (hco : d.scope.isCoroutine = false) (hgen : d.scope.isGenerator = false)
    (body : ∀ (w : World) (s₀ s₁ s : Shared) (mg mb : Str → Option Value) (fa : Addr) (o : Obj) (pm cd doc : Value) (a : Addr) (vs : List Value) (ns : List Int),
      Ground q loose [] XP w s₀ mg mb s₁.heap → YP w s₁.heap →
      s₁.heap.get? fa = some o → o.data = .func (docDef d.name d.params d.body d.scope pm cd doc) → s₁.heap.CodeRec cd d.name → mg d.name = some (.ref fa) →
      s₁.heap.get? a = some { cls := .type "list", data := .seq vs.toArray } → IntsAre vs ns → ns.length ≤ n →
      s.gens = #[] → s.os = s₁.os →
      Fr s₁.heap s₁.heap.objs.size s.heap (bindL (envOfC d.name d.scope s₁.heap.objs.size fa cd).kindOf [(x, .ref a)] fun _ => none) →
      Cl s₁.heap.objs.size (cellsFrom (s₁.heap.objs.size + 1) d.scope.names []) s.heap (bindC (envOfC d.name d.scope s₁.heap.objs.size fa cd).kindOf [(x, .ref a)] fun _ => none) →
      wpAny (model l.prog w) (callerA.deeper (envOfC d.name d.scope s₁.heap.objs.size fa cd)) (execs d.body (envOfC d.name d.scope s₁.heap.objs.size fa cd))
        (fun f s' => f = .ret (.bool true) ∧ (∀ b o, s₁.heap.get? b = some o → s'.heap.get? b = some o) ∧ s'.os = s₁.os ∧ s'.gens = #[]) (fun _ _ => False) s) :
    WalkN q loose XP YP l.row.toRowW d [] (fun f vs => PySem.call f vs) := by
  intro w s₀ s₁ mg mb G Y fa o pm cd doc dV kV ho hd hcd hD hmg hg args vals as hpre hlay hrd hwl hlo
  obtain rfl : dV = .none := Dflts.none hD hdf
  obtain rfl : kV = .none := Dflts.noKw hD
  obtain ⟨a, vs, ns, rfl, rfl, hobj, hints, hlen⟩ := script_of hn hpre hwl
  refine enter_callW ?_
  refine call_cells_ret (o := o) (by rw [depth_caller]; decide) ho (fd_plain hd) G.T.nolimit hcd (hbind pm cd doc (.ref a)) (fun y hy => ?_) (fun h₁ tk F X => ?_) hco hgen hk
  · obtain rfl : y = (x, Value.ref a) := List.mem_singleton.mp hy
    rcases hx with e | e
    · exact .inl e
    · exact .inr ⟨e, cellsFrom_some _ _ _ (.inl e)⟩
  · refine wpAny_mono (body w s₀ s₁ { s₁ with heap := h₁, toks := tk } mg mb fa o pm cd doc a vs ns G Y ho (fd_plain hd) hcd hmg hobj hints hlen hg rfl F X) (fun f s' hq => ?_) (fun _ _ hq => hq)
    obtain ⟨rfl, h2, h3, h4⟩ := hq
    exact ⟨.inl ⟨.bool true, .bool true, [], rfl, fun _ => rfl, .bool true, post_true l _, fun _ => ⟨List.Pairwise.nil, fun _ hm => (nomatch hm)⟩⟩, h2, h3, h4⟩

/-! ### rules over ANY heap (no ledger) from facts about the written part K: the library's own take a ledger (News) for what they write -/
section
variable {prog : Program} {w : World} {A : Around} {E : Value → Shared → Prop} {s : Shared} {K : Frag}

/-- a def of the module, or a method (qual 'C.m'), entered: the frame is the next address; cells behind it -/
theorem call_fn {R : Result → Shared → Prop} {name qual : Str} {params : Arguments} {body : List Stmt} {scope : Scope} {dV kV doc pm cdv ct oc : Value} {an od : Option Addr} {osl : Array (Option Value)} {f : Addr} {args : Args} {binds : List (Str × Value)}
    (X : K.In s.heap) (hlim : s.heap.NoLimit) (ho : K.lookup f = some ⟨oc, od, .func (fnOf name qual params body scope dV kV doc pm an cdv ct), osl⟩) (hcd : codeIn K cdv qual = true) (hroom : A.depth < recursionLimit)
    (hbind : BindsTo s (fnOf name qual params body scope dV kV doc pm an cdv ct) args binds)
    (hkind : (binds.all fun y => scope.names.lookup y.1 == some .local || scope.names.lookup y.1 == some .cell) = true)
    (h : ∀ s₁, InCallC s s.heap.objs.size (bindL (envOfC qual scope s.heap.objs.size f cdv).kindOf binds fun _ => none) (cellsFrom (s.heap.objs.size + 1) scope.names [])
        (bindC (envOfC qual scope s.heap.objs.size f cdv).kindOf binds fun _ => none) s₁ →
      wpAny (model prog w) (A.deeper (envOfC qual scope s.heap.objs.size f cdv)) (execs body (envOfC qual scope s.heap.objs.size f cdv))
        (fun fl s' => R (.ok (.ret (match fl with | .ret v => v | _ => .none))) s')
        (fun e s' => wpAny (model prog w) (A.deeper (envOfC qual scope s.heap.objs.size f cdv)) (leaving (envOfC qual scope s.heap.objs.size f cdv) e) (fun _ s'' => R (.error e) s'') (fun e' s'' => R (.error e') s'') s') s₁)
    (hco : scope.isCoroutine = false) (hgen : scope.isGenerator = false) (hk : scope.kind = .function) : codeAny (model prog w) A (.call (.ref f) args) R s := by
  refine codeAny_call_function hroom (X _ _ ho) rfl hco hgen rfl (codeRec_of X hcd) (hbind _ _ _ _ ?_)
  refine wpAny_newFunctionEnv_cells hk (kindsX hkind _) fun env he s₁ x => ?_
  subst he
  exact ⟨hlim.keeps x.toInCall.keep, codeAny_func (h s₁ x)⟩

/-- C(..): dict at size, instance at size + 1, then __init__ -/
theorem make_obj {R : Result → Shared → Prop} {C fI : Addr} {rest : List Value} {kw : List (Str × Value)}
    (X : K.In s.heap) (hm : makesIn K C = true) (hi : findIn K (.ref C) "__init__" = some (some (.ref fI))) (hf : isFn K (.ref fI) = true)
    (h : codeAny (model prog w) (A.under (.builtin "type.__call__" ⟨.ref C :: rest, kw⟩)) (.call (.ref fI) ⟨.ref (s.heap.objs.size + 1) :: rest, kw⟩) (InitBack (s.heap.objs.size + 1) R)
      { s with heap := (s.heap.push emptyDict).push (instObj C s.heap.objs.size) }) : codeAny (model prog w) A (.call (.ref C) ⟨rest, kw⟩) R s := by
  obtain ⟨hh, g, d, t, os⟩ := s
  exact make_core (makes_of X hm) (looks_findIn X hi) (fun self => bind_fn X self (beq_iff_eq.mp hf)) (.inl rfl) h

/-- x.name where the instance's dict holds the name and the class does not -/
theorem get_field {x C : Addr} {ox : Obj} {es : List DictEntry} {n : Nat} {name : Str} {expr : Bool} {v : Value} {Q : Value → Shared → Prop}
    (X : K.In s.heap) (I : PySem.W.InstAt s.heap x ox C (some (dictOf es n))) (hg : plainGet K C name = true) (hh : hasDictIn K C = true) (ha : findIn K (.ref C) name = some none)
    (hl : getL name es = some (some v)) (hv : handedIn v = true) (h : Q v { s with toks := s.toks + 1 }) : wpAny (model prog w) A (getAttr (.ref x) name expr) Q E s :=
  get_value X I (plainGet_of hg).1 (findObj_own hh ha rfl hl) hv h

/-- x.m(..): the method found in the class -/
theorem get_method {x C f : Addr} {ox : Obj} {es : List DictEntry} {n : Nat} {name : Str} {pl : Sem Bool} {Q : Value × List Value → Shared → Prop}
    (X : K.In s.heap) (I : PySem.W.InstAt s.heap x ox C (some (dictOf es n))) (hg : plainGet K C name = true) (hf : findIn K (.ref C) name = some (some (.ref f))) (ht : isFn K (.ref f) = true)
    (hl : getL name es = some none) (h : Q (.ref f, [.ref x]) s) : wpAny (model prog w) A (getMethod (.ref x) name pl) Q E s :=
  method_fn X I (plainGet_of hg).1 (plainGet_of hg).2 hf (beq_iff_eq.mp ht) (by show (lookIn name (dictOf es n)).map _ = _; rw [lookIn_dict, hl]; rfl) h

/-! the whole heap as the ledger: makes every rule that writes through a ledger a rule over any heap -/
def noObjs (h : Heap) : Heap := { h with objs := #[] }
theorem noObjs_get (h : Heap) (b : Addr) : (noObjs h).get? b = none := by
  cases e : (noObjs h).get? b with
  | none => rfl
  | some o => exact absurd (Heap.lt_size e) (Nat.not_lt_zero _)
def ledger (h : Heap) (L d : Addr) : List (Addr × Obj) := (List.range h.objs.size).filterMap fun a => if a = L ∨ a = d then none else (h.get? a).map fun o => (a, o)
theorem mem_ledger {h : Heap} {L d a : Addr} {o : Obj} : (a, o) ∈ ledger h L d ↔ a ≠ L ∧ a ≠ d ∧ h.get? a = some o := by
  unfold ledger
  rw [List.mem_filterMap]
  constructor
  · rintro ⟨b, _, e⟩
    split at e
    · cases e
    · rename_i hb
      obtain ⟨o', ho, e'⟩ := Option.map_eq_some_iff.mp e
      cases e'
      exact ⟨fun q => hb (.inl q), fun q => hb (.inr q), ho⟩
  · rintro ⟨n1, n2, ho⟩
    refine ⟨a, List.mem_range.mpr (Heap.lt_size ho), ?_⟩
    rw [if_neg (show ¬ (a = L ∨ a = d) from fun q => q.elim n1 n2), ho] <;> rfl
theorem news_ledger {h : Heap} {L d : Addr} {od : Obj} (hne : d ≠ L) (ho : h.get? d = some od) : News (noObjs h) L h ([] ++ (d, od) :: ledger h L d) := by
  rintro ⟨a, o⟩ hp
  rcases List.mem_cons.mp hp with e | hp
  · cases e
    exact ⟨ho, hne, noObjs_get _ _⟩
  · obtain ⟨n1, n2, e⟩ := mem_ledger.mp hp
    exact ⟨e, n1, noObjs_get _ _⟩
theorem fr_all {h : Heap} {L : Addr} {m : Str → Option Value} (n : h.Ns L m) : Fr (noObjs h) L h m :=
  ⟨n, fun b o e => (by rw [noObjs_get] at e; cases e), Nat.zero_le _⟩
/-- Upd of the head entry (for append_K, setItem_K ..) -/
theorem upd_ledger {h : Heap} {L d : Addr} {o o' : Obj} : Upd d o o' ((d, o) :: ledger h L d) ((d, o') :: ledger h L d) :=
  .head fun ⟨_, _⟩ hp => (mem_ledger.mp hp).2.1

/-- x.name = v over any heap: L is any namespace of the heap (the frame's, say): its map stays, its object is not told; all else but the dict stays -/
theorem set_field {x C dx L : Addr} {ox : Obj} {m : Str → Option Value} {es es' : List DictEntry} {n n' : Nat} {name : Str} {v : Value} {Q : Unit → Shared → Prop}
    (X : K.In s.heap) (I : PySem.W.InstAt s.heap x ox C (some (dictOf es n))) (hd : ox.dict = some dx) (hL : s.heap.Ns L m) (hne : dx ≠ L)
    (hs : findIn K (.ref C) "__setattr__" = some (some (.builtin "object.__setattr__"))) (hp : plainOver K C = true) (ht : takerIn K C name = some none) (hh : hasDictIn K C = true) (hl : (getL name es).isSome = true)
    (e : (putL name (PyData.keyHash w.params name) (.str name (s.toks + 1)) v es, putN name es n) = (es', n')) (hz : es'.length ≤ 1000)
    (h : ∀ h' : Heap, h'.Ns L m → h'.get? dx = some (dictOf es' n') → (∀ b o, b ≠ dx → b ≠ L → s.heap.get? b = some o → h'.get? b = some o) → Q () { s with heap := h', toks := s.toks + 2 }) :
    wpAny (model prog w) A (setAttr (.ref x) name v) Q E s := by
  obtain ⟨e1, e2⟩ := Prod.mk.inj e
  have hdx : s.heap.get? dx = some (dictOf es n) := by
    have := I.dict
    rw [hd] at this
    exact this
  refine set_plain X I hs (osa_dict (s := { s with toks := s.toks + 1 }) (h₀ := noObjs s.heap) (L := L) (m := m) (od := dictOf es n) (od' := dictOf es' n') (es := es') (n := n') (pre := []) (post := ledger s.heap L dx)
    (fr_all hL) (news_ledger hne hdx) X I hd hp ht hh hl (fun _ q => nomatch q) (fun ⟨_, _⟩ q => (mem_ledger.mp q).2.1) (by rw [putName_dict, e1, e2]) rfl hz fun h' F' N' => ?_)
  exact h h' F'.ns (N'.get (List.Mem.head _)) fun b o n1 n2 ho => N'.get (List.Mem.tail _ (mem_ledger.mpr ⟨n2, n1, ho⟩))
end
end Att

namespace L2
open PySem PySem.Spec PyProof.Rows

theorem vals_ints : ∀ {vs : List Value} {ns : List Int}, IntsAre vs ns → Vals (ns.map V.int) vs
  | _, _, .nil => .nil
  | _, _, .cons n t h => .cons ⟨t, rfl⟩ (vals_ints h)

/-- nothing is tracked but the script, known to the object (or it is an object of the module) -/
def Only (H : Hp) : Prop := ∀ b, H b = none ∨ ∃ o xs, H b = some (.frz o (.lst xs))

/-- THE HEAD: the law's promise, at the heap behind the top. F, the promise of the law's def, may use that base is part of the heap (so K.In base, base.Ns mainGlobals mg stand in Mod) -/
theorem law_call {P : Program} {w : World} {K : PySem.W.Frag} {mg mb : Str → Option Value} {CX : CXT} {k : Nat} {fa a : Addr} {fd : FuncData} {x : Str} {sp : Sp} {s₁ : Shared} {vs : List Value} {ns : List Int}
    (KX : K.In s₁.heap) (hns : s₁.heap.Ns mainGlobals mg) (hb : s₁.heap.Ns builtinsNs mb) (hbb : ∀ x : Str, x ≠ "__name__" → mb x = bootBuiltins x) (hlim : s₁.heap.NoLimit) (hg : s₁.gens = #[])
    (ha : s₁.heap.get? a = some { cls := .type "list", data := .seq vs.toArray }) (hi : IntsAre vs ns) (hl : ns.length ≤ sizeLine) (hr : Room k callerA)
    (F : ∀ base : Heap, K.In base → base.Ns mainGlobals mg → FnOk P w K mg base CX k fa fd [x] sp) (hbind : ∀ (s : Shared) (u : Value), BindsTo s fd ⟨[u], []⟩ [(x, u)])
    (hsp : ∀ H : Hp, Only H → SqL K H a (ns.map V.int) → sp [.ref a] H (fun v _ => v = .bl true) fun _ _ _ => False)
    (hCX : ∀ H e s', CX [] H s₁ (fun _ _ _ => False) e s' → False) :
    codeAny (model P w) callerA (.call (.ref fa) ⟨[.ref a], []⟩) (fun r s' => r = .ok (.ret (.bool true)) ∧ OldK s₁.heap s'.heap ∧ s'.os = s₁.os ∧ AllBare s'.gens) s₁ := by
  have rv := vals_ints hi
  have lenV := hi.length
  -- from an abstract heap in which nothing but the script may be tracked
  have core : ∀ H : Hp, Only H → SqL K H a (ns.map V.int) → HOk P w H s₁.heap → (∀ b, H b ≠ none → b = a) → (H a ≠ none → K.lookup a = none) →
      codeAny (model P w) callerA (.call (.ref fa) ⟨[.ref a], []⟩) (fun r s' => r = .ok (.ret (.bool true)) ∧ OldK s₁.heap s'.heap ∧ s'.os = s₁.os ∧ AllBare s'.gens) s₁ := by
    intro H hO hS hok hA hK
    have base_of : ∀ {b : Addr} {o : Obj}, s₁.heap.get? b = some o → H b = none → (hidT s₁.heap H).get? b = some o := fun e n => hidT_get e n
    have noA : ∀ {b : Addr} {o : Obj} {es : Array DictEntry} {ep : Nat}, s₁.heap.get? b = some o → o.data = .dict es ep → H b = none := fun {b o es ep} e d => by
      cases q : H b with
      | none => rfl
      | some u =>
        have e' : b = a := hA b (by rw [q]; simp)
        subst e'
        rw [ha] at e; cases e
        have d' : Data.seq vs.toArray _ = Data.dict es ep := d
        cases d'
    have nsK : ∀ {b : Addr} {m : Str → Option Value}, s₁.heap.Ns b m → (hidT s₁.heap H).Ns b m := fun {b m} ⟨o, es, ep, e, d, r⟩ => ⟨o, es, ep, base_of e (noA e d), d, r⟩
    have hKb : K.In (hidT s₁.heap H) := fun b o e => base_of (KX b o e) (by
      cases q : H b with
      | none => rfl
      | some u =>
        have e' : b = a := hA b (by rw [q]; simp)
        subst e'
        rw [hK (by rw [q]; simp)] at e; cases e)
    have hM : Mod K mg (hidT s₁.heap H) := ⟨hKb, nsK hns, ⟨mb, nsK hb, hbb⟩, let ⟨mc, h1, h2⟩ := hlim; ⟨mc, nsK h1, h2⟩⟩
    have e0 : Env0 P w K mg (hidT s₁.heap H) callerA [] s₁ H := ⟨rfl, hM, fun b o e => of_hidT e, Nat.le_of_eq (hidT_size _ _), trivial, fun b hb => absurd (show b ∈ ([] : List Addr) from hb) (by simp), hok, .of_eq hg⟩
    refine codeAny_mono ((F _ hKb (nsK hns)).run callerA [] s₁ H ⟨[.ref a], []⟩ [.ref a] [.ref a] _ _ hr e0 (hbind s₁ (.ref a)) (.cons rfl .nil) (hsp H hO hS)) fun r s' h => ?_
    cases r with
    | error e => exact (hCX H e s' h).elim
    | ok fl =>
      cases fl with
      | next => exact False.elim h
      | brk => exact False.elim h
      | cont => exact False.elim h
      | ret u =>
        obtain ⟨v, H', os, bare, un, hok', r', q⟩ := h
        have q' : v = .bl true := q
        subst q'
        obtain rfl : u = Value.bool true := r'
        refine ⟨rfl, OldK.of_keep fun b o e => ?_, os, bare⟩
        cases q : H b with
        | none => exact un.keep b o e q (by intro z; exact absurd (show b ∈ ([] : List Addr) from z) (by simp)) (by simp)
        | some u =>
          rcases hO b with z | ⟨ob, xs, z⟩
          · rw [q] at z; cases z
          · have z2 := un.frzs b ob _ z
            obtain ⟨e1, _⟩ := hok b _ z
            obtain ⟨e2, _⟩ := hok' b _ z2
            rw [e] at e1; cases e1
            exact e2
  cases hk : K.lookup a with
  | some o =>
    -- the script is one of the module's own objects
    have e := KX a o hk
    rw [ha] at e
    cases e
    refine core (fun _ => none) (fun _ => .inl rfl) (.inr ⟨_, vs.toArray, _, hk, rfl, rfl, rfl, by rw [List.size_toArray, lenV]; exact hl, by simpa using rv⟩) (fun b u z => by have z' : (none : Option HO) = some u := z; cases z') (fun b z => absurd rfl z) fun z => absurd rfl z
  | none =>
    refine core (fun b => if b = a then some (.frz { cls := .type "list", data := .seq vs.toArray } (.lst (ns.map V.int))) else none) (fun b => ?_) (.inl (.inr ⟨{ cls := .type "list", data := .seq vs.toArray }, if_pos rfl⟩)) (fun b u z => ?_) (fun b z => ?_) fun _ => hk
    · by_cases hb : b = a
      · exact .inr ⟨_, _, if_pos hb⟩
      · exact .inl (if_neg hb)
    · by_cases hb : b = a
      · have z' := (if_pos hb).symm.trans z
        cases z'
        subst hb
        exact ⟨ha, by rw [List.length_map]; exact hl, vs, _, rv, ha⟩
      · have z' := (if_neg hb).symm.trans z
        cases z'
    · by_cases hb : b = a
      · exact hb
      · exact absurd (if_neg hb) z
end L2

namespace L2
open PySem PySem.Spec PyProof.Rows

abbrev KOf {K : PySem.W.Frag} {h : Heap} (_ : K.In h) : PySem.W.Frag := K

/-- the goal that k_head leaves (case hc), from the law's promise. F gives the function object fd (K's own) once, then the promise over every base -/
theorem walk_of {l : PySem.W.OpenLaw} {n k : Nat} {q : Program} {loose : List Str} {XP : (Str → Option Value) → Heap → Prop} {YP : World → Heap → Prop} {d : DefRec} {K : Params → PySem.W.Frag} {CX : World → CXT} {sp : World → Sp} {x : Str}
    (hn : l.most = some n) (hn2 : n ≤ sizeLine) (hdf : d.params.defaults = []) (hr : Room k callerA)
    (hY : ∀ (w : World) (h : Heap), YP w h → (K w.params).In h)
    (F : ∀ (w : World) (mg : Str → Option Value) (fa : Addr) (h : Heap), (K w.params).In h → h.Ns mainGlobals mg → mg d.name = some (.ref fa) →
      ∃ fd : FuncData, (∀ (s : Shared) (u : Value), BindsTo s fd ⟨[u], []⟩ [(x, u)]) ∧
        ∀ base : Heap, (K w.params).In base → base.Ns mainGlobals mg → FnOk l.prog w (K w.params) mg base (CX w) k fa fd [x] (sp w))
    (hsp : ∀ (w : World) (H : Hp) (a : Addr) (ns : List Int), ns.length ≤ n → Only H → SqL (K w.params) H a (ns.map V.int) → sp w [.ref a] H (fun v _ => v = .bl true) fun _ _ _ => False)
    (hCX : ∀ (w : World) (H : Hp) (s : Shared) (e : Value) (s' : Shared), CX w [] H s (fun _ _ _ => False) e s' → False) :
    PySem.W.WalkO q loose XP YP l.row.toRowW d [] (fun f vs => PySem.call f vs) := by
  refine Att.attach_call hn hdf fun w s₀ s₁ mg mb fa o pm cd doc a vs ns G Y ho hd hcd hmg hobj hints hlen hg => ?_
  have KX := hY w _ Y
  obtain ⟨fd, hb, hF⟩ := F w mg fa _ KX G.T.g hmg
  exact law_call KX G.T.g G.T.b G.T.builtins G.T.nolimit hg hobj hints (Nat.le_trans hlen hn2) hr hF hb (fun H hO hS => hsp w H a ns hlen hO hS) fun H e s' => hCX w H s₁ e s'
/-- the same where the promise hangs on the written part alone: (sp := My.sp_law), no hole under a binder -/
theorem walk_ofK {l : PySem.W.OpenLaw} {n k : Nat} {q : Program} {loose : List Str} {XP : (Str → Option Value) → Heap → Prop} {YP : World → Heap → Prop} {d : DefRec} {K : Params → PySem.W.Frag} {CX : CXT} {sp : PySem.W.Frag → Sp} {x : Str}
    (hn : l.most = some n) (hn2 : n ≤ sizeLine) (hdf : d.params.defaults = []) (hr : Room k callerA)
    (hY : ∀ (w : World) (h : Heap), YP w h → (K w.params).In h)
    (F : ∀ (w : World) (mg : Str → Option Value) (fa : Addr) (h : Heap), (K w.params).In h → h.Ns mainGlobals mg → mg d.name = some (.ref fa) →
      ∃ fd : FuncData, (∀ (s : Shared) (u : Value), BindsTo s fd ⟨[u], []⟩ [(x, u)]) ∧
        ∀ base : Heap, (K w.params).In base → base.Ns mainGlobals mg → FnOk l.prog w (K w.params) mg base CX k fa fd [x] (sp (K w.params)))
    (hsp : ∀ (K : PySem.W.Frag) (H : Hp) (a : Addr) (ns : List Int), ns.length ≤ n → Only H → SqL K H a (ns.map V.int) → sp K [.ref a] H (fun v _ => v = .bl true) fun _ _ _ => False)
    (hCX : ∀ (H : Hp) (s : Shared) (e : Value) (s' : Shared), CX [] H s (fun _ _ _ => False) e s' → False) :
    PySem.W.WalkO q loose XP YP l.row.toRowW d [] (fun f vs => PySem.call f vs) :=
  walk_of (K := K) (CX := fun _ => CX) (sp := fun w => sp (K w.params)) hn hn2 hdf hr hY F (fun w H a ns h1 h2 h3 => hsp (K w.params) H a ns h1 h2 h3) fun _ H s e s' => hCX H s e s'
end L2

/- THE LAST THEOREM (shape; LID, My.* are yours):
   My.Adr: a structure of the addresses that your layer names (classes, functions); My.Txt K t: a structure (Prop) of the equations over K;
   My.txt_mk : {K} {implicit addresses ..} (e1 : nsIn K mainGlobals "law" = some (some (.ref f))) (e2 : K.lookup f = some ⟨oc, od, .func (fnOf "law" "law" params body scope dV kV doc pm an cdv ct), sl⟩) (e3 : codeIn K cdv "law" = true) .. : ∃ t, My.Txt K t

set_option maxRecDepth 100000 in
set_option maxHeartbeats 0 in
theorem PySem.Challenge.cw_LID_holds : PySem.Challenge.rw_LID.Holds := by
  w_on; o_law; k_head; (case hw => w_witness2)
  k_fill
  refine L2.walk_of (l := PySem.Challenge.rw_LID) (n := 63) (k := 40) (x := "script") (CX := fun w => ..) (sp := fun _ => My.sp_law) rfl (by decide) rfl ⟨rfl, by decide, by decide⟩ (fun w h Y => PySem.W.kIn_of Y) ?F ?S ?C
  case F =>
    intro w mg fa h KX G hmg
    have T : ∃ t, My.Txt (L2.KOf KX) t := by
      dsimp only [L2.KOf]                          -- K must stand as «<heap const> w.params» for k_is
      refine' My.txt_mk ?e1 ?e2 ?e3 ..
      (case e1 => PySem.W.k_is)                    -- in the order: a name -> its address -> its object -> its parts
      (case e2 => PySem.W.k_is)
      ..
    obtain ⟨t, T⟩ := T
    have e0 := hmg.symm.trans (PySem.W.mg_of KX G T.law)
    cases e0                                       -- fa is the law's own address
    exact ⟨_, fun s u => .of_eq rfl, fun base kb nb => My.law_fn T kb nb⟩     -- if «.of_eq rfl» comes too early: refine' ⟨_, ?b, fun base kb nb => My.law_fn T kb nb⟩; exact fun s u => .of_eq rfl
  case S => exact fun w H a ns hl hO hS => ..
  case C => exact ..
(the tactic k_is has no namespace: write k_is) -/

/-! SHORT WORDS over the layer: a def of the text, its body, what a loop and a test want. -/
namespace L2
open PySem PySem.Spec PyProof.Rows

/-! ### the text by places -/
/-- the j-th statement of a class's body -/
def inClass (s : Stmt) (j : Nat) : Stmt := match s with
  | .ClassDef _ _ _ body _ _ _ _ _ _ _ => body.getD j (.Pass ⟨0, 0, 0, 0⟩)
  | _ => .Pass ⟨0, 0, 0, 0⟩
def defArgs (s : Stmt) : Arguments := match s with
  | .FunctionDef _ a _ _ _ _ _ _ _ _ => a
  | _ => { posonlyargs := [], args := [], vararg := none, kwonlyargs := [], kw_defaults := [], kwarg := none, defaults := [] }
def defBody (s : Stmt) : List Stmt := match s with
  | .FunctionDef _ _ b _ _ _ _ _ _ _ => b
  | _ => []
def defScope (s : Stmt) : Scope := match s with
  | .FunctionDef _ _ _ _ _ _ sc _ _ _ => sc
  | _ => { kind := .function, names := [], isGenerator := false, isCoroutine := false }

/-! ### no exception leaves a def -/
abbrev CX0 : CXT := fun _ _ _ _ _ _ => False
abbrev E0 : XK := fun _ _ _ => False
theorem pass0 {X : Cx} : Passes CX0 X E0 := fun _ _ _ _ _ _ _ h => h.elim

/-! ### a def (or method) of the text as it stands behind the top -/
structure Fun (K : PySem.W.Frag) (x qual : Str) (st : Stmt) (f : Addr) (fd : FuncData) : Prop where
  ex : ∃ (oc : Value) (od : Option Addr) (kV doc pm : Value) (an : Option Addr) (cdv ct : Value) (osl : Array (Option Value)),
    fd = PySem.W.fnOf x qual (defArgs st) (defBody st) (defScope st) .none kV doc pm an cdv ct ∧ K.lookup f = some ⟨oc, od, .func fd, osl⟩ ∧ PySem.W.codeIn K cdv qual = true
  kp : PySem.W.keepIn K (.ref f) = true
section
variable {P : Program} {w : World} {K : PySem.W.Frag} {mg : Str → Option Value} {base : Heap}
/-- THE RULE for a def: its body as a term of rules, and the reading of that term -/
theorem Fun.ok {x qual : Str} {st : Stmt} {f : Addr} {fd : FuncData} {N ps : List Str} {k : Nat} {sp : Sp} (F : Fun K x qual st f fd) (S : FnScope N ps (defScope st)) (len : ∀ vs H Q E, sp vs H Q E → vs.length = ps.length)
    (hbody : ∀ (cdv : Value) (A : Around) (outer : List Env) (s : Shared) (H : Hp) (vs : List V) (Q : VK) (E : XK), Room k (A.deeper (envOfC qual (defScope st) s.heap.objs.size f cdv)) → sp vs H Q E →
      ∃ t, PSs (cxOf CX0 P w K mg base N qual (defScope st) f cdv A outer s H E).nox (defBody st) t ∧ t { nx := fun _ H' => Q .non H', rt := Q } (start N vs) H) : FnOk P w K mg base CX0 (k + 1) f fd ps sp := by
  obtain ⟨oc, od, kV, doc, pm, an, cdv, ct, osl, rfl, lk, hcd⟩ := F.ex
  refine fn_of lk hcd S len fun A outer s H vs Q E hr hsp => ?_
  obtain ⟨t, h, q⟩ := hbody cdv A outer s H vs Q E hr hsp
  exact ⟨t, h.nox, q⟩
/-- how its arguments bind (no defaults): h is «fun _ _ _ _ _ _ us hl => match us, hl with | [_, _], _ => rfl», one _ a parameter -/
theorem Fun.binds {x qual : Str} {st : Stmt} {f : Addr} {fd : FuncData} {ps : List Str} (F : Fun K x qual st f fd)
    (h : ∀ (kV doc pm : Value) (an : Option Addr) (cdv ct : Value) (us : List Value), us.length = ps.length → bindArgs (PySem.W.fnOf x qual (defArgs st) (defBody st) (defScope st) .none kV doc pm an cdv ct) ⟨us, []⟩ = pure (ps.zip us)) : Binds K fd ps [] := by
  obtain ⟨oc, od, kV, doc, pm, an, cdv, ct, osl, rfl, lk, hcd⟩ := F.ex
  exact .all (h kV doc pm an cdv ct)
theorem fun_mk {x qual : Str} {st : Stmt} {f : Addr} {oc : Value} {od an : Option Addr} {osl : Array (Option Value)} {kV doc pm cdv ct : Value} (l : K.lookup f = some ⟨oc, od, .func (PySem.W.fnOf x qual (defArgs st) (defBody st) (defScope st) .none kV doc pm an cdv ct), osl⟩)
    (c : PySem.W.codeIn K cdv qual = true) (k : PySem.W.keepIn K (.ref f) = true) : Fun K x qual st f (PySem.W.fnOf x qual (defArgs st) (defBody st) (defScope st) .none kV doc pm an cdv ct) := ⟨⟨oc, od, kV, doc, pm, an, cdv, ct, osl, rfl, l, c⟩, k⟩
end
theorem hu_of {A : Around} {k : Nat} (hr : Room k A) : A.units + 1 < cLine := Nat.lt_of_le_of_lt (Nat.add_le_add_left (by decide : 1 ≤ 64) _) hr.units
theorem small1000 {n : Nat} (h : n ≤ 1000) : n < sizeLine := Nat.lt_of_le_of_lt h (by decide)

/-! ### expressions in short: the name that stands in the i-th slot -/
section
variable {X : Cx}
theorem pv (i : Nat) {x : Str} {pos : Pos} (hN : X.N[i]? = some x := by rfl) (hv : Vis X.env.scope x := by first | exact Or.inl rfl | exact Or.inr (Or.inl rfl) | exact Or.inr (Or.inr rfl)) (hd : (x == ("__debug__" : Str)) = false := by decide)
    (hcd : (x == ("__classdict__" : Str)) = false := by decide) : PE X (.Name x pos) (tVar i) := pe_var hN hv hd hcd
end

/-! ### tests -/
theorem iteF {A B : Prop} (h : B) : if false = true then A else B := by
  rw [if_neg Bool.false_ne_true]
  exact h
theorem iteT {A B : Prop} (h : A) : if true = true then A else B := by
  rw [if_pos rfl]
  exact h
theorem ite2 {c A B : Prop} [Decidable c] (h1 : c → A) (h2 : ¬ c → B) : if c then A else B := by
  by_cases h : c
  · rw [if_pos h]
    exact h1 h
  · rw [if_neg h]
    exact h2 h
theorem iteNS {c A B : Prop} [Decidable c] (hc : c) (h : B) : if (!decide c) = true then A else B := by
  rw [decide_eq_true hc]
  exact iteF h

/-! ### heaps -/
/-- all that was tracked is as it was -/
def Same (H H' : Hp) : Prop := ∀ b o, H b = some o → H' b = some o
theorem Same.refl (H : Hp) : Same H H := fun _ _ h => h
theorem Same.trans {H H1 H2 : Hp} (a : Same H H1) (b : Same H1 H2) : Same H H2 := fun c o h => b c o (a c o h)
theorem Same.free {H H' : Hp} (e : Same H H') {l : Addr} (h : H' l = Option.none) : H l = Option.none := by
  cases q : H l with
  | none => rfl
  | some o =>
    rw [e l o q] at h
    cases h
theorem Same.seq {K : PySem.W.Frag} {H H' : Hp} {a : Addr} {xs : List V} (e : Same H H') (h : SqL K H a xs) : SqL K H' a xs := by
  rcases h with (h | ⟨o, h⟩) | h
  · exact .inl (.inl (e _ _ h))
  · exact .inl (.inr ⟨o, e _ _ h⟩)
  · exact .inr h

end L2


namespace L2
open PySem PySem.Spec PyProof.Rows

/-! ### lists of pairs as tables -/
section
variable {κ : Type} [DecidableEq κ]
def valV (kvs : List (κ × V)) (k : κ) : Option V := (kvs.find? fun kv => decide (kv.1 = k)).map (·.2)
/-- in its place, or at the end -/
def putK (kvs : List (κ × V)) (k : κ) (v : V) : List (κ × V) :=
  if (kvs.any fun kv => decide (kv.1 = k)) = true then kvs.map (fun kv => if kv.1 = k then (kv.1, v) else kv) else kvs ++ [(k, v)]
def dropK (kvs : List (κ × V)) (k : κ) : List (κ × V) := kvs.filter fun kv => decide (kv.1 ≠ k)

theorem valV_nil {k : κ} : valV ([] : List (κ × V)) k = none := rfl
theorem valV_pos {p : κ × V} {r : List (κ × V)} {k : κ} (e : p.1 = k) : valV (p :: r) k = some p.2 := by simp [valV, List.find?_cons, e]
theorem valV_neg {p : κ × V} {r : List (κ × V)} {k : κ} (e : ¬ p.1 = k) : valV (p :: r) k = valV r k := by simp [valV, List.find?_cons, e]
theorem valV_any (k : κ) : ∀ kvs : List (κ × V), (kvs.any fun kv => decide (kv.1 = k)) = (valV kvs k).isSome
  | [] => rfl
  | p :: r => by
    rw [List.any_cons]
    by_cases e : p.1 = k
    · simp only [valV_pos e, decide_eq_true e, Bool.true_or, Option.isSome_some]
    · rw [valV_neg e, decide_eq_false e, Bool.false_or]; exact valV_any k r
theorem valV_map (k j : κ) (y : V) : ∀ kvs : List (κ × V), valV (kvs.map fun kv => if kv.1 = k then (kv.1, y) else kv) j = (valV kvs j).map fun x => if j = k then y else x
  | [] => rfl
  | p :: r => by
    have ih := valV_map k j y r
    rw [List.map_cons]
    by_cases h : p.1 = k
    · rw [if_pos h]
      by_cases e : p.1 = j
      · rw [valV_pos (p := (p.1, y)) e, valV_pos e, Option.map_some, if_pos (e.symm.trans h)]
      · rw [valV_neg (p := (p.1, y)) e, valV_neg e, ih]
    · rw [if_neg h]
      by_cases e : p.1 = j
      · rw [valV_pos (p := p) e, valV_pos e, Option.map_some, if_neg (fun z => h (e.trans z))]
      · rw [valV_neg (p := p) e, valV_neg e, ih]
theorem valV_snoc (k j : κ) (y : V) : ∀ kvs : List (κ × V), valV kvs k = none → valV (kvs ++ [(k, y)]) j = if j = k then some y else valV kvs j
  | [], _ => by
    by_cases e : k = j
    · rw [if_pos e.symm]; exact valV_pos (p := (k, y)) e
    · rw [if_neg (fun z => e z.symm)]; exact valV_neg (p := (k, y)) e
  | p :: r, hn => by
    rw [List.cons_append]
    have hk : ¬ p.1 = k := fun z => by rw [valV_pos z] at hn; cases hn
    rw [valV_neg hk] at hn
    have ih := valV_snoc k j y r hn
    by_cases e : p.1 = j
    · rw [valV_pos e, valV_pos e, if_neg (fun z => hk (e.trans z))]
    · rw [valV_neg e, valV_neg e, ih]
theorem valV_put (kvs : List (κ × V)) (k j : κ) (y : V) : valV (putK kvs k y) j = if j = k then some y else valV kvs j := by
  unfold putK
  by_cases a : (kvs.any fun kv => decide (kv.1 = k)) = true
  · rw [if_pos a, valV_map]
    rw [valV_any] at a
    by_cases e : j = k
    · obtain ⟨x, hx⟩ := Option.isSome_iff_exists.mp a
      rw [if_pos e, e, hx, Option.map_some, if_pos rfl]
    · rw [if_neg e]
      cases valV kvs j with
      | none => rfl
      | some x => rw [Option.map_some, if_neg e]
  · rw [if_neg a]
    refine valV_snoc k j y kvs ?_
    rw [valV_any] at a
    cases q : valV kvs k with
    | none => rfl
    | some x => rw [q] at a; exact (a rfl).elim
theorem length_putK (kvs : List (κ × V)) (k : κ) (v : V) : (putK kvs k v).length ≤ kvs.length + 1 := by
  unfold putK
  split
  · rw [List.length_map]; omega
  · rw [List.length_append, List.length_cons, List.length_nil]; omega
theorem putK_new {kvs : List (κ × V)} {k : κ} (v : V) (h : valV kvs k = none) : putK kvs k v = kvs ++ [(k, v)] := by
  unfold putK
  rw [valV_any, h]
  exact if_neg (by decide)

theorem RelO.isSome_eq {o : Option V} {u : Option Value} (r : RelO o u) : o.isSome = u.isSome := by
  cases o with
  | none => cases u with
    | none => rfl
    | some _ => exact (show False from r).elim
  | some _ => cases u with
    | none => exact (show False from r).elim
    | some _ => rfl
theorem RelO.getD {o : Option V} {u : Option Value} {d : V} {d' : Value} (r : RelO o u) (rd : RelV d d') : RelV (o.getD d) (u.getD d') := by
  cases o with
  | none => cases u with
    | none => exact rd
    | some _ => exact (show False from r).elim
  | some _ => cases u with
    | none => exact (show False from r).elim
    | some _ => exact r

/-- raw tables of the same keys -/
theorem KV.val {kvs : List (κ × V)} {vs : List (κ × Value)} (r : KV kvs vs) (k : κ) : RelO (valV kvs k) (valueAt vs k) := by
  unfold KV at r
  induction r with
  | nil => exact True.intro
  | @cons p q ps qs h t ih =>
    obtain ⟨h1, h2⟩ := h
    by_cases e : p.1 = k
    · have e' : q.1 = k := h1.symm.trans e
      have b : valueAt (q :: qs) k = some q.2 := by simp [valueAt, List.find?_cons, e']
      rw [valV_pos e, b]; exact h2
    · have e' : ¬ q.1 = k := fun z => e (h1.trans z)
      have b : valueAt (q :: qs) k = valueAt qs k := by simp [valueAt, List.find?_cons, e']
      rw [valV_neg e, b]; exact ih
theorem KV.any {kvs : List (κ × V)} {vs : List (κ × Value)} (r : KV kvs vs) (k : κ) : (kvs.any fun kv => decide (kv.1 = k)) = vs.any fun kv => decide (kv.1 = k) := by
  unfold KV at r
  induction r with
  | nil => rfl
  | cons h t ih => rw [List.any_cons, List.any_cons, ih, h.1]
theorem KV.repl {kvs : List (κ × V)} {vs : List (κ × Value)} (r : KV kvs vs) (k : κ) {y : V} {u : Value} (ry : RelV y u) :
    KV (kvs.map fun kv => if kv.1 = k then (kv.1, y) else kv) (vs.map fun kv => if kv.1 = k then (kv.1, u) else kv) := by
  unfold KV at r ⊢
  induction r with
  | nil => exact .nil
  | @cons p q ps qs h t ih =>
    rw [List.map_cons, List.map_cons]
    refine .cons ?_ ih
    obtain ⟨h1, h2⟩ := h
    by_cases e : p.1 = k
    · rw [if_pos e, if_pos (h1.symm.trans e)]; exact ⟨h1, ry⟩
    · rw [if_neg e, if_neg (fun z => e (h1.trans z))]; exact ⟨h1, h2⟩
theorem KV.put {kvs : List (κ × V)} {vs : List (κ × Value)} (r : KV kvs vs) (k : κ) {y : V} {u : Value} (ry : RelV y u) : KV (putK kvs k y) (stored vs k u) := by
  unfold putK stored
  rw [r.any k]
  by_cases e : (vs.any fun kv => decide (kv.1 = k)) = true
  · rw [if_pos e, if_pos e]; exact r.repl k ry
  · rw [if_neg e, if_neg e]; exact Paired.snoc r ⟨rfl, ry⟩
theorem KV.drop {kvs : List (κ × V)} {vs : List (κ × Value)} (r : KV kvs vs) (k : κ) : KV (dropK kvs k) (without vs k) := by
  unfold KV at r ⊢
  unfold dropK without
  induction r with
  | nil => exact .nil
  | @cons p q ps qs h t ih =>
    obtain ⟨h1, h2⟩ := h
    rw [List.filter_cons, List.filter_cons]
    by_cases e : p.1 = k
    · have a : ¬ decide (p.1 ≠ k) = true := by simp [e]
      have b : ¬ decide (q.1 ≠ k) = true := by simp [h1.symm.trans e]
      rw [if_neg a, if_neg b]; exact ih
    · have e' : ¬ q.1 = k := fun z => e (h1.trans z)
      have a : decide (p.1 ≠ k) = true := by simp [e]
      have b : decide (q.1 ≠ k) = true := by simp [e']
      rw [if_pos a, if_pos b]; exact .cons ⟨h1, h2⟩ ih
theorem KV.keys {kvs : List (κ × V)} {vs : List (κ × Value)} (r : KV kvs vs) : kvs.map (·.1) = vs.map (·.1) := by
  unfold KV at r
  induction r with
  | nil => rfl
  | cons h t ih => rw [List.map_cons, List.map_cons, ih, h.1]
theorem KV.length {kvs : List (κ × V)} {vs : List (κ × Value)} (r : KV kvs vs) : kvs.length = vs.length := Paired.length r
theorem dropK_le (kvs : List (κ × V)) (k : κ) : (dropK kvs k).length ≤ kvs.length := List.length_filter_le _ _
end


/-! ### a tracked dict, its keys ints and texts or tuples of these -/
theorem kV_is {P : Program} {w : World} {k : Key} {u : Value} (r : RelV (kV k) u) : (mixKind P w).is k u = true := by
  cases k with
  | inl i => obtain ⟨t, e⟩ := (show ∃ t, u = Value.int i t from r); subst e; exact mixKind_int P w i t
  | inr x => obtain ⟨t, e⟩ := (show ∃ t, u = Value.str x t from r); subst e; exact mixKind_str P w x t
theorem kV_inj {a b : Key} (e : kV a = kV b) : a = b := by
  cases a with
  | inl i => cases b with
    | inl j => have e' : V.int i = V.int j := e; injection e' with e'; rw [e']
    | inr y => exact nomatch (show V.int i = V.str y from e)
  | inr x => cases b with
    | inl j => exact nomatch (show V.str x = V.int j from e)
    | inr y => have e' : V.str x = V.str y := e; injection e' with e'; rw [e']
theorem kVs_inj : ∀ {a b : List Key}, a.map kV = b.map kV → a = b
  | [], [], _ => rfl
  | [], _ :: _, e => by simp at e
  | _ :: _, [], e => by simp at e
  | x :: xs, y :: ys, e => by
    rw [List.map_cons, List.map_cons] at e
    injection e with e1 e2
    rw [kV_inj e1, kVs_inj e2]
theorem items_are {P : Program} {w : World} : ∀ {ks : List Key} {us : List Value}, Vals (ks.map kV) us → ItemsAre (mixKind P w) ks us
  | [], _, r => by rw [List.map_nil] at r; cases r; exact .nil
  | k :: ks, _, r => by
    rw [List.map_cons] at r
    cases r with
    | cons h t => exact .cons (kV_is h) (items_are t)

/-- raw entries of a dict with tuple keys -/
abbrev KT (H : Hp) : List (List Key × V) → List (List Key × Addr × Value) → Prop := Paired fun p q => p.1 = q.1 ∧ H q.2.1 = some (.tup (p.1.map kV)) ∧ RelV p.2 q.2.2
theorem KT.val {H : Hp} {kvs : List (List Key × V)} {xs : List (List Key × Addr × Value)} (r : KT H kvs xs) (k : List Key) : RelO (valV kvs k) ((atKey xs k).map (·.2)) := by
  induction r with
  | nil => exact True.intro
  | @cons p q ps qs h t ih =>
    obtain ⟨h1, _, h2⟩ := h
    by_cases e : p.1 = k
    · have e' : q.1 = k := h1.symm.trans e
      have b : atKey (q :: qs) k = some q.2 := by simp [atKey, List.find?_cons, e']
      rw [valV_pos e, b]; exact h2
    · have e' : ¬ q.1 = k := fun z => e (h1.trans z)
      have b : atKey (q :: qs) k = atKey qs k := by simp [atKey, List.find?_cons, e']
      rw [valV_neg e, b]; exact ih
theorem KT.repl {H : Hp} {kvs : List (List Key × V)} {xs : List (List Key × Addr × Value)} (r : KT H kvs xs) (k : List Key) {y : V} {u : Value} (ry : RelV y u) :
    KT H (kvs.map fun kv => if kv.1 = k then (kv.1, y) else kv) (xs.map (putAt k u)) := by
  induction r with
  | nil => exact .nil
  | @cons p q ps qs h t ih =>
    rw [List.map_cons, List.map_cons]
    refine .cons ?_ ih
    obtain ⟨h1, h2, h3⟩ := h
    unfold putAt
    by_cases e : p.1 = k
    · rw [if_pos e, if_pos (h1.symm.trans e)]; exact ⟨h1, h2, ry⟩
    · rw [if_neg e, if_neg (fun z => e (h1.trans z))]; exact ⟨h1, h2, h3⟩
theorem KT.put {H : Hp} {kvs : List (List Key × V)} {xs : List (List Key × Addr × Value)} (r : KT H kvs xs) (k : List Key) {b : Addr} {y : V} {u : Value} (hb : H b = some (.tup (k.map kV))) (ry : RelV y u) :
    KT H (putK kvs k y) (storedH xs k b u) := by
  have e : (kvs.any fun kv => decide (kv.1 = k)) = (atKey xs k).isSome := by
    rw [valV_any, (r.val k).isSome_eq, Option.isSome_map]
  unfold putK storedH
  rw [e]
  by_cases q : (atKey xs k).isSome = true
  · rw [if_pos q, if_pos q]; exact r.repl k ry
  · rw [if_neg q, if_neg q]; exact Paired.snoc r ⟨rfl, hb, ry⟩
theorem KT.keeps {H H' : Hp} {kvs : List (List Key × V)} {xs : List (List Key × Addr × Value)} (r : KT H kvs xs) (ht : ∀ b ys, H b = some (.tup ys) → H' b = some (.tup ys)) : KT H' kvs xs :=
  Paired.mapP r fun _ _ z => ⟨z.1, ht _ _ z.2.1, z.2.2⟩

section
variable {P : Program} {w : World} {H : Hp} {h : Heap} {a : Addr}
theorem rd_of {u : HO} (ok : HOk P w H h) (e : Rd H a u) : ObjOk P w H h a u := e.ok ok
theorem dk_rd {kvs : List (Key × V)} (ok : HOk P w H h) (e : Rd H a (.dK kvs)) : kvs.length ≤ sizeLine ∧ (a == sysModules) = false ∧ ∃ vs, KV kvs vs ∧ h.DictOf (mixKind P w) a vs :=
  show ObjOk P w H h a (.dK kvs) from rd_of ok e
theorem dk_of {kvs : List (Key × V)} (ok : HOk P w H h) (e : H a = some (.dK kvs)) : kvs.length ≤ sizeLine ∧ (a == sysModules) = false ∧ ∃ vs, KV kvs vs ∧ h.DictOf (mixKind P w) a vs := dk_rd ok (.inl e)
/-- a tracked tuple of ints and texts is a key -/
theorem key_of {ks : List Key} (ok : HOk P w H h) (e : H a = some (.tup (ks.map kV))) : (tupleKind (mixKind P w)).is h ks a := by
  obtain ⟨_, its, r, o, h1, h2, n, h3⟩ := (show ObjOk P w H h a (.tup (ks.map kV)) from ok a _ e)
  exact ⟨o, its.toArray, n, h1, h2, h3, by simpa using items_are r⟩
theorem dt_rd {kvs : List (List Key × V)} (ok : HOk P w H h) (e : Rd H a (.dT kvs)) : kvs.length ≤ sizeLine ∧ (a == sysModules) = false ∧
    ∃ xs, KT H kvs xs ∧ h.DictOfH (tupleKind (mixKind P w)) a xs := by
  obtain ⟨z, y, xs, r, o, es, ep, h1, h2, h3, h4, h5⟩ := (show ObjOk P w H h a (.dT kvs) from rd_of ok e)
  refine ⟨z, y, xs, r, o, es, ep, h1, h2, h3, h4, fun x hx => ?_, h5⟩
  have all : ∀ {l : List (List Key × V)} {m : List (List Key × Addr × Value)}, KT H l m → ∀ x ∈ m, (tupleKind (mixKind P w)).is h x.1 x.2.1 := by
    intro l m q
    induction q with
    | nil => intro x hx; exact nomatch hx
    | @cons p q ps qs hq t ih =>
      intro x hx
      rcases List.mem_cons.mp hx with e | hx
      · subst e
        exact key_of ok (by rw [← hq.1]; exact hq.2.1)
      · exact ih x hx
  exact all r x hx
theorem dt_of {kvs : List (List Key × V)} (ok : HOk P w H h) (e : H a = some (.dT kvs)) : kvs.length ≤ sizeLine ∧ (a == sysModules) = false ∧
    ∃ xs, KT H kvs xs ∧ h.DictOfH (tupleKind (mixKind P w)) a xs := dt_rd ok (.inl e)
end

/-- what the dict at a holds at the key y -/
def DGet (H : Hp) (a : Addr) (y : V) (r : Option V) : Prop :=
  (∃ kvs k, Rd H a (.dK kvs) ∧ y = kV k ∧ r = valV kvs k) ∨ ∃ kvs k b, Rd H a (.dT kvs) ∧ y = .ref b ∧ H b = some (.tup (k.map kV)) ∧ r = valV kvs k
/-- the heap behind a[y] = v -/
def DPut (H : Hp) (a : Addr) (y v : V) (H' : Hp) : Prop :=
  (∃ kvs k, H a = some (.dK kvs) ∧ y = kV k ∧ kvs.length < sizeLine ∧ H' = upd H a (.dK (putK kvs k v))) ∨
  ∃ kvs k b, H a = some (.dT kvs) ∧ y = .ref b ∧ H b = some (.tup (k.map kV)) ∧ kvs.length < sizeLine ∧ H' = upd H a (.dT (putK kvs k v))
theorem DGet.k {H : Hp} {a : Addr} {kvs : List (Key × V)} {k : Key} (e : H a = some (.dK kvs)) : DGet H a (kV k) (valV kvs k) := .inl ⟨kvs, k, .inl e, rfl, rfl⟩
theorem DGet.t {H : Hp} {a b : Addr} {kvs : List (List Key × V)} {k : List Key} (e : H a = some (.dT kvs)) (eb : H b = some (.tup (k.map kV))) : DGet H a (.ref b) (valV kvs k) := .inr ⟨kvs, k, b, .inl e, rfl, eb, rfl⟩
theorem DPut.k {H : Hp} {a : Addr} {kvs : List (Key × V)} {k : Key} {v : V} (e : H a = some (.dK kvs)) (hl : kvs.length < sizeLine) : DPut H a (kV k) v (upd H a (.dK (putK kvs k v))) := .inl ⟨kvs, k, e, rfl, hl, rfl⟩
theorem DPut.t {H : Hp} {a b : Addr} {kvs : List (List Key × V)} {k : List Key} {v : V} (e : H a = some (.dT kvs)) (eb : H b = some (.tup (k.map kV))) (hl : kvs.length < sizeLine) :
    DPut H a (.ref b) v (upd H a (.dT (putK kvs k v))) := .inr ⟨kvs, k, b, e, rfl, eb, hl, rfl⟩


section
variable {X : Cx} {pins : List (Addr × Obj)} {σ : St} {H : Hp} {s : Shared} {a : Addr} {y v : V} {u r : Value} {o : Option V} {A : Around} {E : Value → Shared → Prop}

theorem Inv.big (I : Inv X pins σ H s) : sysModules < s.heap.objs.size := by
  have h : mainGlobals < s.heap.objs.size := (I.mod.glob.keeps I.bk).lt
  exact Nat.lt_trans (by decide) h

/-- d[y], there -/
theorem d_getItem {Q : Value → Shared → Prop} (hu : A.units + 1 < cLine) (I : Inv X pins σ H s) (g : DGet H a y (some v)) (ry : RelV y u) (h : ∀ w' s', Inv X pins σ H s' → RelV v w' → Q w' s') :
    wpAny (model X.prog X.w) A (getItem (.ref a) u) Q E s := by
  rcases g with ⟨kvs, k, e, ey, l⟩ | ⟨kvs, k, b, e, ey, eb, l⟩
  · subst ey
    obtain ⟨z, hd, vs, rel, dd⟩ := dk_rd I.hok e
    obtain ⟨w', hw, rw'⟩ := RelO.some_of (v := v) (o := valueAt vs k) (by rw [l]; exact rel.val k)
    exact wpAny_getItem_of (kV_is ry) dd.mapOf hw (h w' _ (I.tok _) rw')
  · subst ey
    cases (show u = Value.ref b from ry)
    obtain ⟨z, hd, xs, rel, dd⟩ := dt_rd I.hok e
    obtain ⟨w', hw, rw'⟩ := RelO.some_of (v := v) (o := (atKey xs k).map (·.2)) (by rw [l]; exact rel.val k)
    obtain ⟨p, hp, hp2⟩ := Option.map_eq_some_iff.mp hw
    refine wpAny_getItem_heap (tupleKind_room_in1 hu) (key_of I.hok eb) dd hp ?_
    rw [hp2]
    exact h w' _ (I.tok _) rw'
/-- y in d -/
theorem d_in {Q : Value → Shared → Prop} (hu : A.units + 1 < cLine) (I : Inv X pins σ H s) (g : DGet H a y o) (ry : RelV y u) (h : ∀ s', Inv X pins σ H s' → Q (.bool o.isSome) s') :
    wpAny (model X.prog X.w) A (compareOp .In u (.ref a)) Q E s := by
  rcases g with ⟨kvs, k, e, ey, l⟩ | ⟨kvs, k, b, e, ey, eb, l⟩
  · subst ey
    obtain ⟨z, hd, vs, rel, dd⟩ := dk_rd I.hok e
    refine wpAny_in_of (kV_is ry) hd dd.mapOf ?_
    rw [← (rel.val k).isSome_eq, ← l]
    exact h _ (I.tok _)
  · subst ey
    cases (show u = Value.ref b from ry)
    obtain ⟨z, hd, xs, rel, dd⟩ := dt_rd I.hok e
    refine wpAny_in_heap (tupleKind_room_in1 hu) (key_of I.hok eb) hd dd ?_
    have q := (rel.val k).isSome_eq
    rw [Option.isSome_map] at q
    rw [← q, ← l]
    exact h _ (I.tok _)
theorem d_notIn {Q : Value → Shared → Prop} (hu : A.units + 1 < cLine) (I : Inv X pins σ H s) (g : DGet H a y o) (ry : RelV y u) (h : ∀ s', Inv X pins σ H s' → Q (.bool (!o.isSome)) s') :
    wpAny (model X.prog X.w) A (compareOp .NotIn u (.ref a)) Q E s := by
  rcases g with ⟨kvs, k, e, ey, l⟩ | ⟨kvs, k, b, e, ey, eb, l⟩
  · subst ey
    obtain ⟨z, hd, vs, rel, dd⟩ := dk_rd I.hok e
    refine wpAny_notIn_of (kV_is ry) hd dd.mapOf ?_
    rw [← (rel.val k).isSome_eq, ← l]
    exact h _ (I.tok _)
  · subst ey
    cases (show u = Value.ref b from ry)
    obtain ⟨z, hd, xs, rel, dd⟩ := dt_rd I.hok e
    refine wpAny_notIn_heap (tupleKind_room_in1 hu) (key_of I.hok eb) hd dd ?_
    have q := (rel.val k).isSome_eq
    rw [Option.isSome_map] at q
    rw [← q, ← l]
    exact h _ (I.tok _)
/-- a dict's object is replaced -/
theorem d_write {h' : Heap} {t' : Nat} {ob : HO} (I : Inv X pins σ H s) (mu : Mut (H a)) (hs : Heap.SameBut a s.heap h') (he : ∃ q, h'.get? a = some q) (new : ObjOk X.prog X.w (upd H a ob) h' a ob) :
    Inv X pins σ (upd H a ob) { s with heap := h', toks := t' } :=
  I.write (x := a) (e := a) mu (.inl rfl) (fun b q hb z => (hs.2 b hb).trans z) he new
theorem dk_new {P : Program} {w : World} {H' : Hp} {h' : Heap} {kvs : List (Key × V)} {vs : List (Key × Value)} (z : kvs.length ≤ sizeLine) (hd : (a == sysModules) = false) (rel : KV kvs vs) (dd : h'.DictOf (mixKind P w) a vs) :
    ObjOk P w H' h' a (.dK kvs) := ⟨z, hd, vs, rel, dd⟩
/-- d[y] = v -/
theorem d_setItem {H' : Hp} {Q : Unit → Shared → Prop} (hu : A.units + 1 < cLine) (I : Inv X pins σ H s) (g : DPut H a y v H') (ry : RelV y u) (rv : RelV v r) (h : ∀ s', Inv X pins σ H' s' → Q () s') :
    wpAny (model X.prog X.w) A (setItem (.ref a) u r) Q E s := by
  rcases g with ⟨kvs, k, e, ey, l, eH⟩ | ⟨kvs, k, b, e, ey, eb, l, eH⟩
  · subst ey eH
    obtain ⟨z, hd, vs, rel, dd⟩ := dk_of I.hok e
    have hz : vs.length ≤ sizeLine := by rw [← rel.length]; exact z
    have hl : (putK kvs k v).length ≤ sizeLine := by have := length_putK kvs k v; omega
    refine wpAny_setItem_pairs (hsz := hz) (kV_is ry) dd fun h' dd' hs => h _ ?_
    have he : ∃ q, h'.get? a = some q := let ⟨q, _, _, hq, _⟩ := dd'; ⟨q, hq⟩
    exact d_write I (by rw [e]; exact True.intro) hs he (dk_new hl hd (rel.put k rv) dd')
  · subst ey eH
    cases (show u = Value.ref b from ry)
    obtain ⟨z, hd, xs, rel, dd⟩ := dt_of I.hok e
    have hz : xs.length ≤ sizeLine := by rw [← Paired.length rel]; exact z
    have hl : (putK kvs k v).length ≤ sizeLine := by have := length_putK kvs k v; omega
    refine wpAny_setItem_heap (hsz := hz) (tupleKind_room_in1 hu) (key_of I.hok eb) dd fun h' dd' hs => h _ ?_
    obtain ⟨q, es, ep, hq, h2, h3, h4, _, h5⟩ := dd'
    refine d_write I (by rw [e]; exact True.intro) hs ⟨q, hq⟩ ⟨hl, hd, _, (rel.put k eb rv).keeps fun c ys ec => ?_, q, es, ep, hq, h2, h3, h4, h5⟩
    rw [upd_ne (ne_of ec e (fun z => nomatch z))]
    exact ec
end

section
variable {X : Cx} {pins : List (Addr × Obj)} {σ : St} {H : Hp} {s : Shared} {a : Addr} {kvs : List (Key × V)} {k : Key} {u : Value} {A : Around} {E : Value → Shared → Prop}
/-- del d[k] -/
theorem d_delItem {Q : Unit → Shared → Prop} (I : Inv X pins σ H s) (e : H a = some (.dK kvs)) (ry : RelV (kV k) u) (l : (valV kvs k).isSome = true) (h : ∀ s', Inv X pins σ (upd H a (.dK (dropK kvs k))) s' → Q () s') :
    wpAny (model X.prog X.w) A (delItem (.ref a) u) Q E s := by
  obtain ⟨z, hd, vs, rel, dd⟩ := dk_of I.hok e
  refine wpAny_delItem_slot dd.typeIs (by decide) PySem.F.slot_dict_delitem
    (call_meetsIn PySem.F.slot_dict_delitem dd.typeIs PySem.F.entry_dict_delitem (PySem.F.args_dict_delitem_2 _ _) (meets_dict_delitem_pairs (mixKind X.prog X.w) a (kV_is ry)) ⟨vs, dd, by rw [← rel.length]; exact z, by rw [← (rel.val k).isSome_eq]; exact l, fun h' dd' hs => h _ ?_⟩)
  have he : ∃ q, h'.get? a = some q := let ⟨q, _, _, hq, _⟩ := dd'; ⟨q, hq⟩
  exact d_write I (by rw [e]; exact True.intro) hs he (dk_new (Nat.le_trans (dropK_le kvs k) z) hd (rel.drop k) dd')
/-- d.pop(k[, x]), there -/
theorem d_pop {v : V} {more : List Value} {Q : Value → Shared → Prop} (I : Inv X pins σ H s) (e : H a = some (.dK kvs)) (ry : RelV (kV k) u) (l : valV kvs k = some v) (hm : more = [] ∨ ∃ x, more = [x])
    (h : ∀ w' s', Inv X pins σ (upd H a (.dK (dropK kvs k))) s' → RelV v w' → Q w' s') : wpAny (model X.prog X.w) A (call (.builtin "dict.pop") (.ref a :: u :: more)) Q E s := by
  obtain ⟨z, hd, vs, rel, dd⟩ := dk_of I.hok e
  obtain ⟨w', hw, rw'⟩ := RelO.some_of (v := v) (o := valueAt vs k) (by rw [← l]; exact rel.val k)
  have hp : (keyPart u).isSome = true := by
    cases k with
    | inl i => obtain ⟨t, q⟩ := (show ∃ t, u = Value.int i t from ry); subst q; rfl
    | inr x => obtain ⟨t, q⟩ := (show ∃ t, u = Value.str x t from ry); subst q; rfl
  have ha : argsOk "dict.pop" ⟨.ref a :: u :: more, []⟩ := by
    rcases hm with q | ⟨x, q⟩
    · subst q; exact PySem.F.args_dict_pop_2 _ _
    · subst q; exact PySem.F.args_dict_pop_3 _ _ _
  refine call_meetsIn PySem.F.slot_dict_pop dd.typeIs PySem.F.entry_dict_pop ha (meets_dict_pop_there (mixKind X.prog X.w) a (kV_is ry) more hm hp)
    ⟨vs, w', dd, by rw [← rel.length]; exact z, hw, fun h' dd' hs => h w' _ ?_ rw'⟩
  have he : ∃ q, h'.get? a = some q := let ⟨q, _, _, hq, _⟩ := dd'; ⟨q, hq⟩
  exact d_write I (by rw [e]; exact True.intro) hs he (dk_new (Nat.le_trans (dropK_le kvs k) z) hd (rel.drop k) dd')
/-- d.pop(k, x), not there -/
theorem d_popD {r : Value} {Q : Value → Shared → Prop} (I : Inv X pins σ H s) (e : H a = some (.dK kvs)) (ry : RelV (kV k) u) (l : valV kvs k = none) (h : ∀ s', Inv X pins σ H s' → Q r s') :
    wpAny (model X.prog X.w) A (call (.builtin "dict.pop") [.ref a, u, r]) Q E s := by
  obtain ⟨z, hd, vs, rel, dd⟩ := dk_of I.hok e
  have hn : valueAt vs k = none := RelO.none_of (by rw [← l]; exact rel.val k)
  have hp : (keyPart u).isSome = true := by
    cases k with
    | inl i => obtain ⟨t, q⟩ := (show ∃ t, u = Value.int i t from ry); subst q; rfl
    | inr x => obtain ⟨t, q⟩ := (show ∃ t, u = Value.str x t from ry); subst q; rfl
  exact call_meetsIn PySem.F.slot_dict_pop dd.typeIs PySem.F.entry_dict_pop (PySem.F.args_dict_pop_3 _ _ _) (meets_dict_pop_default (mixKind X.prog X.w) a (kV_is ry) hd hp r) ⟨vs, dd, hn, h _ (I.tok _)⟩
/-- d.clear() -/
theorem d_clear {Q : Value → Shared → Prop} (I : Inv X pins σ H s) (e : H a = some (.dK kvs)) (h : ∀ s', Inv X pins σ (upd H a (.dK [])) s' → Q .none s') : wpAny (model X.prog X.w) A (call (.builtin "dict.clear") [.ref a]) Q E s := by
  obtain ⟨z, hd, vs, rel, dd⟩ := dk_of I.hok e
  refine call_meetsIn PySem.F.slot_dict_clear dd.typeIs PySem.F.entry_dict_clear (PySem.F.args_dict_clear_1 _) (meets_dict_clear (mixKind X.prog X.w) a) ⟨vs, dd, by rw [← rel.length]; exact z, fun h' dd' hs => h _ ?_⟩
  have he : ∃ q, h'.get? a = some q := let ⟨q, _, _, hq, _⟩ := dd'; ⟨q, hq⟩
  exact d_write (t' := s.toks) I (by rw [e]; exact True.intro) hs he (dk_new (Nat.zero_le _) hd .nil dd')
/-- len(d) -/
theorem d_len {Q : Value → Shared → Prop} (I : Inv X pins σ H s) (e : Rd H a (.dK kvs)) (h : ∀ t s', Inv X pins σ H s' → Q (.int kvs.length t) s') : wpAny (model X.prog X.w) A (call (.builtin "len") [.ref a]) Q E s := by
  obtain ⟨z, hd, vs, rel, dd⟩ := dk_rd I.hok e
  refine call_len_dict hd dd (by rw [← rel.length]; rw [sizeLine_eq] at z; omega) ?_
  rw [← rel.length]
  exact h _ _ (I.tok _)
/-- if d -/
theorem d_truth {Q : Bool → Shared → Prop} (I : Inv X pins σ H s) (e : Rd H a (.dK kvs)) (h : ∀ s', Inv X pins σ H s' → Q (!kvs.isEmpty) s') : wpAny (model X.prog X.w) A (truthy (.ref a)) Q E s := by
  obtain ⟨z, hd, vs, rel, dd⟩ := dk_rd I.hok e
  refine wpAny_truthy_dict hd dd (by rw [← rel.length]; rw [sizeLine_eq] at z; omega) ?_
  have q : kvs.isEmpty = vs.isEmpty := by cases rel <;> rfl
  rw [← q]
  exact h _ (I.tok _)
end


/-! ### readings and rules -/
/-- the element of a subscription, not a slice -/
def NoSl (i : Expr) : Prop := ∀ ov iv, subscripted i false ov iv = operate [ov, iv] (getItem ov iv)
theorem subD_of {prog : Program} {w : World} {A : Around} {E : Value → Shared → Prop} {s : Shared} {env : Env} {value slice : Expr} {pos : Pos} {T id : String} {Q : Value → Shared → Prop}
    (hl : typeLookup (.type T) "__getitem__" = pure (some (.builtin id))) (hs : NoSl slice)
    (h : wpAny (model prog w) A (eval value env) (fun o s₁ => wpAny (model prog w) A (eval slice env) (fun i s₂ => s₂.TypeIs o T ∧ wpAny (model prog w) A (getItem o i) Q E s₂) E s₁) E s) :
    wpAny (model prog w) A (eval (.Subscript value slice pos) env) Q E s := by
  refine Subscript_ (wpAny_mono h (fun o s₁ h₁ => wpAny_mono h₁ (fun i s₂ h₂ => ?_) fun _ _ x => x) fun _ _ x => x)
  obtain ⟨hT, h₂⟩ := h₂
  unfold subscriptTail
  refine wpAny_bind ?_
  rw [getitemInPython_of_ne hT.not_modules]
  refine wpAny_bind (wpAny_specialOf hT hl ?_)
  have fin : wpAny (model prog w) A (subscripted slice false o i) (fun r s₃ => wpAny (model prog w) A (letTemporaryGo value o r >>= fun _ => pure r) Q E s₃) E s₂ := by
    rw [hs o i]
    exact wpAny_operating (wpAny_mono h₂ (fun r s₃ h₃ => wpAny_bind (wpAny_letTemporaryGo (wpAny_pure h₃))) fun _ _ x => x)
  first
    | exact wpAny_pure (wpAny_bind fin)
    | exact wpAny_bind (wpAny_pure (wpAny_bind fin))
    | exact wpAny_bind fin

theorem dict_typeIs {X : Cx} {pins : List (Addr × Obj)} {σ : St} {H : Hp} {s : Shared} {a : Addr} {y : V} {o : Option V} (I : Inv X pins σ H s) (g : DGet H a y o) : s.TypeIs (.ref a) "dict" := by
  rcases g with ⟨kvs, k, e, _, _⟩ | ⟨kvs, k, b, e, _, _, _⟩
  · obtain ⟨_, _, vs, _, dd⟩ := dk_rd I.hok e
    exact dd.typeIs
  · obtain ⟨_, _, xs, _, dd⟩ := dt_rd I.hok e
    exact dd.typeIs
theorem dict_noDict {X : Cx} {pins : List (Addr × Obj)} {σ : St} {H : Hp} {s : Shared} {a : Addr} {y : V} {o : Option V} (I : Inv X pins σ H s) (g : DGet H a y o) :
    ∀ b, Value.ref a = .ref b → ∃ ob, s.heap.get? b = some ob ∧ ob.dict = none := fun b q => by
  cases q
  rcases g with ⟨kvs, k, e, _, _⟩ | ⟨kvs, k, b, e, _, _, _⟩
  · obtain ⟨_, _, vs, _, ob, _, _, h1, h2, _⟩ := dk_rd I.hok e
    exact ⟨ob, h1, h2.2.1⟩
  · obtain ⟨_, _, xs, _, ob, _, _, h1, h2, _⟩ := dt_rd I.hok e
    exact ⟨ob, h1, h2.2.1⟩

/-- d[y] -/
def tDGet (td ty : TE) : TE := fun σ H Q => td σ H fun x H1 => ty σ H1 fun y H2 => ∃ a v, x = .ref a ∧ DGet H2 a y (some v) ∧ Q v H2
/-- y in d, y not in d -/
def tDIn (ty td : TE) : TE := fun σ H Q => ty σ H fun y H1 => td σ H1 fun x H2 => ∃ a o, x = .ref a ∧ DGet H2 a y o ∧ Q (.bl o.isSome) H2
def tDNotIn (ty td : TE) : TE := fun σ H Q => ty σ H fun y H1 => td σ H1 fun x H2 => ∃ a o, x = .ref a ∧ DGet H2 a y o ∧ Q (.bl (!o.isSome)) H2
/-- d[y] = v -/
def sDPut (td ty tv : TE) : TS := fun D σ H => tv σ H fun v H1 => td σ H1 fun x H2 => ty σ H2 fun y H3 => ∃ a H4, x = .ref a ∧ DPut H3 a y v H4 ∧ D.nx σ H4
/-- d[y] op= v -/
def sDAug (td ty tv : TE) (rd : V → V → Hp → VK → Prop) : TS := fun D σ H => td σ H fun x H1 => ty σ H1 fun y H2 => ∃ a v, x = .ref a ∧ DGet H2 a y (some v) ∧
  tv σ H2 fun y2 H3 => rd v y2 H3 fun z H4 => ∃ H5, DPut H4 a y z H5 ∧ D.nx σ H5
/-- del d[y] -/
def sDDel (td ty : TE) : TS := fun D σ H => td σ H fun x H1 => ty σ H1 fun y H2 => ∃ a kvs k, x = .ref a ∧ H2 a = some (.dK kvs) ∧ y = kV k ∧ (valV kvs k).isSome = true ∧ D.nx σ (upd H2 a (.dK (dropK kvs k)))

section
variable {X : Cx} {o i e value : Expr} {pos pos' tpos : Pos} {td ty tv : TE}
theorem pe_dget (hu : X.A.units + 1 < cLine) (ho : PE X o td) (hi : PE X i ty) (hs : NoSl i) : PE X (.Subscript o i pos) (tDGet td ty) := by
  intro pins s σ H Q I h
  refine subD_of PySem.F.slot_dict_getitem.lookup hs (thn (ho pins s σ H _ I h) fun u s1 ⟨x, H1, I1, rx, q1⟩ => thn (hi pins s1 σ H1 _ I1 q1) fun iv s2 ⟨y, H2, I2, ry, a, v, ex, g, q2⟩ => ?_)
  subst ex
  obtain rfl : u = Value.ref a := rx
  exact ⟨dict_typeIs I2 g, d_getItem hu I2 g ry fun w' s3 I3 rw' => ⟨v, H2, I3, rw', q2⟩⟩
theorem pc_din (hu : X.A.units + 1 < cLine) (hi : PE X i ty) (ho : PE X o td) : PC X .In i o (tDIn ty td) := by
  intro pins s σ H Q I h
  refine thn (hi pins s σ H _ I h) fun iv s1 ⟨y, H1, I1, ry, q1⟩ => thn (ho pins s1 σ H1 _ I1 q1) fun u s2 ⟨x, H2, I2, rx, a, ov, ex, g, q2⟩ => ?_
  subst ex
  obtain rfl : u = Value.ref a := rx
  exact d_in hu I2 g ry fun s3 I3 => ⟨.bl ov.isSome, H2, I3, rfl, q2⟩
theorem pc_dnotin (hu : X.A.units + 1 < cLine) (hi : PE X i ty) (ho : PE X o td) : PC X .NotIn i o (tDNotIn ty td) := by
  intro pins s σ H Q I h
  refine thn (hi pins s σ H _ I h) fun iv s1 ⟨y, H1, I1, ry, q1⟩ => thn (ho pins s1 σ H1 _ I1 q1) fun u s2 ⟨x, H2, I2, rx, a, ov, ex, g, q2⟩ => ?_
  subst ex
  obtain rfl : u = Value.ref a := rx
  exact d_notIn hu I2 g ry fun s3 I3 => ⟨.bl (!ov.isSome), H2, I3, rfl, q2⟩
theorem ps_dput (hu : X.A.units + 1 < cLine) (ho : PE X o td) (hi : PE X i ty) (hv : PE X value tv) (hs : swapsWith value (some (.Subscript o i pos')) pos.line X.env = pure false) :
    PS X (.Assign [.Subscript o i pos'] value pos) (sDPut td ty tv) := by
  intro pins s σ H D I h
  refine wpAny_Assign_Subscript (thn (hv pins s σ H _ I h) fun r s1 ⟨v, H1, I1, rv, q1⟩ => thn (ho pins s1 σ H1 _ I1 q1) fun u s2 ⟨x, H2, I2, rx, q2⟩ => thn (hi pins s2 σ H2 _ I2 q2) fun iv s3 ⟨y, H3, I3, ry, a, H4, ex, g, q3⟩ => ?_) hs
  subst ex
  obtain rfl : u = Value.ref a := rx
  exact d_setItem hu I3 g ry rv fun s4 I4 => ⟨σ, H4, I4, q3⟩
theorem ps_daug {op : Operator} {rd : V → V → Hp → VK → Prop} (hu : X.A.units + 1 < cLine) (ho : PE X o td) (hi : PE X i ty) (hv : PE X value tv) (hop : InOp X op rd)
    (ha : ∀ ov iv new, augStore i ov iv new = (do holding [new, ov, iv] (setItem ov iv new); release [new, ov, iv] []; pure .next)) : PS X (.AugAssign (.Subscript o i tpos) op value pos) (sDAug td ty tv rd) := by
  intro pins s σ H D I h
  refine wpAny_AugAssign_SubscriptAny (thn (ho pins s σ H _ I h) fun u s1 ⟨x, H1, I1, rx, q1⟩ => thn (hi pins s1 σ H1 _ I1 q1) fun iv s2 ⟨y, H2, I2, ry, a, v, ex, g, q2⟩ => ?_) ha
  subst ex
  obtain rfl : u = Value.ref a := rx
  refine d_getItem hu I2 g ry fun w' s3 I3 rw' => thn (hv pins s3 σ H2 _ I3 q2) fun w2 s4 ⟨y2, H3, I4, ry2, q3⟩ => thn (hop pins s4 σ H3 v y2 w' w2 _ I4 rw' ry2 q3) fun w3 s5 ⟨z, H4, I5, rz, H5, g5, q4⟩ => ?_
  exact d_setItem hu I5 g5 ry rz fun s6 I6 => ⟨σ, H5, I6, q4⟩
theorem ps_ddel (ho : PE X o td) (hi : PE X i ty) : PS X (.Delete [.Subscript o i tpos] pos) (sDDel td ty) := by
  intro pins s σ H D I h
  refine wpAny_Delete (wpAny_deleteEach_cons (wpAny_delete_Subscript (thn (ho pins s σ H _ I h) fun u s1 ⟨x, H1, I1, rx, q1⟩ => thn (hi pins s1 σ H1 _ I1 q1) fun iv s2 ⟨y, H2, I2, ry, a, kvs, k, ex, e, ey, l, q2⟩ => ?_)))
  subst ex ey
  obtain rfl : u = Value.ref a := rx
  exact d_delItem I2 e ry l fun s3 I3 => wpAny_deleteEach_nil ⟨σ, _, I3, q2⟩
end


/-! ### displays -/
theorem dk_empty {P : Program} {w : World} {H : Hp} (h : Heap) (hb : sysModules < h.objs.size) : ObjOk P w H (h.push { cls := .type "dict", data := .dict #[] }) h.objs.size (.dK []) :=
  ⟨Nat.zero_le _, beq_eq_false_iff_ne.mpr (Ne.symm (Nat.ne_of_lt hb)), [], .nil, Heap.DictOf.new h⟩
theorem dt_empty {P : Program} {w : World} {H : Hp} (h : Heap) (hb : sysModules < h.objs.size) : ObjOk P w H (h.push { cls := .type "dict", data := .dict #[] }) h.objs.size (.dT []) :=
  ⟨Nat.zero_le _, beq_eq_false_iff_ne.mpr (Ne.symm (Nat.ne_of_lt hb)), [], .nil, _, #[], 0, Heap.get?_push_size _ rfl, ⟨rfl, rfl, rfl⟩, rfl, rfl, List.nodup_nil⟩
/-- {}, to be a dict of the kind that is wanted -/
def tDNewK : TE := fun _ H Q => ∀ p, H p = none → Q (.ref p) (upd H p (.dK []))
def tDNewT : TE := fun _ H Q => ∀ p, H p = none → Q (.ref p) (upd H p (.dT []))
section
variable {X : Cx} {pos : Pos}
theorem pe_dnewK : PE X (.Dict [] [] pos) tDNewK := fun pins s σ H Q I h =>
  wpAny_Dict_empty ⟨.ref s.heap.objs.size, _, I.laid (a := s.heap.objs.size) (o := .dK []) (t' := s.toks) (fun _ _ q => Heap.get?_push_of_some _ q) (Nat.le_refl _) (dk_empty s.heap I.big), rfl, h _ (I.hok.fresh (Nat.le_refl _))⟩
theorem pe_dnewT : PE X (.Dict [] [] pos) tDNewT := fun pins s σ H Q I h =>
  wpAny_Dict_empty ⟨.ref s.heap.objs.size, _, I.laid (a := s.heap.objs.size) (o := .dT []) (t' := s.toks) (fun _ _ q => Heap.get?_push_of_some _ q) (Nat.le_refl _) (dt_empty s.heap I.big), rfl, h _ (I.hok.fresh (Nat.le_refl _))⟩
end

/-- the pairs of a display, from the left -/
def tPairs : List (TE × TE) → St → Hp → (List (V × V) → Hp → Prop) → Prop
  | [], _, H, Q => Q [] H
  | (tk, tv) :: r, σ, H, Q => tk σ H fun x H1 => tv σ H1 fun y H2 => tPairs r σ H2 fun ps H3 => Q ((x, y) :: ps) H3
abbrev VV : List (V × V) → List (Value × Value) → Prop := Paired fun p q => RelV p.1 q.1 ∧ RelV p.2 q.2
def PPs (X : Cx) (pos : Pos) (keys : List (Option Expr)) (values : List Expr) (trs : List (TE × TE)) : Prop :=
  ∀ (pins : List (Addr × Obj)) (s : Shared) (σ : St) (H : Hp) (Q : List (V × V) → Hp → Prop), Inv X pins σ H s → tPairs trs σ H Q →
    wpAny (model X.prog X.w) X.A (evalPairs (pairTrees keys values X.env pos)) (fun vs s' => ∃ ps H', Inv X pins σ H' s' ∧ VV ps vs ∧ Q ps H') X.xe s
theorem pps_nil {X : Cx} {pos : Pos} : PPs X pos [] [] [] := fun pins s σ H Q I h => pairTrees_nil_walk ⟨[], H, I, .nil, h⟩
theorem pps_cons {X : Cx} {pos : Pos} {k v : Expr} {ks : List (Option Expr)} {vs : List Expr} {tk tv : TE} {trs : List (TE × TE)} (hk : PE X k tk) (hv : PE X v tv) (hr : PPs X pos ks vs trs) :
    PPs X pos (some k :: ks) (v :: vs) ((tk, tv) :: trs) := fun pins s σ H Q I h =>
  pairTrees_cons_walk (thn (hk pins s σ H _ I h) fun u s1 ⟨x, H1, I1, rx, q1⟩ => thn (hv pins s1 σ H1 _ I1 q1) fun w2 s2 ⟨y, H2, I2, ry, q2⟩ =>
    thn (hr pins s2 σ H2 _ I2 q2) fun ws s3 ⟨ps, H3, I3, rel, q3⟩ => ⟨(x, y) :: ps, H3, I3, .cons ⟨rx, ry⟩ rel, q3⟩)

def mergeK (kvs more : List (Key × V)) : List (Key × V) := more.foldl (fun acc kv => putK acc kv.1 kv.2) kvs
theorem KV.merge : ∀ {more : List (Key × V)} {rs : List (Key × Value)} {kvs : List (Key × V)} {vs : List (Key × Value)}, KV more rs → KV kvs vs → KV (mergeK kvs more) (merged vs rs) := by
  intro more rs kvs vs r
  unfold KV at r
  induction r generalizing kvs vs with
  | nil => intro q; exact q
  | @cons p q ps qs h t ih =>
    intro r0
    have e : KV (putK kvs p.1 p.2) (stored vs q.1 q.2) := by
      have := r0.put p.1 h.2
      rw [← h.1]; exact this
    exact ih e
theorem length_mergeK : ∀ (more kvs : List (Key × V)), (mergeK kvs more).length ≤ kvs.length + more.length
  | [], kvs => by show kvs.length ≤ kvs.length + 0; omega
  | p :: r, kvs => by
    have h1 := length_mergeK r (putK kvs p.1 p.2)
    have h2 := length_putK kvs p.1 p.2
    show (mergeK (putK kvs p.1 p.2) r).length ≤ _
    rw [List.length_cons]; omega
theorem carries_of {P : Program} {w : World} : ∀ {kvs : List (Key × V)} {ws : List (Value × Value)}, VV (kvs.map fun kv => (kV kv.1, kv.2)) ws → ∃ rs, Carries (mixKind P w) ws rs ∧ KV kvs rs
  | [], _, r => by rw [List.map_nil] at r; cases r; exact ⟨[], True.intro, .nil⟩
  | p :: kvs, _, r => by
    rw [List.map_cons] at r
    cases r with
    | @cons a b as bs h t =>
      obtain ⟨rs, c, q⟩ := carries_of (P := P) (w := w) t
      obtain ⟨b1, b2⟩ := b
      exact ⟨(p.1, b2) :: rs, ⟨kV_is h.1, rfl, c⟩, .cons ⟨rfl, h.2⟩ q⟩
/-- {k: v, ..} with keys ints and texts; the new dict stands empty while the pairs are made -/
def tDisp (trs : List (TE × TE)) : TE := fun σ H Q => ∀ p, H p = none → tPairs trs σ (upd H p (.dK [])) fun ps H2 => H2 p = some (.dK []) ∧ ∃ kvs : List (Key × V), ps = kvs.map (fun kv => (kV kv.1, kv.2)) ∧ kvs.length ≤ 15 ∧ Q (.ref p) (upd H2 p (.dK (mergeK [] kvs)))
theorem pe_disp {X : Cx} {pos : Pos} {keys : List (Option Expr)} {values : List Expr} {trs : List (TE × TE)} (h : PPs X pos keys values trs) (hall : keys.all (·.isSome) = true) (hl : keys.length = values.length) (h0 : keys ≠ [])
    (h15 : keys.length ≤ 15) : PE X (.Dict keys values pos) (tDisp trs) := by
  intro pins s σ H Q I q
  have hn := I.hok.fresh (Nat.le_refl s.heap.objs.size)
  have I1 := I.laid (a := s.heap.objs.size) (o := .dK []) (h' := s.heap.push { cls := .type "dict", data := .dict #[] }) (t' := s.toks) (fun _ _ q => Heap.get?_push_of_some _ q) (Nat.le_refl _) (dk_empty s.heap I.big)
  refine wpAny_Dict_walk (knd := mixKind X.prog X.w) hall hl h0 h15 (thn (h pins _ σ _ _ I1 (q _ hn)) fun ws s2 ⟨ps, H2, I2, rel, e, kvs, ep, lk, q2⟩ => ?_)
  subst ep
  obtain ⟨rs, c, rk⟩ := carries_of (P := X.prog) (w := X.w) rel
  obtain ⟨z, hd, vs0, r0, dd⟩ := dk_of I2.hok e
  cases r0
  refine ⟨rs, c, dd, fun h' dd' hs => ⟨.ref s.heap.objs.size, _, ?_, rfl, q2⟩⟩
  have hz : (mergeK [] kvs).length ≤ sizeLine := by
    have h1 := length_mergeK kvs []
    rw [List.length_nil] at h1
    rw [sizeLine_eq]; omega
  have he : ∃ q, h'.get? s.heap.objs.size = some q := let ⟨q, _, _, hq, _⟩ := dd'; ⟨q, hq⟩
  exact d_write I2 (by rw [e]; exact True.intro) hs he (dk_new hz hd (rk.merge .nil) dd')


/-! ### methods -/
/-- a method call o.m(e) of a built-in, with one argument: what must be seen of the text -/
structure M1 (X : Cx) (o : Expr) (m : Str) (apos : Pos) (e : Expr) (cpos : Pos) : Prop where
  base : attributeBase o m X.env (eval o X.env) = eval o X.env
  few : ((backTo cpos (starEach [e] X.env)).all (fun x => !x.1) && (backToKw cpos (keywordEach [] X.env)).all (fun x => x.1.isSome)
    && decide (([e] : List Expr).length + ([] : List Keyword).length + (if ([] : List Keyword).isEmpty then 0 else 1) < 30)) = true
  line : (apos.endLine == cpos.line) = true
  trees : backTo cpos (starEach [e] X.env) = [(false, eval e X.env)]
structure M2 (X : Cx) (o : Expr) (m : Str) (apos : Pos) (e f : Expr) (cpos : Pos) : Prop where
  base : attributeBase o m X.env (eval o X.env) = eval o X.env
  few : ((backTo cpos (starEach [e, f] X.env)).all (fun x => !x.1) && (backToKw cpos (keywordEach [] X.env)).all (fun x => x.1.isSome)
    && decide (([e, f] : List Expr).length + ([] : List Keyword).length + (if ([] : List Keyword).isEmpty then 0 else 1) < 30)) = true
  line : (apos.endLine == cpos.line) = true
  trees : backTo cpos (starEach [e, f] X.env) = [(false, eval e X.env), (false, eval f X.env)]

/-- a is a dict, whatever its keys -/
def IsD (H : Hp) (a : Addr) : Prop := (∃ kvs, Rd H a (.dK kvs)) ∨ ∃ kvs, Rd H a (.dT kvs)
theorem isD_at {X : Cx} {pins : List (Addr × Obj)} {σ : St} {H : Hp} {s : Shared} {a : Addr} (I : Inv X pins σ H s) (d : IsD H a) :
    s.TypeIs (.ref a) "dict" ∧ (∀ b, Value.ref a = .ref b → ∃ ob, s.heap.get? b = some ob ∧ ob.dict = none) ∧ (a == sysModules) = false := by
  rcases d with ⟨kvs, e⟩ | ⟨kvs, e⟩
  · obtain ⟨_, hd, vs, _, dd⟩ := dk_rd I.hok e
    refine ⟨dd.typeIs, fun b q => ?_, hd⟩
    cases q
    obtain ⟨ob, _, _, h1, h2, _⟩ := dd
    exact ⟨ob, h1, h2.2.1⟩
  · obtain ⟨_, hd, xs, _, dd⟩ := dt_rd I.hok e
    refine ⟨dd.typeIs, fun b q => ?_, hd⟩
    cases q
    obtain ⟨ob, _, _, h1, h2, _⟩ := dd
    exact ⟨ob, h1, h2.2.1⟩

section
variable {X : Cx} {pins : List (Addr × Obj)} {σ : St} {H : Hp} {s : Shared} {a : Addr} {y d : V} {u r : Value} {o : Option V} {A : Around} {E : Value → Shared → Prop}
/-- d.get(y) -/
theorem d_get1 {Q : Value → Shared → Prop} (hu : A.units + 1 < cLine) (I : Inv X pins σ H s) (g : DGet H a y o) (ry : RelV y u) (h : ∀ w' s', Inv X pins σ H s' → RelV (o.getD .non) w' → Q w' s') :
    wpAny (model X.prog X.w) A (call (.builtin "dict.get") [.ref a, u]) Q E s := by
  rcases g with ⟨kvs, k, e, ey, l⟩ | ⟨kvs, k, b, e, ey, eb, l⟩
  · subst ey
    obtain ⟨z, hd, vs, rel, dd⟩ := dk_rd I.hok e
    refine call_meetsIn PySem.F.slot_dict_get dd.typeIs PySem.F.entry_dict_get (PySem.F.args_dict_get_2 _ _) (meets_dict_get (mixKind X.prog X.w) a (kV_is ry) hd) ⟨_, dd.mapOf, h _ _ (I.tok _) ?_⟩
    rw [l]
    exact (rel.val k).getD rfl
  · subst ey
    cases (show u = Value.ref b from ry)
    obtain ⟨z, hd, xs, rel, dd⟩ := dt_rd I.hok e
    refine call_meetsIn PySem.F.slot_dict_get dd.typeIs PySem.F.entry_dict_get (PySem.F.args_dict_get_2 _ _) (meetsH_dict_get (tupleKind (mixKind X.prog X.w)) a b hd) ⟨tupleKind_room_in1 hu, k, xs, key_of I.hok eb, dd, h _ _ (I.tok _) ?_⟩
    rw [l]
    exact (rel.val k).getD rfl
/-- d.get(y, x) -/
theorem d_get2 {Q : Value → Shared → Prop} (hu : A.units + 1 < cLine) (I : Inv X pins σ H s) (g : DGet H a y o) (ry : RelV y u) (rd : RelV d r) (h : ∀ w' s', Inv X pins σ H s' → RelV (o.getD d) w' → Q w' s') :
    wpAny (model X.prog X.w) A (call (.builtin "dict.get") [.ref a, u, r]) Q E s := by
  rcases g with ⟨kvs, k, e, ey, l⟩ | ⟨kvs, k, b, e, ey, eb, l⟩
  · subst ey
    obtain ⟨z, hd, vs, rel, dd⟩ := dk_rd I.hok e
    refine call_meetsIn PySem.F.slot_dict_get dd.typeIs PySem.F.entry_dict_get (PySem.F.args_dict_get_3 _ _ _) (meets_dict_get_default (mixKind X.prog X.w) a (kV_is ry) hd r) ⟨_, dd.mapOf, h _ _ (I.tok _) ?_⟩
    rw [l]
    exact (rel.val k).getD rd
  · subst ey
    cases (show u = Value.ref b from ry)
    obtain ⟨z, hd, xs, rel, dd⟩ := dt_rd I.hok e
    refine call_meetsIn PySem.F.slot_dict_get dd.typeIs PySem.F.entry_dict_get (PySem.F.args_dict_get_3 _ _ _) (meetsH_dict_get_default (tupleKind (mixKind X.prog X.w)) a b hd r) ⟨tupleKind_room_in1 hu, k, xs, key_of I.hok eb, dd, h _ _ (I.tok _) ?_⟩
    rw [l]
    exact (rel.val k).getD rd
end

def tDGet1 (td ty : TE) : TE := fun σ H Q => td σ H fun x H1 => ∃ a, x = .ref a ∧ IsD H1 a ∧ ty σ H1 fun y H2 => ∃ o, DGet H2 a y o ∧ Q (o.getD .non) H2
def tDGet2 (td ty tx : TE) : TE := fun σ H Q => td σ H fun x H1 => ∃ a, x = .ref a ∧ IsD H1 a ∧ ty σ H1 fun y H2 => tx σ H2 fun z H3 => ∃ o, DGet H3 a y o ∧ Q (o.getD z) H3
/-- d.pop(k): there; d.pop(k, x): there or not -/
def tDPop1 (td ty : TE) : TE := fun σ H Q => td σ H fun x H1 => ∃ a, x = .ref a ∧ IsD H1 a ∧ ty σ H1 fun y H2 => ∃ kvs k v, H2 a = some (.dK kvs) ∧ y = kV k ∧ valV kvs k = some v ∧ Q v (upd H2 a (.dK (dropK kvs k)))
def tDPop2 (td ty tx : TE) : TE := fun σ H Q => td σ H fun x H1 => ∃ a, x = .ref a ∧ IsD H1 a ∧ ty σ H1 fun y H2 => tx σ H2 fun z H3 => ∃ kvs k, H3 a = some (.dK kvs) ∧ y = kV k ∧
  (∀ v, valV kvs k = some v → Q v (upd H3 a (.dK (dropK kvs k)))) ∧ (valV kvs k = none → Q z H3)
section
variable {X : Cx} {o e f : Expr} {apos cpos : Pos} {td ty tx : TE}
theorem pe_dget1 (hu : X.A.units + 1 < cLine) (ho : PE X o td) (he : PE X e ty) (m : M1 X o "get" apos e cpos) : PE X (.Call (.Attribute o "get" apos) [e] [] cpos) (tDGet1 td ty) := by
  intro pins s σ H Q I h
  refine wpAny_Call_method m.base m.few m.line PySem.F.plainAttrs_dict PySem.F.slot_dict_get PySem.F.type_dict_get (thn (ho pins s σ H _ I h) fun u s1 ⟨x, H1, I1, rx, a, ex, d, q1⟩ => ?_)
  subst ex
  obtain rfl : u = Value.ref a := rx
  obtain ⟨t1, t2, _⟩ := isD_at I1 d
  refine ⟨t1, t2, ?_⟩
  rw [m.trees]
  refine Calls.callWith_builtin rfl (Calls.evalArgs_plain (Calls.spliced_cons (thn (he pins s1 σ H1 _ I1 q1) fun iv s2 ⟨y, H2, I2, ry, ov, g, q2⟩ => Calls.spliced_nil ?_)))
  exact d_get1 hu I2 g ry fun w' s3 I3 rw' => ⟨_, H2, I3, rw', q2⟩
theorem pe_dget2 (hu : X.A.units + 1 < cLine) (ho : PE X o td) (he : PE X e ty) (hf : PE X f tx) (m : M2 X o "get" apos e f cpos) : PE X (.Call (.Attribute o "get" apos) [e, f] [] cpos) (tDGet2 td ty tx) := by
  intro pins s σ H Q I h
  refine wpAny_Call_method m.base m.few m.line PySem.F.plainAttrs_dict PySem.F.slot_dict_get PySem.F.type_dict_get (thn (ho pins s σ H _ I h) fun u s1 ⟨x, H1, I1, rx, a, ex, d, q1⟩ => ?_)
  subst ex
  obtain rfl : u = Value.ref a := rx
  obtain ⟨t1, t2, _⟩ := isD_at I1 d
  refine ⟨t1, t2, ?_⟩
  rw [m.trees]
  refine Calls.callWith_builtin rfl (Calls.evalArgs_plain (Calls.spliced_cons (thn (he pins s1 σ H1 _ I1 q1) fun iv s2 ⟨y, H2, I2, ry, q2⟩ =>
    Calls.spliced_cons (thn (hf pins s2 σ H2 _ I2 q2) fun fv s3 ⟨z, H3, I3, rz, ov, g, q3⟩ => Calls.spliced_nil ?_))))
  exact d_get2 hu I3 g ry rz fun w' s4 I4 rw' => ⟨_, H3, I4, rw', q3⟩
theorem pe_dpop1 (ho : PE X o td) (he : PE X e ty) (m : M1 X o "pop" apos e cpos) : PE X (.Call (.Attribute o "pop" apos) [e] [] cpos) (tDPop1 td ty) := by
  intro pins s σ H Q I h
  refine wpAny_Call_method m.base m.few m.line PySem.F.plainAttrs_dict PySem.F.slot_dict_pop PySem.F.type_dict_pop (thn (ho pins s σ H _ I h) fun u s1 ⟨x, H1, I1, rx, a, ex, d, q1⟩ => ?_)
  subst ex
  obtain rfl : u = Value.ref a := rx
  obtain ⟨t1, t2, _⟩ := isD_at I1 d
  refine ⟨t1, t2, ?_⟩
  rw [m.trees]
  refine Calls.callWith_builtin rfl (Calls.evalArgs_plain (Calls.spliced_cons (thn (he pins s1 σ H1 _ I1 q1) fun iv s2 ⟨y, H2, I2, ry, kvs, k, v, ea, ey, l, q2⟩ => Calls.spliced_nil ?_)))
  subst ey
  exact d_pop I2 ea ry l (.inl rfl) fun w' s3 I3 rw' => ⟨v, _, I3, rw', q2⟩
theorem pe_dpop2 (ho : PE X o td) (he : PE X e ty) (hf : PE X f tx) (m : M2 X o "pop" apos e f cpos) : PE X (.Call (.Attribute o "pop" apos) [e, f] [] cpos) (tDPop2 td ty tx) := by
  intro pins s σ H Q I h
  refine wpAny_Call_method m.base m.few m.line PySem.F.plainAttrs_dict PySem.F.slot_dict_pop PySem.F.type_dict_pop (thn (ho pins s σ H _ I h) fun u s1 ⟨x, H1, I1, rx, a, ex, d, q1⟩ => ?_)
  subst ex
  obtain rfl : u = Value.ref a := rx
  obtain ⟨t1, t2, _⟩ := isD_at I1 d
  refine ⟨t1, t2, ?_⟩
  rw [m.trees]
  refine Calls.callWith_builtin rfl (Calls.evalArgs_plain (Calls.spliced_cons (thn (he pins s1 σ H1 _ I1 q1) fun iv s2 ⟨y, H2, I2, ry, q2⟩ =>
    Calls.spliced_cons (thn (hf pins s2 σ H2 _ I2 q2) fun fv s3 ⟨z, H3, I3, rz, kvs, k, ea, ey, q3, q4⟩ => Calls.spliced_nil ?_))))
  subst ey
  cases l : valV kvs k with
  | some v => exact d_pop I3 ea ry l (.inr ⟨fv, rfl⟩) fun w' s4 I4 rw' => ⟨v, _, I4, rw', q3 v l⟩
  | none => exact d_popD I3 ea ry l fun s4 I4 => ⟨z, H3, I4, rz, q4 l⟩
end

/-! ### dict(d): a copy -/
section
variable {X : Cx} {pins : List (Addr × Obj)} {σ : St} {H : Hp} {s : Shared} {a : Addr} {kvs : List (Key × V)} {A : Around} {E : Value → Shared → Prop}
theorem d_copyOf {Q : Value → Shared → Prop} (I : Inv X pins σ H s) (e : Rd H a (.dK kvs)) (h : ∀ p s', H p = none → Inv X pins σ (upd H p (.dK kvs)) s' → Q (.ref p) s') : wpAny (model X.prog X.w) A (call (.type "dict") [.ref a]) Q E s := by
  obtain ⟨z, hd, vs, rel, dd⟩ := dk_rd I.hok e
  refine kt_call_dict hd dd (by rw [← rel.length]; exact z) fun h' dd' hs => ?_
  refine h _ _ (I.hok.fresh (Nat.le_refl _)) (I.laid (a := s.heap.objs.size) (o := .dK kvs) (t' := s.toks) (fun b q hq => ?_) (Nat.le_refl _) (dk_new z (beq_eq_false_iff_ne.mpr (Ne.symm (Nat.ne_of_lt I.big))) rel dd'))
  exact (hs.2 b (Nat.ne_of_lt (Heap.lt_size hq))).trans (Heap.get?_push_of_some _ hq)
end


section
variable {X : Cx} {pins : List (Addr × Obj)} {σ : St} {H : Hp} {s : Shared} {a : Addr} {y : V} {u : Value} {A : Around} {E : Value → Shared → Prop}
/-- d[y], not there: a KeyError -/
theorem d_missing {Q : Value → Shared → Prop} (hu : A.units + 1 < cLine) (hh : A.handled = none) (I : Inv X pins σ H s) (g : DGet H a y none) (ry : RelV y u)
    (h : ∀ h' e t', Heap.NewExc s.heap h' e "KeyError" → E (.ref e) { s with heap := h', toks := t' }) : wpAny (model X.prog X.w) A (getItem (.ref a) u) Q E s := by
  rcases g with ⟨kvs, k, e, ey, l⟩ | ⟨kvs, k, b, e, ey, eb, l⟩
  · subst ey
    obtain ⟨z, hd, vs, rel, dd⟩ := dk_rd I.hok e
    have hn : valueAt vs k = none := RelO.none_of (by rw [l]; exact rel.val k)
    exact wpAny_getItem_missing_of (kV_is ry) hd hh dd.mapOf hn fun h' ex ne => h h' ex _ ne
  · subst ey
    cases (show u = Value.ref b from ry)
    obtain ⟨z, hd, xs, rel, dd⟩ := dt_rd I.hok e
    have hn : (atKey xs k).map (·.2) = none := RelO.none_of (by rw [l]; exact rel.val k)
    exact wpAny_getItem_missing_heap (tupleKind_room_in1 hu) (key_of I.hok eb) hd hh dd (Option.map_eq_none_iff.mp hn) fun h' ex ne => h h' ex _ ne
end
end L2

namespace L2
open PySem PySem.Spec PyProof.Rows
section
variable {X : Cx}
/-- len of a dict -/
theorem call_lenD : CallR X (.builtin "len") (fun xs H Q => ∃ a kvs, xs = [V.ref a] ∧ H a = some (.dK kvs) ∧ Q (.int kvs.length) H) := by
  intro pins s σ H xs us Q I r h
  obtain ⟨a, kvs, rfl, ha, q⟩ := h
  obtain ⟨u, rfl, ru⟩ := vals1 r
  cases ru
  exact d_len I (.inl ha) fun t s' I' => ⟨.int kvs.length, H, I', ⟨t, rfl⟩, q⟩
end
/-! ### a dict's pairs: keys that differ -/
section
variable {κ : Type} [DecidableEq κ]
theorem valV_not {kvs : List (κ × V)} {k : κ} (h : valV kvs k = none) : ¬ k ∈ kvs.map (·.1) := by
  intro m
  obtain ⟨p, hp, e⟩ := List.mem_map.mp m
  have q : (kvs.any fun kv => decide (kv.1 = k)) = true := List.any_eq_true.mpr ⟨p, hp, decide_eq_true e⟩
  rw [valV_any, h] at q
  exact absurd q (by simp)
theorem valV_in {kvs : List (κ × V)} {k : κ} {v : V} (h : valV kvs k = some v) : k ∈ kvs.map (·.1) := by
  have q : (kvs.any fun kv => decide (kv.1 = k)) = true := by
    rw [valV_any, h]
    all_goals rfl
  obtain ⟨p, hp, e⟩ := List.any_eq_true.mp q
  exact List.mem_map.mpr ⟨p, hp, of_decide_eq_true e⟩
theorem nd_snoc : ∀ {l : List κ} {k : κ}, l.Nodup → ¬ k ∈ l → (l ++ [k]).Nodup
  | [], k, _, _ => by simp
  | a :: r, k, h, hk => by
    obtain ⟨h1, h2⟩ := List.nodup_cons.mp h
    show (a :: (r ++ [k])).Nodup
    refine List.nodup_cons.mpr ⟨fun m => ?_, nd_snoc h2 fun m => hk (List.mem_cons.mpr (Or.inr m))⟩
    rcases List.mem_append.mp m with q | q
    · exact h1 q
    · exact hk (List.mem_cons.mpr (Or.inl (List.mem_singleton.mp q).symm))
theorem nd_putK {kvs : List (κ × V)} {k : κ} (v : V) (hn : (kvs.map (·.1)).Nodup) (h : valV kvs k = none) : ((putK kvs k v).map (·.1)).Nodup := by
  rw [putK_new v h, List.map_append]
  exact nd_snoc hn (valV_not h)
theorem dropK_pos {p : κ × V} {r : List (κ × V)} {k : κ} (e : p.1 = k) : dropK (p :: r) k = dropK r k := by
  unfold dropK
  rw [List.filter_cons, if_neg (by simp [e])]
theorem dropK_neg {p : κ × V} {r : List (κ × V)} {k : κ} (e : ¬ p.1 = k) : dropK (p :: r) k = p :: dropK r k := by
  unfold dropK
  rw [List.filter_cons, if_pos (by simp [e])]
theorem dropK_no : ∀ {kvs : List (κ × V)} {k : κ}, ¬ k ∈ kvs.map (·.1) → dropK kvs k = kvs
  | [], _, _ => rfl
  | p :: r, k, h => by
    have h' : ¬ k ∈ r.map (·.1) := fun m => by
      obtain ⟨q, hq, e⟩ := List.mem_map.mp m
      exact h (List.mem_map.mpr ⟨q, List.mem_cons.mpr (Or.inr hq), e⟩)
    rw [dropK_neg fun e => h (List.mem_map.mpr ⟨p, List.mem_cons.mpr (Or.inl rfl), e⟩), dropK_no h']
theorem dropK_mem {kvs : List (κ × V)} {k : κ} {p : κ × V} (h : p ∈ dropK kvs k) : p ∈ kvs := (List.mem_filter.mp h).1
theorem nd_dropK : ∀ {kvs : List (κ × V)} {k : κ}, (kvs.map (·.1)).Nodup → ((dropK kvs k).map (·.1)).Nodup
  | [], _, _ => List.nodup_nil
  | p :: r, k, h => by
    have h : (p.1 :: r.map (·.1)).Nodup := h
    obtain ⟨h1, h2⟩ := List.nodup_cons.mp h
    by_cases e : p.1 = k
    · rw [dropK_pos e]
      exact nd_dropK h2
    · rw [dropK_neg e]
      show (p.1 :: (dropK r k).map (·.1)).Nodup
      refine List.nodup_cons.mpr ⟨fun m => h1 ?_, nd_dropK h2⟩
      obtain ⟨q, hq, eq⟩ := List.mem_map.mp m
      exact List.mem_map.mpr ⟨q, dropK_mem hq, eq⟩
theorem dropK_len : ∀ {kvs : List (κ × V)} {k : κ}, (kvs.map (·.1)).Nodup → k ∈ kvs.map (·.1) → (dropK kvs k).length + 1 = kvs.length
  | [], _, _, m => by simp at m
  | p :: r, k, h, m => by
    have h : (p.1 :: r.map (·.1)).Nodup := h
    have m : k = p.1 ∨ k ∈ r.map (·.1) := List.mem_cons.mp m
    obtain ⟨h1, h2⟩ := List.nodup_cons.mp h
    by_cases e : p.1 = k
    · subst e
      rw [dropK_pos rfl, dropK_no h1]
      all_goals rfl
    · have m' : k ∈ r.map (·.1) := m.resolve_left fun z => e z.symm
      have q := dropK_len h2 m'
      rw [dropK_neg e, List.length_cons, List.length_cons]
      omega
end
end L2

end
section
set_option Elab.async false
set_option linter.all false
set_option maxRecDepth 100000
set_option maxHeartbeats 4100000
namespace L3
open PySem L2
/-- a value with all that it holds: lists and dicts by what they hold -/
inductive D where
  | non
  | bl (b : Bool)
  | int (i : Int)
  | str (x : Str)
  | tup (xs : List D)
  | lst (xs : List D)
  | scr (ns : List Int)
  | dic (ks : List Key) (xs : List D)
  | dicT (ks : List (List Key)) (xs : List D)
/-- the law's own script: a list that is never written -/
def Scr (K : PySem.W.Frag) (H : Hp) (a : Addr) (ns : List Int) : Prop := (∃ o, H a = some (.frz o (.lst (ns.map V.int)))) ∨ SqL K (fun _ => none) a (ns.map V.int)
/- v stands for the deep value; the lists and dicts on the way lie in S -/
mutual
def Dn (K : PySem.W.Frag) (S : Addr → Prop) (H : Hp) : D → V → Prop
  | .non, v => v = .non
  | .bl b, v => v = .bl b
  | .int i, v => v = .int i
  | .str x, v => v = .str x
  | .tup ds, v => ∃ a xs, v = .ref a ∧ SqT K H a xs ∧ Dns K S H ds xs
  | .lst ds, v => ∃ a xs, v = .ref a ∧ H a = some (.lst xs) ∧ S a ∧ Dns K S H ds xs
  | .scr ns, v => ∃ a, v = .ref a ∧ Scr K H a ns
  | .dic ks ds, v => ∃ a xs, v = .ref a ∧ H a = some (.dK (ks.zip xs)) ∧ S a ∧ ks.length = xs.length ∧ Dns K S H ds xs
  | .dicT ks ds, v => ∃ a xs, v = .ref a ∧ H a = some (.dT (ks.zip xs)) ∧ S a ∧ ks.length = xs.length ∧ Dns K S H ds xs
def Dns (K : PySem.W.Frag) (S : Addr → Prop) (H : Hp) : List D → List V → Prop
  | [], xs => xs = []
  | d :: ds, xs => ∃ v r, xs = v :: r ∧ Dn K S H d v ∧ Dns K S H ds r
end
/- nothing that changes on the way -/
mutual
def D.imm : D → Bool
  | .non => true
  | .bl _ => true
  | .int _ => true
  | .str _ => true
  | .tup ds => imms ds
  | .lst _ => false
  | .scr _ => true
  | .dic _ _ => false
  | .dicT _ _ => false
def imms : List D → Bool
  | [] => true
  | d :: ds => d.imm && imms ds
end
/-- what holds under every change that leaves what is told alone -/
structure Fits (K : PySem.W.Frag) (S S' : Addr → Prop) (H H' : Hp) : Prop where
  t : ∀ a xs, SqT K H a xs → SqT K H' a xs
  s : ∀ a ns, Scr K H a ns → Scr K H' a ns
  l : ∀ a xs, H a = some (.lst xs) → S a → H' a = some (.lst xs) ∧ S' a
  d : ∀ a xs, H a = some (.dK xs) → S a → H' a = some (.dK xs) ∧ S' a
  e : ∀ a xs, H a = some (.dT xs) → S a → H' a = some (.dT xs) ∧ S' a
section
variable {K : PySem.W.Frag} {S S' : Addr → Prop} {H H' : Hp}
mutual
theorem Dn.fits (f : Fits K S S' H H') : ∀ (d : D) (v : V), Dn K S H d v → Dn K S' H' d v
  | .non, v, h => by simpa only [Dn] using h
  | .bl b, v, h => by simpa only [Dn] using h
  | .int i, v, h => by simpa only [Dn] using h
  | .str x, v, h => by simpa only [Dn] using h
  | .tup ds, v, h => by
    simp only [Dn] at h ⊢
    obtain ⟨a, xs, e, q, r⟩ := h
    exact ⟨a, xs, e, f.t a xs q, Dns.fits f ds xs r⟩
  | .lst ds, v, h => by
    simp only [Dn] at h ⊢
    obtain ⟨a, xs, e, q, s, r⟩ := h
    obtain ⟨q', s'⟩ := f.l a xs q s
    exact ⟨a, xs, e, q', s', Dns.fits f ds xs r⟩
  | .scr ns, v, h => by
    simp only [Dn] at h ⊢
    obtain ⟨a, e, q⟩ := h
    exact ⟨a, e, f.s a ns q⟩
  | .dic ks ds, v, h => by
    simp only [Dn] at h ⊢
    obtain ⟨a, xs, e, q, s, l, r⟩ := h
    obtain ⟨q', s'⟩ := f.d a _ q s
    exact ⟨a, xs, e, q', s', l, Dns.fits f ds xs r⟩
  | .dicT ks ds, v, h => by
    simp only [Dn] at h ⊢
    obtain ⟨a, xs, e, q, s, l, r⟩ := h
    obtain ⟨q', s'⟩ := f.e a _ q s
    exact ⟨a, xs, e, q', s', l, Dns.fits f ds xs r⟩
theorem Dns.fits (f : Fits K S S' H H') : ∀ (ds : List D) (xs : List V), Dns K S H ds xs → Dns K S' H' ds xs
  | [], xs, h => by simpa only [Dns] using h
  | d :: ds, xs, h => by
    simp only [Dns] at h ⊢
    obtain ⟨v, r, e, h1, h2⟩ := h
    exact ⟨v, r, e, Dn.fits f d v h1, Dns.fits f ds r h2⟩
end
mutual
/-- what never changes lies nowhere -/
theorem Dn.imm {d : D} (hi : d.imm = true) {v : V} (h : Dn K S H d v) : Dn K S' H d v := by
  match d, hi, h with
  | .non, _, h => simpa only [Dn] using h
  | .bl b, _, h => simpa only [Dn] using h
  | .int i, _, h => simpa only [Dn] using h
  | .str x, _, h => simpa only [Dn] using h
  | .tup ds, hi, h =>
    simp only [Dn] at h ⊢
    obtain ⟨a, xs, e, q, r⟩ := h
    exact ⟨a, xs, e, q, Dns.imm (ds := ds) (by simpa only [D.imm] using hi) r⟩
  | .scr ns, _, h => simpa only [Dn] using h
theorem Dns.imm {ds : List D} (hi : imms ds = true) {xs : List V} (h : Dns K S H ds xs) : Dns K S' H ds xs := by
  match ds, hi, h with
  | [], _, h => simpa only [Dns] using h
  | d :: ds, hi, h =>
    simp only [imms, Bool.and_eq_true] at hi
    simp only [Dns] at h ⊢
    obtain ⟨v, r, e, h1, h2⟩ := h
    exact ⟨v, r, e, Dn.imm hi.1 h1, Dns.imm hi.2 h2⟩
end
theorem Same.tup (e : Same H H') {a : Addr} {xs : List V} (h : SqT K H a xs) : SqT K H' a xs := by
  rcases h with (h | ⟨o, h⟩) | h
  · exact .inl (.inl (e _ _ h))
  · exact .inl (.inr ⟨o, e _ _ h⟩)
  · exact .inr h

theorem SqL.some {a : Addr} {xs : List V} (h : SqL K (fun _ => none) a xs) : SqL K H a xs := by
  rcases h with (h | ⟨o, h⟩) | h
  · cases h
  · cases h
  · exact .inr h
theorem Scr.sq {a : Addr} {ns : List Int} (h : Scr K H a ns) : SqL K H a (ns.map V.int) := by
  rcases h with ⟨o, h⟩ | h
  · exact .inl (.inr ⟨o, h⟩)
  · exact SqL.some h
/-- an object that may be written -/
def Wr (H : Hp) (p : Addr) : Prop := (∃ xs, H p = some (.lst xs)) ∨ (∃ xs, H p = some (.dK xs)) ∨ ∃ xs, H p = some (.dT xs)
theorem Wr.tup {p a : Addr} {o : HO} {xs : List V} (w : Wr H p) (h : SqT K H a xs) : SqT K (upd H p o) a xs := by
  have ne : ∀ u, H a = some u → (u = .tup xs ∨ ∃ o, u = .frz o (.tup xs)) → a ≠ p := by
    intro u hu hk e
    subst e
    rcases w with ⟨ys, w⟩ | ⟨ys, w⟩ | ⟨ys, w⟩ <;> rw [hu] at w <;> cases w <;> rcases hk with hk | ⟨o, hk⟩ <;> cases hk
  rcases h with (h | ⟨o, h⟩) | h
  · exact .inl (.inl (by rw [upd_ne (ne _ h (.inl rfl))]; exact h))
  · exact .inl (.inr ⟨o, by rw [upd_ne (ne _ h (.inr ⟨o, rfl⟩))]; exact h⟩)
  · exact .inr h
theorem Wr.scr {p a : Addr} {o : HO} {ns : List Int} (w : Wr H p) (h : Scr K H a ns) : Scr K (upd H p o) a ns := by
  rcases h with ⟨ob, h⟩ | h
  · refine .inl ⟨ob, ?_⟩
    rw [upd_ne]
    · exact h
    · intro e
      subst e
      rcases w with ⟨ys, w⟩ | ⟨ys, w⟩ | ⟨ys, w⟩ <;> rw [h] at w <;> cases w
  · exact .inr h
theorem Fits.same (e : Same H H') : Fits K S S H H' :=
  ⟨fun a xs h => Same.tup e h, fun a ns h => h.elim (fun ⟨o, h⟩ => .inl ⟨o, e _ _ h⟩) .inr, fun a xs h s => ⟨e _ _ h, s⟩, fun a xs h s => ⟨e _ _ h, s⟩, fun a xs h s => ⟨e _ _ h, s⟩⟩
theorem Fits.mono (m : ∀ a, S a → S' a) : Fits K S S' H H :=
  ⟨fun _ _ h => h, fun _ _ h => h, fun a _ h s => ⟨h, m a s⟩, fun a _ h s => ⟨h, m a s⟩, fun a _ h s => ⟨h, m a s⟩⟩
/-- a new place is not on the way -/
theorem Fits.fresh {p : Addr} (hp : H p = none) : Fits K S (fun a => S a ∧ a ≠ p) H H :=
  ⟨fun _ _ h => h, fun _ _ h => h, fun a _ h s => ⟨h, s, ne_of_none h hp⟩, fun a _ h s => ⟨h, s, ne_of_none h hp⟩, fun a _ h s => ⟨h, s, ne_of_none h hp⟩⟩
/-- a place that is not on the way is written -/
theorem Fits.upd {p : Addr} {o : HO} (w : Wr H p) (hs : ¬ S p) : Fits K S S H (upd H p o) := by
  have ne : ∀ a, S a → a ≠ p := fun a s e => hs (e ▸ s)
  exact ⟨fun a xs h => w.tup h, fun a ns h => w.scr h, fun a xs h s => ⟨by rw [upd_ne (ne a s)]; exact h, s⟩, fun a xs h s => ⟨by rw [upd_ne (ne a s)]; exact h, s⟩, fun a xs h s => ⟨by rw [upd_ne (ne a s)]; exact h, s⟩⟩
theorem Fits.trans {S'' : Addr → Prop} {H'' : Hp} (a : Fits K S S' H H') (b : Fits K S' S'' H' H'') : Fits K S S'' H H'' :=
  ⟨fun x xs h => b.t x xs (a.t x xs h), fun x ns h => b.s x ns (a.s x ns h), fun x xs h s => let ⟨h1, s1⟩ := a.l x xs h s; b.l x xs h1 s1, fun x xs h s => let ⟨h1, s1⟩ := a.d x xs h s; b.d x xs h1 s1, fun x xs h s => let ⟨h1, s1⟩ := a.e x xs h s; b.e x xs h1 s1⟩
theorem same_upd {p : Addr} {o : HO} (hp : H p = none) : Same H (upd H p o) := fun b u h => by rw [upd_ne (ne_of_none h hp)]; exact h
/- lists of deep values -/
theorem Dns.len : ∀ {ds : List D} {xs : List V}, Dns K S H ds xs → ds.length = xs.length
  | [], xs, h => by simp only [Dns] at h; subst h; rfl
  | d :: ds, xs, h => by
    simp only [Dns] at h
    obtain ⟨v, r, e, _, h2⟩ := h
    subst e
    simp [Dns.len h2]
theorem Dns.get : ∀ {ds : List D} {xs : List V} {i : Nat} {d : D}, Dns K S H ds xs → ds[i]? = some d → ∃ v, xs[i]? = some v ∧ Dn K S H d v
  | [], xs, i, d, h, e => by simp at e
  | d :: ds, xs, i, d', h, e => by
    simp only [Dns] at h
    obtain ⟨v, r, e1, h1, h2⟩ := h
    subst e1
    cases i with
    | zero => simp at e; subst e; exact ⟨v, by simp, h1⟩
    | succ i =>
      obtain ⟨u, e2, q⟩ := Dns.get (i := i) (d := d') h2 (by simpa using e)
      exact ⟨u, by simpa using e2, q⟩
theorem Dns.get' : ∀ {ds : List D} {xs : List V} {i : Nat} {v : V}, Dns K S H ds xs → xs[i]? = some v → ∃ d, ds[i]? = some d ∧ Dn K S H d v
  | [], xs, i, v, h, e => by simp only [Dns] at h; subst h; simp at e
  | d :: ds, xs, i, v', h, e => by
    simp only [Dns] at h
    obtain ⟨v, r, e1, h1, h2⟩ := h
    subst e1
    cases i with
    | zero => simp at e; subst e; exact ⟨d, by simp, h1⟩
    | succ i =>
      obtain ⟨u, e2, q⟩ := Dns.get' (i := i) (v := v') h2 (by simpa using e)
      exact ⟨u, by simpa using e2, q⟩
theorem Dns.nil : Dns K S H [] [] := by simp only [Dns]
theorem Dns.cons {d : D} {ds : List D} {v : V} {xs : List V} (h : Dn K S H d v) (t : Dns K S H ds xs) : Dns K S H (d :: ds) (v :: xs) := by
  simp only [Dns]; exact ⟨v, xs, rfl, h, t⟩
theorem Dns.uncons {d : D} {ds : List D} {xs : List V} (h : Dns K S H (d :: ds) xs) : ∃ v r, xs = v :: r ∧ Dn K S H d v ∧ Dns K S H ds r := by
  simpa only [Dns] using h
theorem Dns.append : ∀ {ds es : List D} {xs ys : List V}, Dns K S H ds xs → Dns K S H es ys → Dns K S H (ds ++ es) (xs ++ ys)
  | [], es, xs, ys, h, g => by simp only [Dns] at h; subst h; exact g
  | d :: ds, es, xs, ys, h, g => by
    obtain ⟨v, r, e, h1, h2⟩ := h.uncons
    subst e
    exact Dns.cons h1 (Dns.append h2 g)
theorem Dns.one {d : D} {v : V} (h : Dn K S H d v) : Dns K S H [d] [v] := Dns.cons h Dns.nil
theorem Dns.take : ∀ {ds : List D} {xs : List V} (n : Nat), Dns K S H ds xs → Dns K S H (ds.take n) (xs.take n)
  | _, _, 0, _ => by simp [Dns.nil]
  | [], xs, n + 1, h => by simp only [Dns] at h; subst h; simp [Dns.nil]
  | d :: ds, xs, n + 1, h => by
    obtain ⟨v, r, e, h1, h2⟩ := h.uncons
    subst e
    simpa using Dns.cons h1 (Dns.take n h2)
theorem Dns.drop : ∀ {ds : List D} {xs : List V} (n : Nat), Dns K S H ds xs → Dns K S H (ds.drop n) (xs.drop n)
  | _, _, 0, h => by simpa using h
  | [], xs, n + 1, h => by simp only [Dns] at h; subst h; simp [Dns.nil]
  | d :: ds, xs, n + 1, h => by
    obtain ⟨v, r, e, h1, h2⟩ := h.uncons
    subst e
    simpa using Dns.drop n h2
theorem Dns.set : ∀ {ds : List D} {xs : List V} {d : D} {v : V} (n : Nat), Dn K S H d v → Dns K S H ds xs → Dns K S H (ds.set n d) (xs.set n v)
  | [], xs, d, v, n, h, g => by simp only [Dns] at g; subst g; simp [Dns.nil]
  | d :: ds, xs, d', v', n, h, g => by
    obtain ⟨v, r, e, h1, h2⟩ := g.uncons
    subst e
    cases n with
    | zero => exact Dns.cons h h2
    | succ n => exact Dns.cons h1 (Dns.set n h h2)
theorem Dns.erase : ∀ {ds : List D} {xs : List V} (n : Nat), Dns K S H ds xs → Dns K S H (ds.eraseIdx n) (xs.eraseIdx n)
  | [], xs, n, g => by simp only [Dns] at g; subst g; simp [Dns.nil]
  | d :: ds, xs, n, g => by
    obtain ⟨v, r, e, h1, h2⟩ := g.uncons
    subst e
    cases n with
    | zero => exact h2
    | succ n => exact Dns.cons h1 (Dns.erase n h2)
theorem Dns.insert : ∀ {ds : List D} {xs : List V} {d : D} {v : V} (n : Nat), Dn K S H d v → Dns K S H ds xs → Dns K S H (ds.take n ++ d :: ds.drop n) (xs.take n ++ v :: xs.drop n) :=
  fun n h g => Dns.append (Dns.take n g) (Dns.cons h (Dns.drop n g))
theorem Dns.reverse : ∀ {ds : List D} {xs : List V}, Dns K S H ds xs → Dns K S H ds.reverse xs.reverse
  | [], xs, g => by simp only [Dns] at g; subst g; exact Dns.nil
  | d :: ds, xs, g => by
    obtain ⟨v, r, e, h1, h2⟩ := g.uncons
    subst e
    rw [List.reverse_cons (as := ds), List.reverse_cons]
    exact Dns.append (Dns.reverse h2) (Dns.one h1)
theorem Dns.rep {ds : List D} {xs : List V} (g : Dns K S H ds xs) : ∀ n : Nat, Dns K S H (List.replicate n ds).flatten (List.replicate n xs).flatten
  | 0 => Dns.nil
  | n + 1 => by
    rw [List.replicate_succ, List.replicate_succ, List.flatten_cons, List.flatten_cons]
    exact Dns.append g (Dns.rep g n)
theorem Dns.ints : ∀ {ns : List Int} {xs : List V}, Dns K S H (ns.map D.int) xs ↔ xs = ns.map V.int
  | [], xs => by simp [Dns]
  | n :: ns, xs => by
    rw [List.map_cons, List.map_cons]
    constructor
    · intro h
      obtain ⟨v, r, e, h1, h2⟩ := h.uncons
      simp only [Dn] at h1
      rw [e, h1, Dns.ints.mp h2]
    · intro e
      rw [e]
      exact Dns.cons (by simp only [Dn]) (Dns.ints.mpr rfl)
theorem imms_ints : ∀ ns : List Int, imms (ns.map D.int) = true
  | [] => rfl
  | n :: ns => by rw [List.map_cons, imms, imms_ints ns]; rfl
theorem imms_all : ∀ {ds : List D}, imms ds = true ↔ ∀ d ∈ ds, d.imm = true
  | [] => by simp [imms]
  | d :: ds => by simp [imms, imms_all]
end
end L3

end
section
set_option Elab.async false
set_option linter.all false
set_option maxRecDepth 100000
set_option maxHeartbeats 4100000
namespace L3
open PySem L2
abbrev DEnv := List (Option D)
/-- the slots stand for the deep values -/
def Sl (K : PySem.W.Frag) (S : Addr → Prop) (H : Hp) (ρ : DEnv) (σ : St) : Prop := ∀ (i : Nat) (d : D), ρ[i]? = some (some d) → ∃ v, σ[i]? = some (some v) ∧ Dn K S H d v
theorem Sl.fits {K : PySem.W.Frag} {S S' : Addr → Prop} {H H' : Hp} {ρ : DEnv} {σ : St} (f : Fits K S S' H H') (h : Sl K S H ρ σ) : Sl K S' H' ρ σ := fun i d e =>
  let ⟨v, e1, q⟩ := h i d e; ⟨v, e1, Dn.fits f d v q⟩
/-- a name's value: unknown; one that is only read; a list or dict of this def's own that may be written -/
inductive Sv where
  | no
  | ro (d : D)
  | ow (d : D)
abbrev SEnv := List Sv
def Sv.all : Sv → Option D
  | .no => none
  | .ro d => some d
  | .ow d => some d
def Sv.rd : Sv → Option D
  | .ro d => some d
  | _ => none
def vAll (ρ : SEnv) : DEnv := ρ.map Sv.all
def vRd (ρ : SEnv) : DEnv := ρ.map Sv.rd
/-- what an own list or dict holds -/
def OwnD (K : PySem.W.Frag) (S : Addr → Prop) (H : Hp) (d : D) (p : Addr) : Prop :=
  match d with
  | .lst ds => ∃ xs, H p = some (.lst xs) ∧ Dns K S H ds xs
  | .dic ks ds => ∃ xs, H p = some (.dK (ks.zip xs)) ∧ ks.length = xs.length ∧ Dns K S H ds xs
  | .dicT ks ds => ∃ xs, H p = some (.dT (ks.zip xs)) ∧ ks.length = xs.length ∧ Dns K S H ds xs
  | _ => False
/-- S without what is owned -/
def SO (S : Addr → Prop) (w : Nat → Addr) (ρ : SEnv) : Addr → Prop := fun a => S a ∧ ∀ (i : Nat) (d : D), ρ[i]? = some (Sv.ow d) → a ≠ w i
structure ST (K : PySem.W.Frag) (H₀ : Hp) (S : Addr → Prop) (w : Nat → Addr) (σ : St) (H : Hp) (ρ : SEnv) (G : List (D × V)) : Prop where
  fc : ∀ a, H₀ a = none → S a
  sm : Same H₀ H
  own : ∀ (i : Nat) (d : D), ρ[i]? = some (Sv.ow d) → σ[i]? = some (some (.ref (w i))) ∧ H₀ (w i) = none ∧ OwnD K (SO S w ρ) H d (w i)
  inj : ∀ (i j : Nat) (d e : D), ρ[i]? = some (Sv.ow d) → ρ[j]? = some (Sv.ow e) → w i = w j → i = j
  ro : ∀ (i : Nat) (d : D), ρ[i]? = some (Sv.ro d) → ∃ v, σ[i]? = some (some v) ∧ Dn K (SO S w ρ) H d v
  gh : ∀ g ∈ G, Dn K (SO S w ρ) H g.1 g.2
section
variable {K : PySem.W.Frag} {H₀ H H' : Hp} {S S' : Addr → Prop} {w : Nat → Addr} {σ : St} {ρ : SEnv} {G : List (D × V)}
theorem OwnD.wr {d : D} {p : Addr} (h : OwnD K S H d p) : Wr H p := by
  cases d with
  | lst ds => obtain ⟨xs, e, _⟩ := h; exact .inl ⟨_, e⟩
  | dic ks ds => obtain ⟨xs, e, _⟩ := h; exact .inr (.inl ⟨_, e⟩)
  | dicT ks ds => obtain ⟨xs, e, _⟩ := h; exact .inr (.inr ⟨_, e⟩)
  | _ => exact False.elim h
theorem OwnD.dn {d : D} {p : Addr} (h : OwnD K S H d p) (hs : S' p) (m : ∀ a, S a → S' a) : Dn K S' H d (.ref p) := by
  cases d with
  | lst ds => obtain ⟨xs, e, q⟩ := h; simp only [Dn]; exact ⟨p, xs, rfl, e, hs, Dns.fits (.mono m) ds xs q⟩
  | dic ks ds => obtain ⟨xs, e, l, q⟩ := h; simp only [Dn]; exact ⟨p, xs, rfl, e, hs, l, Dns.fits (.mono m) ds xs q⟩
  | dicT ks ds => obtain ⟨xs, e, l, q⟩ := h; simp only [Dn]; exact ⟨p, xs, rfl, e, hs, l, Dns.fits (.mono m) ds xs q⟩
  | _ => exact False.elim h
/-- .. where the object itself stands and what it holds fits -/
theorem OwnD.fits {d : D} {p : Addr} (f : Fits K S S' H H') (hp : ∀ o, H p = some o → H' p = some o) (h : OwnD K S H d p) : OwnD K S' H' d p := by
  cases d with
  | lst ds => obtain ⟨xs, e, q⟩ := h; exact ⟨xs, hp _ e, Dns.fits f ds xs q⟩
  | dic ks ds => obtain ⟨xs, e, l, q⟩ := h; exact ⟨xs, hp _ e, l, Dns.fits f ds xs q⟩
  | dicT ks ds => obtain ⟨xs, e, l, q⟩ := h; exact ⟨xs, hp _ e, l, Dns.fits f ds xs q⟩
  | _ => exact False.elim h
theorem ST.fcH (h : ST K H₀ S w σ H ρ G) : ∀ a, H a = none → S a := fun a e => h.fc a (h.sm.free e)
theorem ST.fcO (h : ST K H₀ S w σ H ρ G) : ∀ a, H a = none → SO S w ρ a := fun a e => ⟨h.fcH a e, fun i d q z => by
  have wr := (h.own i d q).2.2.wr
  subst z
  rcases wr with ⟨xs, k⟩ | ⟨xs, k⟩ | ⟨xs, k⟩ <;> rw [e] at k <;> cases k⟩
theorem getElem?_vAll {i : Nat} {d : D} (h : (vAll ρ)[i]? = some (some d)) : ρ[i]? = some (Sv.ro d) ∨ ρ[i]? = some (Sv.ow d) := by
  unfold vAll at h
  rw [List.getElem?_map] at h
  cases e : ρ[i]? with
  | none => rw [e] at h; cases h
  | some s =>
    rw [e] at h
    cases s with
    | no => cases h
    | ro d' => cases h; exact .inl rfl
    | ow d' => cases h; exact .inr rfl
theorem getElem?_vRd {i : Nat} {d : D} (h : (vRd ρ)[i]? = some (some d)) : ρ[i]? = some (Sv.ro d) := by
  unfold vRd at h
  rw [List.getElem?_map] at h
  cases e : ρ[i]? with
  | none => rw [e] at h; cases h
  | some s =>
    rw [e] at h
    cases s with
    | no => cases h
    | ro d' => cases h; rfl
    | ow d' => cases h
theorem ST.all (h : ST K H₀ S w σ H ρ G) : Sl K S H (vAll ρ) σ := fun i d e => by
  rcases getElem?_vAll e with e | e
  · obtain ⟨v, e1, q⟩ := h.ro i d e
    exact ⟨v, e1, Dn.fits (.mono fun _ z => z.1) d v q⟩
  · obtain ⟨e1, e2, q⟩ := h.own i d e
    exact ⟨_, e1, q.dn (h.fc _ e2) fun _ z => z.1⟩
theorem ST.rd (h : ST K H₀ S w σ H ρ G) : Sl K (SO S w ρ) H (vRd ρ) σ := fun i d e => h.ro i d (getElem?_vRd e)
/-- all that was is still there -/
theorem ST.same (h : ST K H₀ S w σ H ρ G) (e : Same H H') : ST K H₀ S w σ H' ρ G :=
  ⟨h.fc, h.sm.trans e, fun i d q => let ⟨a, b, c⟩ := h.own i d q; ⟨a, b, c.fits (.same e) fun o z => e _ o z⟩, h.inj, fun i d q => let ⟨v, a, b⟩ := h.ro i d q; ⟨v, a, Dn.fits (.same e) d v b⟩, fun g hg => Dn.fits (.same e) _ _ (h.gh g hg)⟩
/-- fewer are owned -/
theorem SO.mono {ρ' : SEnv} (hw : ∀ (i : Nat) (d : D), ρ'[i]? = some (Sv.ow d) → ∃ e, ρ[i]? = some (Sv.ow e)) : ∀ a, SO S w ρ a → SO S w ρ' a := fun a ⟨s, n⟩ => ⟨s, fun i d e => let ⟨d', e'⟩ := hw i d e; n i d' e'⟩
theorem get_set {α : Type} {l : List α} {i j : Nat} {x y : α} (h : (l.set i x)[j]? = some y) : (j = i ∧ y = x ∧ i < l.length) ∨ (j ≠ i ∧ l[j]? = some y) := by
  by_cases e : j = i
  · subst e
    by_cases hl : j < l.length
    · rw [List.getElem?_set_self hl] at h
      exact .inl ⟨rfl, (Option.some.inj h).symm, hl⟩
    · rw [List.getElem?_eq_none (by simp; omega)] at h
      cases h
  · rw [List.getElem?_set_ne (Ne.symm e)] at h
    exact .inr ⟨e, h⟩
/-- a name is given a value that is only read -/
theorem ST.set_ro {i : Nat} {d : D} {v : V} (h : ST K H₀ S w σ H ρ G) (hi : i < σ.length) (q : Dn K (SO S w ρ) H d v) : ST K H₀ S w (σ.set i (some v)) H (ρ.set i (.ro d)) G := by
  have hw : ∀ (j : Nat) (e : D), (ρ.set i (.ro d))[j]? = some (Sv.ow e) → j ≠ i ∧ ρ[j]? = some (Sv.ow e) := fun j e he => by
    rcases get_set he with ⟨_, z, _⟩ | z
    · cases z
    · exact z
  have m : ∀ a, SO S w ρ a → SO S w (ρ.set i (.ro d)) a := SO.mono fun j e he => ⟨e, (hw j e he).2⟩
  refine ⟨h.fc, h.sm, fun j e he => ?_, fun j k d' e' h1 h2 => h.inj j k d' e' (hw j d' h1).2 (hw k e' h2).2, fun j e he => ?_, fun g hg => Dn.fits (.mono m) _ _ (h.gh g hg)⟩
  · obtain ⟨hj, he'⟩ := hw j e he
    obtain ⟨a, b, c⟩ := h.own j e he'
    exact ⟨by rw [List.getElem?_set_ne (Ne.symm hj)]; exact a, b, c.fits (.mono m) fun _ z => z⟩
  · rcases get_set he with ⟨hj, z, _⟩ | ⟨hj, z⟩
    · cases z
      subst hj
      exact ⟨v, List.getElem?_set_self hi, Dn.fits (.mono m) d v q⟩
    · obtain ⟨u, a, b⟩ := h.ro j e z
      exact ⟨u, by rw [List.getElem?_set_ne (Ne.symm hj)]; exact a, Dn.fits (.mono m) e u b⟩
/-- .. one that is forgotten -/
theorem ST.set_no {i : Nat} {v : Option V} (h : ST K H₀ S w σ H ρ G) : ST K H₀ S w (σ.set i v) H (ρ.set i .no) G := by
  have hw : ∀ (j : Nat) (e : D), (ρ.set i .no)[j]? = some (Sv.ow e) → j ≠ i ∧ ρ[j]? = some (Sv.ow e) := fun j e he => by
    rcases get_set he with ⟨_, z, _⟩ | z
    · cases z
    · exact z
  have m : ∀ a, SO S w ρ a → SO S w (ρ.set i .no) a := SO.mono fun j e he => ⟨e, (hw j e he).2⟩
  refine ⟨h.fc, h.sm, fun j e he => ?_, fun j k d' e' h1 h2 => h.inj j k d' e' (hw j d' h1).2 (hw k e' h2).2, fun j e he => ?_, fun g hg => Dn.fits (.mono m) _ _ (h.gh g hg)⟩
  · obtain ⟨hj, he'⟩ := hw j e he
    obtain ⟨a, b, c⟩ := h.own j e he'
    exact ⟨by rw [List.getElem?_set_ne (Ne.symm hj)]; exact a, b, c.fits (.mono m) fun _ z => z⟩
  · rcases get_set he with ⟨hj, z, _⟩ | ⟨hj, z⟩
    · cases z
    · obtain ⟨u, a, b⟩ := h.ro j e z
      exact ⟨u, by rw [List.getElem?_set_ne (Ne.symm hj)]; exact a, Dn.fits (.mono m) e u b⟩
/-- an own list that is only read from here on -/
def freeze (ρ : SEnv) (i : Nat) : SEnv := match ρ[i]? with
  | some (.ow d) => ρ.set i (.ro d)
  | _ => ρ
theorem ST.frozen {i : Nat} (h : ST K H₀ S w σ H ρ G) : ST K H₀ S w σ H (freeze ρ i) G := by
  unfold freeze
  cases e : ρ[i]? with
  | none => exact h
  | some s =>
    cases s with
    | no => exact h
    | ro d => exact h
    | ow d =>
      dsimp only
      obtain ⟨a, b, c⟩ := h.own i d e
      have hi : i < σ.length := (List.getElem?_eq_some_iff.mp a).1
      have hw : ∀ (j : Nat) (e : D), (ρ.set i (.ro d))[j]? = some (Sv.ow e) → j ≠ i ∧ ρ[j]? = some (Sv.ow e) := fun j e he => by
        rcases get_set he with ⟨_, z, _⟩ | z
        · cases z
        · exact z
      have m : ∀ a, SO S w ρ a → SO S w (ρ.set i (.ro d)) a := SO.mono fun j e he => ⟨e, (hw j e he).2⟩
      refine ⟨h.fc, h.sm, fun j f hf => ?_, fun j k d' e' h1 h2 => h.inj j k d' e' (hw j d' h1).2 (hw k e' h2).2, fun j f hf => ?_, fun g hg => Dn.fits (.mono m) _ _ (h.gh g hg)⟩
      · obtain ⟨a, b, c⟩ := h.own j f (hw j f hf).2
        exact ⟨a, b, c.fits (.mono m) fun _ z => z⟩
      · rcases get_set hf with ⟨hj, z, _⟩ | ⟨hj, z⟩
        · cases z
          subst hj
          refine ⟨_, a, c.dn ⟨h.fc _ b, fun k f' hk z => ?_⟩ m⟩
          obtain ⟨hk1, hk2⟩ := hw k f' hk
          exact hk1 (h.inj _ _ _ _ e hk2 z).symm
        · obtain ⟨u, a, b⟩ := h.ro j f z
          exact ⟨u, a, Dn.fits (.mono m) f u b⟩
/-- a name is given a new list or dict of one's own: it was not there at H -/
theorem ST.set_ow {i : Nat} {d : D} {p : Addr} (h : ST K H₀ S w σ H ρ G) (hi : i < σ.length) (e : Same H H') (hp : H p = none) (q : OwnD K (fun a => SO S w ρ a ∧ a ≠ p) H' d p) :
    ST K H₀ S (fun j => if j = i then p else w j) (σ.set i (some (.ref p))) H' (ρ.set i (.ow d)) G := by
  have h0 : H₀ p = none := h.sm.free hp
  have hw : ∀ (j : Nat) (e : D), j ≠ i → (ρ.set i (.ow d))[j]? = some (Sv.ow e) → ρ[j]? = some (Sv.ow e) := fun j e hj he => by
    rcases get_set he with ⟨z, _, _⟩ | ⟨_, z⟩
    · exact absurd z hj
    · exact z
  have m : ∀ a, (SO S w ρ a ∧ a ≠ p) → SO S (fun j => if j = i then p else w j) (ρ.set i (.ow d)) a := fun a ⟨⟨s, n⟩, ne⟩ => ⟨s, fun j f hf => by
    show a ≠ (if j = i then p else w j)
    by_cases hj : j = i
    · rw [if_pos hj]; exact ne
    · rw [if_neg hj]; exact n j f (hw j f hj hf)⟩
  have F : Fits K (SO S w ρ) (SO S (fun j => if j = i then p else w j) (ρ.set i (.ow d))) H H' := ((Fits.fresh hp).trans (.mono m)).trans (.same e)
  have wp : ∀ (j : Nat) (f : D), ρ[j]? = some (Sv.ow f) → w j ≠ p := fun j f hf z => by
    have wr := (h.own j f hf).2.2.wr
    rw [z] at wr
    rcases wr with ⟨xs, k⟩ | ⟨xs, k⟩ | ⟨xs, k⟩ <;> rw [hp] at k <;> cases k
  refine ⟨h.fc, h.sm.trans e, fun j f hf => ?_, fun j k d' e' h1 h2 z => ?_, fun j f hf => ?_, fun g hg => Dn.fits F _ _ (h.gh g hg)⟩
  · by_cases hj : j = i
    · subst hj
      rcases get_set hf with ⟨_, z, _⟩ | ⟨z, _⟩
      · cases z
        rw [if_pos rfl]
        exact ⟨List.getElem?_set_self hi, h0, q.fits (.mono m) fun _ z => z⟩
      · exact absurd rfl z
    · rw [if_neg hj]
      obtain ⟨a, b, c⟩ := h.own j f (hw j f hj hf)
      exact ⟨by rw [List.getElem?_set_ne (Ne.symm hj)]; exact a, b, c.fits F fun o z => e _ o z⟩
  · have z : (if j = i then p else w j) = (if k = i then p else w k) := z
    by_cases hj : j = i
    · by_cases hk : k = i
      · rw [hj, hk]
      · rw [if_pos hj, if_neg hk] at z
        exact absurd z.symm (wp k e' (hw k e' hk h2))
    · by_cases hk : k = i
      · rw [if_neg hj, if_pos hk] at z
        exact absurd z (wp j d' (hw j d' hj h1))
      · rw [if_neg hj, if_neg hk] at z
        exact h.inj j k d' e' (hw j d' hj h1) (hw k e' hk h2) z
  · rcases get_set hf with ⟨_, z, _⟩ | ⟨hj, z⟩
    · cases z
    · obtain ⟨u, a, b⟩ := h.ro j f z
      exact ⟨u, by rw [List.getElem?_set_ne (Ne.symm hj)]; exact a, Dn.fits F f u b⟩
/-- an own list or dict is written -/
theorem ST.write {i : Nat} {d d' : D} {o : HO} (h : ST K H₀ S w σ H ρ G) (e : ρ[i]? = some (Sv.ow d)) (q : OwnD K (SO S w ρ) (upd H (w i) o) d' (w i)) : ST K H₀ S w σ (upd H (w i) o) (ρ.set i (.ow d')) G := by
  obtain ⟨a0, b0, c0⟩ := h.own i d e
  have so : SO S w (ρ.set i (.ow d')) = SO S w ρ := by
    funext a
    refine propext ⟨fun ⟨s, n⟩ => ⟨s, fun j f hf => ?_⟩, fun ⟨s, n⟩ => ⟨s, fun j f hf => ?_⟩⟩
    · by_cases hj : j = i
      · subst hj
        exact n j d' (by rw [List.getElem?_set_self (List.getElem?_eq_some_iff.mp e).1])
      · exact n j f (by rw [List.getElem?_set_ne (Ne.symm hj)]; exact hf)
    · by_cases hj : j = i
      · subst hj; exact n j d e
      · exact n j f (by rw [List.getElem?_set_ne (Ne.symm hj)] at hf; exact hf)
  have nS : ¬ SO S w ρ (w i) := fun ⟨_, n⟩ => n i d e rfl
  have F : Fits K (SO S w ρ) (SO S w ρ) H (upd H (w i) o) := .upd c0.wr nS
  refine ⟨h.fc, fun b u hb => ?_, fun j f hf => ?_, fun j k d1 e1 h1 h2 z => ?_, fun j f hf => ?_, fun g hg => by rw [so]; exact Dn.fits F _ _ (h.gh g hg)⟩
  · rw [upd_ne (ne_of_none hb b0)]
    exact h.sm b u hb
  · rw [so]
    rcases get_set hf with ⟨hj, z, _⟩ | ⟨hj, z⟩
    · cases z
      subst hj
      exact ⟨a0, b0, q⟩
    · obtain ⟨a, b, c⟩ := h.own j f z
      exact ⟨a, b, c.fits F fun ob hob => by rw [upd_ne fun y => hj (h.inj _ _ _ _ z e y)]; exact hob⟩
  · have g1 : ∃ d2, ρ[j]? = some (Sv.ow d2) := by
      rcases get_set h1 with ⟨hj, _, _⟩ | ⟨_, z⟩
      · subst hj; exact ⟨d, e⟩
      · exact ⟨_, z⟩
    have g2 : ∃ d2, ρ[k]? = some (Sv.ow d2) := by
      rcases get_set h2 with ⟨hj, _, _⟩ | ⟨_, z⟩
      · subst hj; exact ⟨d, e⟩
      · exact ⟨_, z⟩
    obtain ⟨_, g1⟩ := g1
    obtain ⟨_, g2⟩ := g2
    exact h.inj j k _ _ g1 g2 z
  · rw [so]
    rcases get_set hf with ⟨_, z, _⟩ | ⟨hj, z⟩
    · cases z
    · obtain ⟨u, a, b⟩ := h.ro j f z
      exact ⟨u, a, Dn.fits F f u b⟩
/-- ghosts come and go -/
theorem ST.ghost (h : ST K H₀ S w σ H ρ G) {G' : List (D × V)} (hg : ∀ g ∈ G', Dn K (SO S w ρ) H g.1 g.2) : ST K H₀ S w σ H ρ G' := ⟨h.fc, h.sm, h.own, h.inj, h.ro, hg⟩
end
end L3

end
section
set_option Elab.async false
set_option linter.all false
set_option maxRecDepth 100000
set_option maxHeartbeats 4100000
namespace L3
open PySem PySem.Spec PyProof.Rows L2
/-! ### the judgements over deep values -/
abbrev WE := DEnv → (D → Prop) → Prop
abbrev WT := DEnv → (Bool → Prop) → Prop
abbrev WA := DEnv → (List D → Prop) → Prop
def lift (K : PySem.W.Frag) (t : WE) : TE := fun σ H Q => ∃ (S : Addr → Prop) (ρ : DEnv) (Q3 : D → Prop), (∀ a, H a = none → S a) ∧ Sl K S H ρ σ ∧ t ρ Q3 ∧ ∀ v H' d, Same H H' → Dn K S H' d v → Q3 d → Q v H'
def liftT (K : PySem.W.Frag) (t : WT) : TT := fun σ H Q => ∃ (S : Addr → Prop) (ρ : DEnv) (Q3 : Bool → Prop), (∀ a, H a = none → S a) ∧ Sl K S H ρ σ ∧ t ρ Q3 ∧ ∀ b H', Same H H' → Q3 b → Q b H'
def liftA (K : PySem.W.Frag) (t : WA) : TA := fun σ H Q => ∃ (S : Addr → Prop) (ρ : DEnv) (Q3 : List D → Prop), (∀ a, H a = none → S a) ∧ Sl K S H ρ σ ∧ t ρ Q3 ∧ ∀ vs H' ds, Same H H' → Dns K S H' ds vs → Q3 ds → Q vs H'
/-- a list that is new: nothing else bears it -/
def liftF (K : PySem.W.Frag) (t : WE) : TE := fun σ H Q => ∃ (S : Addr → Prop) (ρ : DEnv) (Q3 : D → Prop), (∀ a, H a = none → S a) ∧ Sl K S H ρ σ ∧ t ρ Q3 ∧
  ∀ p xs H' ds, H p = none → H' p = some (.lst xs) → Same H H' → Dns K (fun a => S a ∧ a ≠ p) H' ds xs → Q3 (.lst ds) → Q (.ref p) H'
def PE3 (X : Cx) (e : Expr) (t : WE) : Prop := PE X e (lift X.K t)
def PF3 (X : Cx) (e : Expr) (t : WE) : Prop := PE X e (liftF X.K t)
def PT3 (X : Cx) (e : Expr) (t : WT) : Prop := PT X e (liftT X.K t)
def PA3 (X : Cx) (es : List Expr) (t : WA) : Prop := PA X es (liftA X.K t)
section
variable {X : Cx}
theorem imp {e : Expr} {t t' : TE} (h : PE X e t) (f : ∀ σ H Q, t' σ H Q → t σ H Q) : PE X e t' := fun pins s σ H Q I q => h pins s σ H Q I (f σ H Q q)
theorem impT {e : Expr} {t t' : TT} (h : PT X e t) (f : ∀ σ H Q, t' σ H Q → t σ H Q) : PT X e t' := fun pins s σ H Q I q => h pins s σ H Q I (f σ H Q q)
theorem impA {e : List Expr} {t t' : TA} (h : PA X e t) (f : ∀ σ H Q, t' σ H Q → t σ H Q) : PA X e t' := fun pos pins s σ H Q I q => h pos pins s σ H Q I (f σ H Q q)
theorem fc_same {H H' : Hp} {S : Addr → Prop} (fc : ∀ a, H a = none → S a) (s : Same H H') : ∀ a, H' a = none → S a := fun a e => fc a (s.free e)
/-- a new list is a list -/
theorem PF3.pe {e : Expr} {t : WE} (h : PF3 X e t) : PE3 X e t := imp h fun σ H Q ⟨S, ρ, Q3, fc, sl, ht, k⟩ =>
  ⟨S, ρ, Q3, fc, sl, ht, fun p xs H' ds hp hp' s dn q => k _ H' _ s (by simp only [Dn]; exact ⟨p, xs, rfl, hp', fc p hp, Dns.fits (.mono fun _ z => z.1) ds xs dn⟩) q⟩
/-! ### names and constants -/
def wVar (i : Nat) : WE := fun ρ Q => match ρ[i]? with
  | some (some d) => Q d
  | _ => False
def wC (d : D) : WE := fun _ Q => Q d
theorem lift_var {K : PySem.W.Frag} {i : Nat} {σ : L2.St} {H : Hp} {Q : VK} (h : lift K (wVar i) σ H Q) : tVar i σ H Q := by
  obtain ⟨S, ρ, Q3, fc, sl, ht, k⟩ := h
  unfold wVar at ht
  split at ht
  · rename_i d e
    obtain ⟨v, e1, q⟩ := sl i d e
    exact ⟨v, e1, k v H d (Same.refl H) q ht⟩
  · exact ht.elim
/-- the name in the i-th slot -/
theorem x3 (i : Nat) {x : Str} {pos : Pos} (hN : X.N[i]? = some x := by rfl) (hv : Vis X.env.scope x := by first | exact Or.inl rfl | exact Or.inr (Or.inl rfl) | exact Or.inr (Or.inr rfl)) (hd : (x == ("__debug__" : Str)) = false := by decide)
    (hcd : (x == ("__classdict__" : Str)) = false := by decide) : PE3 X (.Name x pos) (wVar i) := imp (pe_var hN hv hd hcd) fun _ _ _ => lift_var
theorem lift_c {K : PySem.W.Frag} {d : D} {v : V} {σ : L2.St} {H : Hp} {Q : VK} (hd : ∀ S H, Dn K S H d v) (h : lift K (wC d) σ H Q) : tC v σ H Q := by
  obtain ⟨S, ρ, Q3, fc, sl, ht, k⟩ := h
  exact k v H d (Same.refl H) (hd S H) ht
theorem i3 {i : Int} {j pos} : PE3 X (.Constant (.int i) j pos) (wC (.int i)) := imp pe_int fun _ _ _ => lift_c (fun _ _ => by simp only [Dn])
theorem b3 {b : Bool} {j pos} : PE3 X (.Constant (.bool b) j pos) (wC (.bl b)) := imp pe_bl fun _ _ _ => lift_c (fun _ _ => by simp only [Dn])
theorem n3 {j pos} : PE3 X (.Constant .none j pos) (wC .non) := imp pe_non fun _ _ _ => lift_c (fun _ _ => by simp only [Dn])
theorem s3 {x : Str} {j pos} : PE3 X (.Constant (.str x) j pos) (wC (.str x)) := imp pe_str fun _ _ _ => lift_c (fun _ _ => by simp only [Dn])
/-- a written number of the module -/
theorem g3 {x : Str} {i : Int} {t : Tok} {pos : Pos} (hg : Gl X x) (hm : X.mg x = some (.int i t)) (hd : (x == ("__debug__" : Str)) = false := by decide) : PE3 X (.Name x pos) (wC (.int i)) :=
  imp (pe_glob hg hm (v := .int i) ⟨t, rfl⟩ hd) fun _ _ _ => lift_c (fun _ _ => by simp only [Dn])
/-! ### two-place operations -/
abbrev F2 := D → D → (D → Prop) → Prop
def wBin (f : F2) (ta tb : WE) : WE := fun ρ Q => ta ρ fun x => tb ρ fun y => f x y Q
def O3 (K : PySem.W.Frag) (r : R2) (f : F2) : Prop := ∀ (S : Addr → Prop) (H : Hp) (x y : V) (dx dy : D) (Q3 : D → Prop) (Q : VK), (∀ a, H a = none → S a) → Dn K S H dx x → Dn K S H dy y → f dx dy Q3 →
  (∀ v H' d, Same H H' → Dn K S H' d v → Q3 d → Q v H') → r x y H Q
theorem lift_bin {K : PySem.W.Frag} {r : R2} {f : F2} {ta tb : WE} {σ : L2.St} {H : Hp} {Q : VK} (h3 : O3 K r f) (h : lift K (wBin f ta tb) σ H Q) : tOp r (lift K ta) (lift K tb) σ H Q := by
  obtain ⟨S, ρ, Q3, fc, sl, ht, k⟩ := h
  refine ⟨S, ρ, _, fc, sl, ht, fun v H1 d s1 d1 q1 => ?_⟩
  refine ⟨S, ρ, _, fc_same fc s1, Sl.fits (.same s1) sl, q1, fun u H2 d2 s2 d2' q2 => ?_⟩
  exact h3 S H2 v u d d2 Q3 Q (fc_same fc (s1.trans s2)) (Dn.fits (.same s2) _ _ d1) d2' q2 fun v' H' d' s' dn' q' => k v' H' d' ((s1.trans s2).trans s') dn' q'
theorem op3 {a b : Expr} {op : Operator} {pos : Pos} {r : R2} {f : F2} {ta tb : WE} (ho : OpR X (binaryOp op) r) (h3 : O3 X.K r f) (ha : PE3 X a ta) (hb : PE3 X b tb) : PE3 X (.BinOp a op b pos) (wBin f ta tb) :=
  imp (pe_op ho ha hb) fun _ _ _ => lift_bin h3
/-- ints -/
def intF (C : Int → Int → Prop) (g : Int → Int → D) : F2
  | .int i, .int j, Q => C i j ∧ Q (g i j)
  | _, _, _ => False
theorem o3_int {K : PySem.W.Frag} {C : Int → Int → Prop} {g : Int → Int → Int} : O3 K (rI C fun i j => .int (g i j)) (intF C fun i j => .int (g i j)) := by
  intro S H x y dx dy Q3 Q fc hx hy hf k
  cases dx <;> cases dy <;> try exact hf.elim
  simp only [Dn] at hx hy
  exact ⟨_, _, hx, hy, hf.1, k _ H _ (Same.refl H) (by simp only [Dn]) hf.2⟩
def intF0 (g : Int → Int → D) : F2
  | .int i, .int j, Q => Q (g i j)
  | _, _, _ => False
theorem o3_int0 {K : PySem.W.Frag} {g : Int → Int → Int} : O3 K (rI0 fun i j => .int (g i j)) (intF0 fun i j => .int (g i j)) := by
  intro S H x y dx dy Q3 Q fc hx hy hf k
  cases dx <;> cases dy <;> try exact hf.elim
  simp only [Dn] at hx hy
  exact ⟨_, _, hx, hy, k _ H _ (Same.refl H) (by simp only [Dn]) hf⟩
def subF : F2 := intF0 fun i j => .int (i - j)
def mulF : F2 := intF CMul fun i j => .int (i * j)
def modF : F2 := intF (fun _ j => 0 < j) fun i j => .int (i % j)
def divF : F2 := intF CDiv fun i j => .int (i / j)
def powF : F2 := intF CPow fun i j => .int (i ^ j.toNat)
section
variable {a b : Expr} {pos : Pos} {ta tb : WE}
theorem sub3 (ha : PE3 X a ta) (hb : PE3 X b tb) : PE3 X (.BinOp a .Sub b pos) (wBin subF ta tb) := op3 op_sub o3_int0 ha hb
theorem mulI3 (ha : PE3 X a ta) (hb : PE3 X b tb) : PE3 X (.BinOp a .Mult b pos) (wBin mulF ta tb) := op3 op_mul o3_int ha hb
theorem mod3 (ha : PE3 X a ta) (hb : PE3 X b tb) : PE3 X (.BinOp a .Mod b pos) (wBin modF ta tb) := op3 op_mod o3_int ha hb
theorem div3 (ha : PE3 X a ta) (hb : PE3 X b tb) : PE3 X (.BinOp a .FloorDiv b pos) (wBin divF ta tb) := op3 op_fdiv o3_int ha hb
theorem pow3 (ha : PE3 X a ta) (hb : PE3 X b tb) : PE3 X (.BinOp a .Pow b pos) (wBin powF ta tb) := op3 op_pow o3_int ha hb
theorem addI3 (ha : PE3 X a ta) (hb : PE3 X b tb) : PE3 X (.BinOp a .Add b pos) (wBin (intF0 fun i j => .int (i + j)) ta tb) := op3 op_add o3_int0 ha hb
end
/-! ### + of ints, lists, tuples, texts -/
def catTF (K : PySem.W.Frag) : R2 := fun x y H Q => ∃ a b xs ys, x = .ref a ∧ y = .ref b ∧ SqT K H a xs ∧ SqT K H b ys ∧ xs.length + ys.length ≤ sizeLine ∧
  (xs = [] → Q (.ref b) H) ∧ (xs ≠ [] → ys = [] → Q (.ref a) H) ∧ (xs ≠ [] → ys ≠ [] → ∀ p, H p = none → Q (.ref p) (upd H p (.tup (xs ++ ys))))
theorem cat_tup0 {prog : Program} {w : World} {A : Around} {E : Value → Shared → Prop} {s : Shared} {t b : Addr} {ws : List Value} {Q : Value → Shared → Prop} (ht : IsTup s.heap t #[]) (hb : IsTup s.heap b ws.toArray)
    (h1 : Q (.ref b) s) : wpAny (model prog w) A (binaryOp .Add (.ref t) (.ref b)) Q E s := by
  obtain ⟨⟨cls, dd, data, sl⟩, ho, hc, n, hd⟩ := id ht
  obtain ⟨⟨cls2, dd2, data2, sl2⟩, ho2, hc2, n2, hd2⟩ := id hb
  simp only at hc hd hc2 hd2
  subst hc hd hc2 hd2
  exact concat_meets ⟨_, ho, rfl⟩ ⟨_, ho2, rfl⟩ noFill_tuple_add seq_tuple_add PySem.F.slot_tuple_add PySem.F.entry_tuple_add (PySem.F.args_tuple_add_2 _ _)
      (tuple_addW0 t b #[] ws.toArray n n2 dd dd2 sl sl2 (by simp)) ⟨ho, ho2, h1⟩
theorem op_catT2 : OpR X (binaryOp .Add) (catTF X.K) := by
  intro pins s σ H x y v u Q I rx ry h
  obtain ⟨a, b, xs, ys, rfl, rfl, ha, hb, hz, q0, q1, q2⟩ := h
  by_cases hx : xs = []
  · cases rx
    cases ry
    subst hx
    obtain ⟨its, r1, p1, _⟩ := I.tuple ha
    obtain ⟨its2, r2, p2, _⟩ := I.tuple hb
    cases r1
    exact cat_tup0 p1 p2 ⟨.ref b, H, I, rfl, q0 rfl⟩
  · exact op_catT pins s σ H _ _ v u Q I rx ry ⟨a, b, xs, ys, rfl, rfl, ha, hb, hx, hz, q1 hx, q2 hx⟩
def addF : F2
  | .int i, .int j, Q => Q (.int (i + j))
  | .lst a, .lst b, Q => a.length + b.length ≤ sizeLine ∧ Q (.lst (a ++ b))
  | .tup a, .tup b, Q => a.length + b.length ≤ sizeLine ∧ Q (.tup (a ++ b))
  | .str a, .str b, Q => a.length + b.length ≤ sizeLine ∧ Q (.str (a ++ b))
  | _, _, _ => False
def rAdd (K : PySem.W.Frag) : R2 := fun x y H Q => (rI0 fun i j => .int (i + j)) x y H Q ∨ (rCat x y H Q ∨ (catTF K x y H Q ∨ ∃ i j, x = .str i ∧ y = .str j ∧ i.length + j.length ≤ sizeLine ∧ Q (.str (i ++ j)) H))
theorem o3_add {K : PySem.W.Frag} : O3 K (rAdd K) addF := by
  intro S H x y dx dy Q3 Q fc hx hy hf k
  cases dx with
  | int i =>
    cases dy with
    | int j => simp only [Dn] at hx hy; exact .inl ⟨_, _, hx, hy, k _ H _ (Same.refl H) (by simp only [Dn]) hf⟩
    | _ => exact hf.elim
  | str i =>
    cases dy with
    | str j => simp only [Dn] at hx hy; exact .inr (.inr (.inr ⟨_, _, hx, hy, hf.1, k _ H _ (Same.refl H) (by simp only [Dn]) hf.2⟩))
    | _ => exact hf.elim
  | lst ds =>
    cases dy with
    | lst es =>
      simp only [Dn] at hx hy
      obtain ⟨a, xs, rfl, ha, sa, da⟩ := hx
      obtain ⟨b, ys, rfl, hb, sb, db⟩ := hy
      refine .inr (.inl ⟨a, b, xs, ys, rfl, rfl, ha, hb, by rw [← da.len, ← db.len]; exact hf.1, fun p hp => k _ _ _ (same_upd hp) ?_ hf.2⟩)
      simp only [Dn]
      exact ⟨p, _, rfl, upd_same, fc p hp, Dns.fits (.same (same_upd hp)) _ _ (da.append db)⟩
    | _ => exact hf.elim
  | tup ds =>
    cases dy with
    | tup es =>
      simp only [Dn] at hx hy
      obtain ⟨a, xs, rfl, ha, da⟩ := hx
      obtain ⟨b, ys, rfl, hb, db⟩ := hy
      refine .inr (.inr (.inl ⟨a, b, xs, ys, rfl, rfl, ha, hb, by rw [← da.len, ← db.len]; exact hf.1, fun e => ?_, fun _ e => ?_, fun _ _ p hp => ?_⟩))
      · subst e
        have e2 : ds = [] := List.length_eq_zero_iff.mp da.len
        subst e2
        exact k _ H _ (Same.refl H) (by simp only [Dn]; exact ⟨b, ys, rfl, hb, db⟩) hf.2
      · subst e
        have e2 : es = [] := List.length_eq_zero_iff.mp db.len
        subst e2
        have q := hf.2
        rw [List.append_nil] at q
        exact k _ H _ (Same.refl H) (by simp only [Dn]; exact ⟨a, xs, rfl, ha, da⟩) q
      · refine k _ _ _ (same_upd hp) ?_ hf.2
        simp only [Dn]
        exact ⟨p, _, rfl, .inl (.inl upd_same), Dns.fits (.same (same_upd hp)) _ _ (da.append db)⟩
    | _ => exact hf.elim
  | _ => cases dy <;> exact hf.elim
theorem op_add3 : OpR X (binaryOp .Add) (rAdd X.K) := OpR.or op_add (OpR.or op_cat (OpR.or op_catT2 op_add_str))
theorem add3 {a b : Expr} {pos : Pos} {ta tb : WE} (ha : PE3 X a ta) (hb : PE3 X b tb) : PE3 X (.BinOp a .Add b pos) (wBin addF ta tb) := op3 op_add3 o3_add ha hb
/-- list + list is new -/
def catF : F2
  | .lst a, .lst b, Q => a.length + b.length ≤ sizeLine ∧ Q (.lst (a ++ b))
  | _, _, _ => False
theorem catN3 {a b : Expr} {pos : Pos} {ta tb : WE} (ha : PE3 X a ta) (hb : PE3 X b tb) : PF3 X (.BinOp a .Add b pos) (wBin catF ta tb) := imp (pe_op op_cat ha hb) fun σ H Q h => by
  obtain ⟨S, ρ, Q3, fc, sl, ht, k⟩ := h
  refine ⟨S, ρ, _, fc, sl, ht, fun v H1 d s1 d1 q1 => ?_⟩
  refine ⟨S, ρ, _, fc_same fc s1, Sl.fits (.same s1) sl, q1, fun u H2 d2 s2 d2' q2 => ?_⟩
  cases d <;> cases d2 <;> try exact q2.elim
  simp only [Dn] at d1 d2'
  obtain ⟨a, xs, rfl, ha, sa, da⟩ := d1
  obtain ⟨b, ys, rfl, hb, sb, db⟩ := d2'
  have da' := Dns.fits (.same s2) _ _ da
  refine ⟨a, b, xs, ys, rfl, rfl, s2 _ _ ha, hb, by rw [← da.len, ← db.len]; exact q2.1, fun p hp => k p _ _ _ ((s1.trans s2).free hp) upd_same ((s1.trans s2).trans (same_upd hp)) ?_ q2.2⟩
  exact Dns.fits ((Fits.fresh hp).trans (.same (same_upd hp))) _ _ (da'.append db)
/-! ### displays -/
def wNil : WA := fun _ Q => Q []
def wCons (ta : WE) (t : WA) : WA := fun ρ Q => ta ρ fun d => t ρ fun ds => Q (d :: ds)
theorem nil3 : PA3 X [] wNil := impA pa_nil fun σ H Q ⟨S, ρ, Q3, fc, sl, ht, k⟩ => k [] H [] (Same.refl H) Dns.nil ht
theorem cons3 {e : Expr} {es : List Expr} {te : WE} {t : WA} (ha : PE3 X e te) (hr : PA3 X es t) (hs : starEach (e :: es) X.env = (false, eval e X.env) :: starEach es X.env := by rfl) : PA3 X (e :: es) (wCons te t) :=
  impA (pa_cons ha hr hs) fun σ H Q ⟨S, ρ, Q3, fc, sl, ht, k⟩ => by
    refine ⟨S, ρ, _, fc, sl, ht, fun v H1 d s1 d1 q1 => ?_⟩
    refine ⟨S, ρ, _, fc_same fc s1, Sl.fits (.same s1) sl, q1, fun us H2 ds s2 d2 q2 => ?_⟩
    exact k _ H2 _ (s1.trans s2) (Dns.cons (Dn.fits (.same s2) _ _ d1) d2) q2
def wTup (t : WA) : WE := fun ρ Q => t ρ fun ds => ds.length ≤ sizeLine ∧ Q (.tup ds)
def wLst (t : WA) : WE := fun ρ Q => t ρ fun ds => ds.length ≤ sizeLine ∧ Q (.lst ds)
theorem tup3 {es : List Expr} {t : WA} {x1} {pos : Pos} (h : PA3 X es t) : PE3 X (.Tuple es x1 pos) (wTup t) := imp (pe_tup h) fun σ H Q ⟨S, ρ, Q3, fc, sl, ht, k⟩ => by
  refine ⟨S, ρ, _, fc, sl, ht, fun vs H1 ds s1 d1 q1 => ⟨by rw [← d1.len]; exact q1.1, fun p hp => k _ _ _ (s1.trans (same_upd hp)) ?_ q1.2⟩⟩
  simp only [Dn]
  exact ⟨p, _, rfl, .inl (.inl upd_same), Dns.fits (.same (same_upd hp)) _ _ d1⟩
theorem lst3 {es : List Expr} {t : WA} {pos : Pos} (h : PA3 X es t) : PF3 X (.List es pos) (wLst t) := imp (pe_lst h) fun σ H Q ⟨S, ρ, Q3, fc, sl, ht, k⟩ => by
  refine ⟨S, ρ, _, fc, sl, ht, fun vs H1 ds s1 d1 q1 => ⟨by rw [← d1.len]; exact q1.1, fun p hp => k p vs _ ds (s1.free hp) upd_same (s1.trans (same_upd hp)) ?_ q1.2⟩⟩
  exact Dns.fits ((Fits.fresh hp).trans (.same (same_upd hp))) _ _ d1
end
end L3

end
section
set_option Elab.async false
set_option linter.all false
set_option maxRecDepth 100000
set_option maxHeartbeats 4100000
namespace L3
open PySem PySem.Spec PyProof.Rows L2
section
variable {X : Cx}
/-! ### comparisons -/
def wTest (t : WE) : WT := fun ρ Q => t ρ fun d => match d with
  | .bl b => Q b
  | _ => False
theorem lift_test {K : PySem.W.Frag} {t : WE} {σ : L2.St} {H : Hp} {Q : Bool → Hp → Prop} (h : liftT K (wTest t) σ H Q) : tTest (lift K t) σ H Q := by
  obtain ⟨S, ρ, Q3, fc, sl, ht, k⟩ := h
  refine ⟨S, ρ, _, fc, sl, ht, fun v H1 d s1 d1 q1 => ?_⟩
  cases d with
  | bl b => simp only [Dn] at d1; exact ⟨b, d1, k b H1 s1 q1⟩
  | _ => exact q1.elim
theorem tTest_mono {t t' : TE} {σ : L2.St} {H : Hp} {Q : Bool → Hp → Prop} (f : ∀ σ H Q, t' σ H Q → t σ H Q) (h : tTest t' σ H Q) : tTest t σ H Q := f σ H _ h
theorem cmp3 {a b : Expr} {op : CmpOp} {pos : Pos} {r : R2} {f : F2} {ta tb : WE} (ho : OpR X (compareOp op) r) (h3 : O3 X.K r f) (ha : PE3 X a ta) (hb : PE3 X b tb) (hm : behindInMarks op b = false) : PE3 X (.Compare a [op] [b] pos) (wBin f ta tb) :=
  imp (pe_cmpR ho ha hb hm) fun _ _ _ => lift_bin h3
theorem cmpT3 {a b : Expr} {op : CmpOp} {pos : Pos} {r : R2} {f : F2} {ta tb : WE} (ho : OpR X (compareOp op) r) (h3 : O3 X.K r f) (ha : PE3 X a ta) (hb : PE3 X b tb) (hm : behindInMarks op b = false) : PT3 X (.Compare a [op] [b] pos) (wTest (wBin f ta tb)) :=
  impT (pt_cmpR ho ha hb hm) fun _ _ _ h => tTest_mono (fun _ _ _ => lift_bin h3) (lift_test h)
theorem o3_cmp {K : PySem.W.Frag} {g : Int → Int → Bool} : O3 K (rI0 fun i j => .bl (g i j)) (intF0 fun i j => .bl (g i j)) := by
  intro S H x y dx dy Q3 Q fc hx hy hf k
  cases dx <;> cases dy <;> try exact hf.elim
  simp only [Dn] at hx hy
  exact ⟨_, _, hx, hy, k _ H _ (Same.refl H) (by simp only [Dn]) hf⟩
/-- == of numbers, truths, texts, None -/
def scalD : D → D → Bool
  | .non, .non => true | .non, .int _ => true | .int _, .non => true | .non, .bl _ => true | .bl _, .non => true | .non, .str _ => true | .str _, .non => true
  | .int _, .int _ => true | .bl _, .bl _ => true | .str _, .str _ => true | .int _, .str _ => true | .str _, .int _ => true | .bl _, .str _ => true | .str _, .bl _ => true
  | _, _ => false
def eqS : D → D → Bool
  | .non, .non => true
  | .int i, .int j => decide (i = j)
  | .bl i, .bl j => decide (i = j)
  | .str i, .str j => decide (i = j)
  | _, _ => false
def eqSF : F2 := fun x y Q => scalD x y = true ∧ Q (.bl (eqS x y))
def neSF : F2 := fun x y Q => scalD x y = true ∧ Q (.bl (!eqS x y))
theorem scal_eq {K : PySem.W.Frag} {S : Addr → Prop} {H : Hp} {x y : V} {dx dy : D} (hx : Dn K S H dx x) (hy : Dn K S H dy y) (h : scalD dx dy = true) : scal x y = true ∧ decide (x = y) = eqS dx dy := by
  cases dx <;> cases dy <;> first
    | (exact absurd (show false = true from h) Bool.false_ne_true)
    | (simp only [Dn] at hx hy; subst hx; subst hy; refine ⟨rfl, ?_⟩; simp [eqS])
theorem o3_eqS {K : PySem.W.Frag} : O3 K rEq eqSF := by
  intro S H x y dx dy Q3 Q fc hx hy hf k
  obtain ⟨h1, h2⟩ := scal_eq hx hy hf.1
  exact ⟨h1, k _ H _ (Same.refl H) (by simp only [Dn]; rw [h2]) hf.2⟩
theorem o3_neS {K : PySem.W.Frag} : O3 K rNe neSF := by
  intro S H x y dx dy Q3 Q fc hx hy hf k
  obtain ⟨h1, h2⟩ := scal_eq hx hy hf.1
  exact ⟨h1, k _ H _ (Same.refl H) (by simp only [Dn]; rw [h2]) hf.2⟩
/-- x in a tuple or list of ints -/
def allI : List D → Bool
  | [] => true
  | .int _ :: r => allI r
  | _ :: _ => false
def memI (i : Int) : List D → Bool
  | [] => false
  | .int j :: r => j == i || memI i r
  | _ :: r => memI i r
theorem allI_ints : ∀ ns : List Int, allI (ns.map D.int) = true
  | [] => rfl
  | n :: ns => by rw [List.map_cons]; exact allI_ints ns
theorem memI_ints (i : Int) : ∀ ns : List Int, memI i (ns.map D.int) = ns.contains i
  | [] => rfl
  | n :: ns => by
    rw [List.map_cons, memI, memI_ints i ns, List.contains_cons]
    congr 1
    exact Bool.beq_comm
theorem allI_of : ∀ {ds : List D}, allI ds = true → ∃ ns : List Int, ds = ns.map D.int
  | [], _ => ⟨[], rfl⟩
  | .int n :: r, h => by
    obtain ⟨ns, e⟩ := allI_of (ds := r) h
    exact ⟨n :: ns, by rw [e]; rfl⟩
  | .non :: r, h => absurd (show false = true from h) Bool.false_ne_true
  | .bl _ :: r, h => absurd (show false = true from h) Bool.false_ne_true
  | .str _ :: r, h => absurd (show false = true from h) Bool.false_ne_true
  | .tup _ :: r, h => absurd (show false = true from h) Bool.false_ne_true
  | .lst _ :: r, h => absurd (show false = true from h) Bool.false_ne_true
  | .scr _ :: r, h => absurd (show false = true from h) Bool.false_ne_true
  | .dic _ _ :: r, h => absurd (show false = true from h) Bool.false_ne_true
  | .dicT _ _ :: r, h => absurd (show false = true from h) Bool.false_ne_true
def inF (neg : Bool) : F2
  | .int i, .tup ds, Q => allI ds = true ∧ Q (.bl (if neg then !memI i ds else memI i ds))
  | .int i, .lst ds, Q => allI ds = true ∧ Q (.bl (if neg then !memI i ds else memI i ds))
  | _, _, _ => False
theorem inV_ints (i : Int) : ∀ ns : List Int, inV (.int i) (ns.map V.int) = memI i (ns.map D.int)
  | [] => rfl
  | n :: ns => by
    have e := inV_ints i ns
    unfold inV at e ⊢
    rw [List.map_cons, List.map_cons, List.any_cons, memI, e]
    rfl
theorem flat_ints : ∀ ns : List Int, (ns.map V.int).all flatV = true
  | [] => rfl
  | n :: ns => by rw [List.map_cons, List.all_cons, flat_ints ns]; rfl
theorem o3_in {K : PySem.W.Frag} {neg : Bool} : O3 K (rIn K neg) (inF neg) := by
  intro S H x y dx dy Q3 Q fc hx hy hf k
  cases dx with
  | int i =>
    simp only [Dn] at hx
    subst hx
    cases dy with
    | tup ds =>
      simp only [Dn] at hy
      obtain ⟨a, xs, rfl, ha, da⟩ := hy
      obtain ⟨h1, h2⟩ := hf
      obtain ⟨ns, rfl⟩ := allI_of h1
      have e := Dns.ints.mp da
      subst e
      refine ⟨a, _, rfl, .inr ha, rfl, flat_ints ns, k _ H _ (Same.refl H) ?_ h2⟩
      simp only [Dn]
      rw [inV_ints]
    | lst ds =>
      simp only [Dn] at hy
      obtain ⟨a, xs, rfl, ha, _, da⟩ := hy
      obtain ⟨h1, h2⟩ := hf
      obtain ⟨ns, rfl⟩ := allI_of h1
      have e := Dns.ints.mp da
      subst e
      refine ⟨a, _, rfl, .inl (SqL.of ha), rfl, flat_ints ns, k _ H _ (Same.refl H) ?_ h2⟩
      simp only [Dn]
      rw [inV_ints]
    | _ => exact hf.elim
  | _ => cases dy <;> exact hf.elim
section
variable {a b : Expr} {pos : Pos} {ta tb : WE}
def ltF : F2 := intF0 fun i j => .bl (decide (i < j))
def leF : F2 := intF0 fun i j => .bl (decide (i ≤ j))
def gtF : F2 := intF0 fun i j => .bl (decide (i > j))
def geF : F2 := intF0 fun i j => .bl (decide (i ≥ j))
theorem lt3 (ha : PE3 X a ta) (hb : PE3 X b tb) : PE3 X (.Compare a [.Lt] [b] pos) (wBin ltF ta tb) := cmp3 op_lt o3_cmp ha hb (nomark _)
theorem le3 (ha : PE3 X a ta) (hb : PE3 X b tb) : PE3 X (.Compare a [.LtE] [b] pos) (wBin leF ta tb) := cmp3 op_le o3_cmp ha hb (nomark _)
theorem gt3 (ha : PE3 X a ta) (hb : PE3 X b tb) : PE3 X (.Compare a [.Gt] [b] pos) (wBin gtF ta tb) := cmp3 op_gt o3_cmp ha hb (nomark _)
theorem ge3 (ha : PE3 X a ta) (hb : PE3 X b tb) : PE3 X (.Compare a [.GtE] [b] pos) (wBin geF ta tb) := cmp3 op_ge o3_cmp ha hb (nomark _)
theorem eqS3 (ha : PE3 X a ta) (hb : PE3 X b tb) : PE3 X (.Compare a [.Eq] [b] pos) (wBin eqSF ta tb) := cmp3 op_eq o3_eqS ha hb (nomark _)
theorem neS3 (ha : PE3 X a ta) (hb : PE3 X b tb) : PE3 X (.Compare a [.NotEq] [b] pos) (wBin neSF ta tb) := cmp3 op_ne o3_neS ha hb (nomark _)
theorem in3 (ha : PE3 X a ta) (hb : PE3 X b tb) (hm : behindInMarks .In b = false := by with_unfolding_all rfl) : PE3 X (.Compare a [.In] [b] pos) (wBin (inF false) ta tb) := cmp3 op_in_seq o3_in ha hb hm
theorem nin3 (ha : PE3 X a ta) (hb : PE3 X b tb) (hm : behindInMarks .NotIn b = false := by with_unfolding_all rfl) : PE3 X (.Compare a [.NotIn] [b] pos) (wBin (inF true) ta tb) := cmp3 op_notIn_seq o3_in ha hb hm
theorem ltT3 (ha : PE3 X a ta) (hb : PE3 X b tb) : PT3 X (.Compare a [.Lt] [b] pos) (wTest (wBin ltF ta tb)) := cmpT3 op_lt o3_cmp ha hb (nomark _)
theorem leT3 (ha : PE3 X a ta) (hb : PE3 X b tb) : PT3 X (.Compare a [.LtE] [b] pos) (wTest (wBin leF ta tb)) := cmpT3 op_le o3_cmp ha hb (nomark _)
theorem gtT3 (ha : PE3 X a ta) (hb : PE3 X b tb) : PT3 X (.Compare a [.Gt] [b] pos) (wTest (wBin gtF ta tb)) := cmpT3 op_gt o3_cmp ha hb (nomark _)
theorem geT3 (ha : PE3 X a ta) (hb : PE3 X b tb) : PT3 X (.Compare a [.GtE] [b] pos) (wTest (wBin geF ta tb)) := cmpT3 op_ge o3_cmp ha hb (nomark _)
theorem eqST3 (ha : PE3 X a ta) (hb : PE3 X b tb) : PT3 X (.Compare a [.Eq] [b] pos) (wTest (wBin eqSF ta tb)) := cmpT3 op_eq o3_eqS ha hb (nomark _)
theorem neST3 (ha : PE3 X a ta) (hb : PE3 X b tb) : PT3 X (.Compare a [.NotEq] [b] pos) (wTest (wBin neSF ta tb)) := cmpT3 op_ne o3_neS ha hb (nomark _)
theorem inT3 (ha : PE3 X a ta) (hb : PE3 X b tb) (hm : behindInMarks .In b = false := by with_unfolding_all rfl) : PT3 X (.Compare a [.In] [b] pos) (wTest (wBin (inF false) ta tb)) := cmpT3 op_in_seq o3_in ha hb hm
theorem ninT3 (ha : PE3 X a ta) (hb : PE3 X b tb) (hm : behindInMarks .NotIn b = false := by with_unfolding_all rfl) : PT3 X (.Compare a [.NotIn] [b] pos) (wTest (wBin (inF true) ta tb)) := cmpT3 op_notIn_seq o3_in ha hb hm
end
/-- x is None -/
def isD : D → Bool
  | .non => true
  | _ => false
def isNF : F2 := fun x y Q => isD y = true ∧ Q (.bl (isD x))
theorem o3_isN {K : PySem.W.Frag} : O3 K (fun x y H Q => y = .non ∧ Q (.bl (decide (x = .non))) H) isNF := by
  intro S H x y dx dy Q3 Q fc hx hy hf k
  obtain ⟨h1, h2⟩ := hf
  cases dy <;> try exact absurd (show false = true from h1) Bool.false_ne_true
  simp only [Dn] at hy
  refine ⟨hy, k _ H _ (Same.refl H) ?_ h2⟩
  cases dx <;> simp only [Dn] at hx ⊢
  all_goals first
    | (subst hx; simp [isD])
    | (obtain ⟨a, xs, rfl, _⟩ := hx; simp [isD])
    | (obtain ⟨a, rfl, _⟩ := hx; simp [isD])
theorem isNT3 {a b : Expr} {pos : Pos} {ta tb : WE} (ha : PE3 X a ta) (hb : PE3 X b tb) : PT3 X (.Compare a [.Is] [b] pos) (wTest (wBin isNF ta tb)) := cmpT3 op_isN o3_isN ha hb (nomark _)
theorem isN3 {a b : Expr} {pos : Pos} {ta tb : WE} (ha : PE3 X a ta) (hb : PE3 X b tb) : PE3 X (.Compare a [.Is] [b] pos) (wBin isNF ta tb) := cmp3 op_isN o3_isN ha hb (nomark _)
/-! ### not, and, or, if else -/
def wNotT (t : WT) : WT := fun ρ Q => t ρ fun b => Q (!b)
def wAndT (t u : WT) : WT := fun ρ Q => t ρ fun b => if b = true then u ρ Q else Q false
def wOrT (t u : WT) : WT := fun ρ Q => t ρ fun b => if b = true then Q true else u ρ Q
def PW3 (X : Cx) (e : Expr) (t : WT) : Prop := PW X e (liftT X.K t)
theorem impW {e : Expr} {t t' : TT} (h : PW X e t) (f : ∀ σ H Q, t' σ H Q → t σ H Q) : PW X e t' := fun wh pins s σ H Q I q => h wh pins s σ H Q I (f σ H Q q)
section
variable {a b : Expr} {rest : List Expr} {pos : Pos} {ta tb : WT}
theorem PW3.pt {e : Expr} {t : WT} (h : PW3 X e t) : PT3 X e t := PW.pt h
theorem notT3 (ha : PT3 X a ta) : PT3 X (.UnaryOp .Not a pos) (wNotT ta) := impT (pt_not ha) fun σ H Q ⟨S, ρ, Q3, fc, sl, ht, k⟩ => ⟨S, ρ, _, fc, sl, ht, fun b H1 s1 q1 => k (!b) H1 s1 q1⟩
theorem and1 (ha : PT3 X a ta) : PW3 X (.BoolOp .And [a] pos) ta := pw_and1 ha
theorem or1 (ha : PT3 X a ta) : PW3 X (.BoolOp .Or [a] pos) ta := pw_or1 ha
theorem andT3 (ha : PT3 X a ta) (hb : PW3 X (.BoolOp .And (b :: rest) pos) tb) : PW3 X (.BoolOp .And (a :: b :: rest) pos) (wAndT ta tb) := impW (pw_and ha hb) fun σ H Q ⟨S, ρ, Q3, fc, sl, ht, k⟩ => by
  refine ⟨S, ρ, _, fc, sl, ht, fun c H1 s1 q1 => ?_⟩
  cases c with
  | true => rw [if_pos rfl] at q1 ⊢; exact ⟨S, ρ, Q3, fc_same fc s1, Sl.fits (.same s1) sl, q1, fun b' H2 s2 q2 => k b' H2 (s1.trans s2) q2⟩
  | false => rw [if_neg Bool.false_ne_true] at q1 ⊢; exact k false H1 s1 q1
theorem orT3 (ha : PT3 X a ta) (hb : PW3 X (.BoolOp .Or (b :: rest) pos) tb) : PW3 X (.BoolOp .Or (a :: b :: rest) pos) (wOrT ta tb) := impW (pw_or ha hb) fun σ H Q ⟨S, ρ, Q3, fc, sl, ht, k⟩ => by
  refine ⟨S, ρ, _, fc, sl, ht, fun c H1 s1 q1 => ?_⟩
  cases c with
  | false => rw [if_neg Bool.false_ne_true] at q1 ⊢; exact ⟨S, ρ, Q3, fc_same fc s1, Sl.fits (.same s1) sl, q1, fun b' H2 s2 q2 => k b' H2 (s1.trans s2) q2⟩
  | true => rw [if_pos rfl] at q1 ⊢; exact k true H1 s1 q1
end
/-- .. as values -/
def wAnd (ta tb : WE) : WE := fun ρ Q => ta ρ fun x => match x with
  | .bl true => tb ρ Q
  | .bl false => Q (.bl false)
  | _ => False
def wOr (ta tb : WE) : WE := fun ρ Q => ta ρ fun x => match x with
  | .bl true => Q (.bl true)
  | .bl false => tb ρ Q
  | _ => False
def wNot (ta : WE) : WE := fun ρ Q => ta ρ fun x => match x with
  | .bl b => Q (.bl (!b))
  | _ => False
def wIf (t : WT) (ta tb : WE) : WE := fun ρ Q => t ρ fun b => if b = true then ta ρ Q else tb ρ Q
section
variable {a b c : Expr} {rest : List Expr} {pos : Pos} {ta tb : WE} {tc : WT}
theorem one3 {op} (ha : PE3 X a ta) : PE3 X (.BoolOp op [a] pos) ta := pe_one ha
theorem and3 (ha : PE3 X a ta) (hb : PE3 X (.BoolOp .And (b :: rest) pos) tb) : PE3 X (.BoolOp .And (a :: b :: rest) pos) (wAnd ta tb) := imp (pe_and ha hb) fun σ H Q ⟨S, ρ, Q3, fc, sl, ht, k⟩ => by
  refine ⟨S, ρ, _, fc, sl, ht, fun v H1 d s1 d1 q1 => ?_⟩
  cases d with
  | bl c =>
    simp only [Dn] at d1
    refine ⟨c, d1, ?_⟩
    cases c with
    | true => rw [if_pos rfl]; exact ⟨S, ρ, Q3, fc_same fc s1, Sl.fits (.same s1) sl, q1, fun v' H2 d' s2 d2 q2 => k v' H2 d' (s1.trans s2) d2 q2⟩
    | false => rw [if_neg Bool.false_ne_true]; exact k _ H1 (.bl false) s1 (by simp only [Dn]) q1
  | _ => exact q1.elim
theorem or3 (ha : PE3 X a ta) (hb : PE3 X (.BoolOp .Or (b :: rest) pos) tb) : PE3 X (.BoolOp .Or (a :: b :: rest) pos) (wOr ta tb) := imp (pe_or ha hb) fun σ H Q ⟨S, ρ, Q3, fc, sl, ht, k⟩ => by
  refine ⟨S, ρ, _, fc, sl, ht, fun v H1 d s1 d1 q1 => ?_⟩
  cases d with
  | bl c =>
    simp only [Dn] at d1
    refine ⟨c, d1, ?_⟩
    cases c with
    | false => rw [if_neg Bool.false_ne_true]; exact ⟨S, ρ, Q3, fc_same fc s1, Sl.fits (.same s1) sl, q1, fun v' H2 d' s2 d2 q2 => k v' H2 d' (s1.trans s2) d2 q2⟩
    | true => rw [if_pos rfl]; exact k _ H1 (.bl true) s1 (by simp only [Dn]) q1
  | _ => exact q1.elim
theorem not3 (ha : PE3 X a ta) : PE3 X (.UnaryOp .Not a pos) (wNot ta) := imp (pe_not ha) fun σ H Q ⟨S, ρ, Q3, fc, sl, ht, k⟩ => by
  refine ⟨S, ρ, _, fc, sl, ht, fun v H1 d s1 d1 q1 => ?_⟩
  cases d with
  | bl c => simp only [Dn] at d1; exact ⟨c, d1, k _ H1 (.bl (!c)) s1 (by simp only [Dn]) q1⟩
  | _ => exact q1.elim
theorem if3 (hc : PT3 X c tc) (ha : PE3 X a ta) (hb : PE3 X b tb) : PE3 X (.IfExp c a b pos) (wIf tc ta tb) := imp (pe_ifExp hc ha hb) fun σ H Q ⟨S, ρ, Q3, fc, sl, ht, k⟩ => by
  refine ⟨S, ρ, _, fc, sl, ht, fun c H1 s1 q1 => ?_⟩
  cases c with
  | true => rw [if_pos rfl] at q1 ⊢; exact ⟨S, ρ, Q3, fc_same fc s1, Sl.fits (.same s1) sl, q1, fun v' H2 d' s2 d2 q2 => k v' H2 d' (s1.trans s2) d2 q2⟩
  | false => rw [if_neg Bool.false_ne_true] at q1 ⊢; exact ⟨S, ρ, Q3, fc_same fc s1, Sl.fits (.same s1) sl, q1, fun v' H2 d' s2 d2 q2 => k v' H2 d' (s1.trans s2) d2 q2⟩
/-- a value that is a truth, as a test (a call, a name ..) -/
theorem val3 {e : Expr} {t : WE} (h : PE3 X e t) (he : ∀ whole, isTrue e X.env whole = (do let v ← whole; standAt e.pos; holding [v] (truthy v)) := by intro _; rfl) : PT3 X e (wTest t) :=
  impT (pt_val h he) fun σ H Q h => lift_test h
/-- -a -/
def wNeg (ta : WE) : WE := fun ρ Q => ta ρ fun x => match x with
  | .int i => Q (.int (-i))
  | _ => False
theorem neg3 (ha : PE3 X a ta) : PE3 X (.UnaryOp .USub a pos) (wNeg ta) := imp (pe_un un_neg ha) fun σ H Q ⟨S, ρ, Q3, fc, sl, ht, k⟩ => by
  refine ⟨S, ρ, _, fc, sl, ht, fun v H1 d s1 d1 q1 => ?_⟩
  cases d with
  | int i => simp only [Dn] at d1; exact ⟨i, d1, k _ H1 (.int (-i)) s1 (by simp only [Dn]) q1⟩
  | _ => exact q1.elim
end
/-- a op b op c -/
def wChain (f g : F2) (ta tb tc : WE) : WE := fun ρ Q => ta ρ fun x => tb ρ fun y => f x y fun z => match z with
  | .bl true => tc ρ fun u => g y u Q
  | .bl false => Q (.bl false)
  | _ => False
theorem lift_chain {K : PySem.W.Frag} {r r' : R2} {f g : F2} {ta tb tc : WE} {σ : L2.St} {H : Hp} {Q : VK} (h1 : O3 K r f) (h2 : O3 K r' g) (h : lift K (wChain f g ta tb tc) σ H Q) : tChain r r' (lift K ta) (lift K tb) (lift K tc) σ H Q := by
  obtain ⟨S, ρ, Q3, fc, sl, ht, k⟩ := h
  refine ⟨S, ρ, _, fc, sl, ht, fun v H1 d s1 d1 q1 => ?_⟩
  refine ⟨S, ρ, _, fc_same fc s1, Sl.fits (.same s1) sl, q1, fun u H2 e s2 e1 q2 => ?_⟩
  refine h1 S H2 v u d e _ _ (fc_same fc (s1.trans s2)) (Dn.fits (.same s2) _ _ d1) e1 q2 fun z H3 dz s3 dz1 q3 => ?_
  cases dz with
  | bl c =>
    simp only [Dn] at dz1
    refine ⟨c, dz1, ?_⟩
    cases c with
    | false => rw [if_neg Bool.false_ne_true]; exact k _ H3 (.bl false) ((s1.trans s2).trans s3) (by simp only [Dn]) q3
    | true =>
      rw [if_pos rfl]
      refine ⟨S, ρ, _, fc_same fc ((s1.trans s2).trans s3), Sl.fits (.same ((s1.trans s2).trans s3)) sl, q3, fun w' H4 dw s4 dw1 q4 => ?_⟩
      exact h2 S H4 u w' e dw Q3 Q (fc_same fc (((s1.trans s2).trans s3).trans s4)) (Dn.fits (.same (s3.trans s4)) _ _ e1) dw1 q4 fun v' H5 d' s5 d5 q5 => k v' H5 d' ((((s1.trans s2).trans s3).trans s4).trans s5) d5 q5
  | _ => exact q3.elim
theorem chain3 {a b c : Expr} {op op' : CmpOp} {pos : Pos} {r r' : R2} {f g : F2} {ta tb tc : WE} (ho : OpR X (compareOp op) r) (ho' : OpR X (compareOp op') r') (h1 : O3 X.K r f) (h2 : O3 X.K r' g) (ha : PE3 X a ta) (hb : PE3 X b tb) (hc : PE3 X c tc)
    (hm : lastMarks [op, op'] [b, c] = false := by with_unfolding_all rfl) : PE3 X (.Compare a [op, op'] [b, c] pos) (wChain f g ta tb tc) := imp (pe_chain ho ho' ha hb hc hm) fun _ _ _ => lift_chain h1 h2
theorem chainT3 {a b c : Expr} {op op' : CmpOp} {pos : Pos} {r r' : R2} {f g : F2} {ta tb tc : WE} (ho : OpR X (compareOp op) r) (ho' : OpR X (compareOp op') r') (h1 : O3 X.K r f) (h2 : O3 X.K r' g) (ha : PE3 X a ta) (hb : PE3 X b tb) (hc : PE3 X c tc)
    (hm : lastMarks [op, op'] [b, c] = false := by with_unfolding_all rfl) : PT3 X (.Compare a [op, op'] [b, c] pos) (wTest (wChain f g ta tb tc)) := impT (pt_chain ho ho' ha hb hc hm) fun _ _ _ h => tTest_mono (fun _ _ _ => lift_chain h1 h2) (lift_test h)
/-! ### x[i] -/
def ixF : F2
  | .lst ds, .int i, Q => (match atI ds i with | some d => Q d | none => False)
  | .tup ds, .int i, Q => (match atI ds i with | some d => Q d | none => False)
  | .scr ns, .int i, Q => (match atI ns i with | some n => Q (.int n) | none => False)
  | _, _, _ => False
theorem Dns.at {K : PySem.W.Frag} {S : Addr → Prop} {H : Hp} {ds : List D} {xs : List V} {i : Int} {d : D} (h : Dns K S H ds xs) (e : atI ds i = some d) : ∃ v, atI xs i = some v ∧ Dn K S H d v := by
  unfold atI at e ⊢
  rw [← h.len]
  cases q : ixN ds.length i with
  | none => rw [q] at e; cases e
  | some j =>
    rw [q] at e
    obtain ⟨v, e1, dn⟩ := h.get (i := j) (d := d) e
    exact ⟨v, e1, dn⟩
theorem atI_map {α β : Type} (f : α → β) (xs : List α) (i : Int) : atI (xs.map f) i = (atI xs i).map f := by
  unfold atI
  rw [List.length_map]
  cases ixN xs.length i with
  | none => rfl
  | some j => simp
theorem o3_ix {K : PySem.W.Frag} : O3 K (fun x y H Q => rIxL K x y H Q ∨ rIxT K x y H Q) ixF := by
  intro S H x y dx dy Q3 Q fc hx hy hf k
  cases dx with
  | lst ds =>
    cases dy with
    | int i =>
      simp only [Dn] at hx hy
      obtain ⟨a, xs, rfl, ha, sa, da⟩ := hx
      have hf : (match atI ds i with | some d => Q3 d | none => False) := hf
      cases e : atI ds i with
      | none => rw [e] at hf; exact hf.elim
      | some d =>
        rw [e] at hf
        obtain ⟨v, e1, dv⟩ := da.at e
        exact .inl ⟨a, xs, i, v, rfl, hy, SqL.of ha, e1, k v H d (Same.refl H) dv hf⟩
    | _ => exact hf.elim
  | tup ds =>
    cases dy with
    | int i =>
      simp only [Dn] at hx hy
      obtain ⟨a, xs, rfl, ha, da⟩ := hx
      have hf : (match atI ds i with | some d => Q3 d | none => False) := hf
      cases e : atI ds i with
      | none => rw [e] at hf; exact hf.elim
      | some d =>
        rw [e] at hf
        obtain ⟨v, e1, dv⟩ := da.at e
        exact .inr ⟨a, xs, i, v, rfl, hy, ha, e1, k v H d (Same.refl H) dv hf⟩
    | _ => exact hf.elim
  | scr ns =>
    cases dy with
    | int i =>
      simp only [Dn] at hx hy
      obtain ⟨a, rfl, ha⟩ := hx
      have hf : (match atI ns i with | some n => Q3 (.int n) | none => False) := hf
      cases e : atI ns i with
      | none => rw [e] at hf; exact hf.elim
      | some n =>
        rw [e] at hf
        exact .inl ⟨a, _, i, .int n, rfl, hy, ha.sq, by rw [atI_map, e]; rfl, k _ H (.int n) (Same.refl H) (by simp only [Dn]) hf⟩
    | _ => exact hf.elim
  | _ => cases dy <;> exact hf.elim
theorem ix3 {a b : Expr} {pos : Pos} {ta tb : WE} (ha : PE3 X a ta) (hb : PE3 X b tb) (hs : PlainIx b := by intro _ _; rfl) : PE3 X (.Subscript a b pos) (wBin ixF ta tb) :=
  imp (pe_ix (ix_list.or ix_tup) ha hb hs) fun _ _ _ => lift_bin o3_ix
/-! ### calls of built-ins -/
abbrev F1 := List D → (D → Prop) → Prop
def wCB (f : F1) (t : WA) : WE := fun ρ Q => t ρ fun ds => f ds Q
def C3 (K : PySem.W.Frag) (r : List V → Hp → VK → Prop) (f : F1) : Prop := ∀ (S : Addr → Prop) (H : Hp) (xs : List V) (ds : List D) (Q3 : D → Prop) (Q : VK), (∀ a, H a = none → S a) → Dns K S H ds xs → f ds Q3 →
  (∀ v H' d, Same H H' → Dn K S H' d v → Q3 d → Q v H') → r xs H Q
def C3F (K : PySem.W.Frag) (r : List V → Hp → VK → Prop) (f : F1) : Prop := ∀ (S : Addr → Prop) (H : Hp) (xs : List V) (ds : List D) (Q3 : D → Prop) (Q : VK), (∀ a, H a = none → S a) → Dns K S H ds xs → f ds Q3 →
  (∀ p ys H' es, H p = none → H' p = some (.lst ys) → Same H H' → Dns K (fun a => S a ∧ a ≠ p) H' es ys → Q3 (.lst es) → Q (.ref p) H') → r xs H Q
theorem lift_cb {K : PySem.W.Frag} {r : List V → Hp → VK → Prop} {f : F1} {t : WA} {σ : L2.St} {H : Hp} {Q : VK} (h3 : C3 K r f) (h : lift K (wCB f t) σ H Q) : tCB r (liftA K t) σ H Q := by
  obtain ⟨S, ρ, Q3, fc, sl, ht, k⟩ := h
  refine ⟨S, ρ, _, fc, sl, ht, fun vs H1 ds s1 d1 q1 => ?_⟩
  exact h3 S H1 vs ds Q3 Q (fc_same fc s1) d1 q1 fun v H' d s' d' q' => k v H' d (s1.trans s') d' q'
theorem lift_cbF {K : PySem.W.Frag} {r : List V → Hp → VK → Prop} {f : F1} {t : WA} {σ : L2.St} {H : Hp} {Q : VK} (h3 : C3F K r f) (h : liftF K (wCB f t) σ H Q) : tCB r (liftA K t) σ H Q := by
  obtain ⟨S, ρ, Q3, fc, sl, ht, k⟩ := h
  refine ⟨S, ρ, _, fc, sl, ht, fun vs H1 ds s1 d1 q1 => ?_⟩
  exact h3 S H1 vs ds Q3 Q (fc_same fc s1) d1 q1 fun p ys H' es hp hp' s' d' q' => k p ys H' es (s1.free hp) hp' (s1.trans s') d' q'
theorem callB3 {x : Str} {p pos : Pos} {e : Expr} {es : List Expr} {t : WA} {id : String} {r : List V → Hp → VK → Prop} {f : F1} (hc : CallR X (.builtin id) r) (h3 : C3 X.K r f) (hv : bootBuiltins x = some (.builtin id)) (hg : Gl X x) (hm : X.mg x = none) (ha : PA3 X (e :: es) t) (hn : x ≠ "__name__" := by decide) (hdb : (x == ("__debug__" : Str)) = false := by decide)
    (he : starEach (e :: es) X.env = (false, eval e X.env) :: starEach es X.env := by rfl) (hpl : (backTo pos (starEach es X.env)).any (·.1) = false := by rfl) : PE3 X (.Call (.Name x p) (e :: es) [] pos) (wCB f t) :=
  imp (pe_callB hc hg hm hv ha hn hdb he hpl) fun _ _ _ => lift_cb h3
theorem callBF3 {x : Str} {p pos : Pos} {e : Expr} {es : List Expr} {t : WA} {id : String} {r : List V → Hp → VK → Prop} {f : F1} (hc : CallR X (.builtin id) r) (h3 : C3F X.K r f) (hv : bootBuiltins x = some (.builtin id)) (hg : Gl X x) (hm : X.mg x = none) (ha : PA3 X (e :: es) t) (hn : x ≠ "__name__" := by decide) (hdb : (x == ("__debug__" : Str)) = false := by decide)
    (he : starEach (e :: es) X.env = (false, eval e X.env) :: starEach es X.env := by rfl) (hpl : (backTo pos (starEach es X.env)).any (·.1) = false := by rfl) : PF3 X (.Call (.Name x p) (e :: es) [] pos) (wCB f t) :=
  imp (pe_callB hc hg hm hv ha hn hdb he hpl) fun _ _ _ => lift_cbF h3
theorem callTy3 {x : Str} {p pos : Pos} {e : Expr} {es : List Expr} {t : WA} {T : String} {r : List V → Hp → VK → Prop} {f : F1} (hc : CallR X (.type T) r) (h3 : C3 X.K r f) (hv : bootBuiltins x = some (.type T)) (hg : Gl X x) (hm : X.mg x = none) (ha : PA3 X (e :: es) t) (hn : x ≠ "__name__" := by decide) (hdb : (x == ("__debug__" : Str)) = false := by decide)
    (he : starEach (e :: es) X.env = (false, eval e X.env) :: starEach es X.env := by rfl) (hpl : (backTo pos (starEach es X.env)).any (·.1) = false := by rfl) : PE3 X (.Call (.Name x p) (e :: es) [] pos) (wCB f t) :=
  imp (pe_callTy hc hg hm hv ha hn hdb he hpl) fun _ _ _ => lift_cb h3
theorem callTyF3 {x : Str} {p pos : Pos} {e : Expr} {es : List Expr} {t : WA} {T : String} {r : List V → Hp → VK → Prop} {f : F1} (hc : CallR X (.type T) r) (h3 : C3F X.K r f) (hv : bootBuiltins x = some (.type T)) (hg : Gl X x) (hm : X.mg x = none) (ha : PA3 X (e :: es) t) (hn : x ≠ "__name__" := by decide) (hdb : (x == ("__debug__" : Str)) = false := by decide)
    (he : starEach (e :: es) X.env = (false, eval e X.env) :: starEach es X.env := by rfl) (hpl : (backTo pos (starEach es X.env)).any (·.1) = false := by rfl) : PF3 X (.Call (.Name x p) (e :: es) [] pos) (wCB f t) :=
  imp (pe_callTy hc hg hm hv ha hn hdb he hpl) fun _ _ _ => lift_cbF h3
/-- len -/
def lenF : F1
  | [.lst ds], Q => Q (.int ds.length)
  | [.tup ds], Q => Q (.int ds.length)
  | [.scr ns], Q => Q (.int ns.length)
  | _, _ => False
theorem c3_len {K : PySem.W.Frag} : C3 K (fun xs H Q => ∃ p ys, xs = [.ref p] ∧ (SqL K H p ys ∨ SqT K H p ys) ∧ Q (.int ys.length) H) lenF := by
  intro S H xs ds Q3 Q fc hd hf k
  match ds, hf with
  | [.lst es], hf =>
    obtain ⟨v, r, rfl, h1, h2⟩ := hd.uncons
    simp only [Dns] at h2
    subst h2
    simp only [Dn] at h1
    obtain ⟨a, ys, rfl, ha, sa, da⟩ := h1
    exact ⟨a, ys, rfl, .inl (SqL.of ha), k _ H _ (Same.refl H) (by simp only [Dn]; rw [da.len]) hf⟩
  | [.tup es], hf =>
    obtain ⟨v, r, rfl, h1, h2⟩ := hd.uncons
    simp only [Dns] at h2
    subst h2
    simp only [Dn] at h1
    obtain ⟨a, ys, rfl, ha, da⟩ := h1
    exact ⟨a, ys, rfl, .inr ha, k _ H _ (Same.refl H) (by simp only [Dn]; rw [da.len]) hf⟩
  | [.scr ns], hf =>
    obtain ⟨v, r, rfl, h1, h2⟩ := hd.uncons
    simp only [Dns] at h2
    subst h2
    simp only [Dn] at h1
    obtain ⟨a, rfl, ha⟩ := h1
    exact ⟨a, _, rfl, .inl ha.sq, k _ H _ (Same.refl H) (by simp only [Dn]; rw [List.length_map]) hf⟩
theorem len3 {p pos : Pos} {e : Expr} {t : WA} (hm : X.mg "len" = none) (ha : PA3 X [e] t) (hg : Gl X "len" := by rfl)
    (he : starEach [e] X.env = (false, eval e X.env) :: starEach [] X.env := by rfl) : PE3 X (.Call (.Name "len" p) [e] [] pos) (wCB lenF t) := callB3 call_len_seq c3_len PySem.boot_len hg hm ha (by decide) (by decide) he (by rfl)
/-- tuple(x) -/
def tupleF : F1
  | [.lst ds], Q => Q (.tup ds)
  | [.tup ds], Q => Q (.tup ds)
  | _, _ => False
theorem c3_tuple {K : PySem.W.Frag} : C3 K (fun xs H Q => ∃ p ys, xs = [.ref p] ∧ ((SqL K H p ys ∧ ∀ l, H l = none → Q (.ref l) (upd H l (.tup ys))) ∨ (SqT K H p ys ∧ Q (.ref p) H))) tupleF := by
  intro S H xs ds Q3 Q fc hd hf k
  match ds, hf with
  | [.lst es], hf =>
    obtain ⟨v, r, rfl, h1, h2⟩ := hd.uncons
    simp only [Dns] at h2
    subst h2
    simp only [Dn] at h1
    obtain ⟨a, ys, rfl, ha, sa, da⟩ := h1
    refine ⟨a, ys, rfl, .inl ⟨SqL.of ha, fun l hl => k _ _ _ (same_upd hl) ?_ hf⟩⟩
    simp only [Dn]
    exact ⟨l, ys, rfl, .inl (.inl upd_same), Dns.fits (.same (same_upd hl)) _ _ da⟩
  | [.tup es], hf =>
    obtain ⟨v, r, rfl, h1, h2⟩ := hd.uncons
    simp only [Dns] at h2
    subst h2
    have h1' := h1
    simp only [Dn] at h1
    obtain ⟨a, ys, rfl, ha, da⟩ := h1
    exact ⟨a, ys, rfl, .inr ⟨ha, k _ H _ (Same.refl H) h1' hf⟩⟩
theorem tuple3 {p pos : Pos} {e : Expr} {t : WA} (hm : X.mg "tuple" = none) (hv : bootBuiltins "tuple" = some (.type "tuple")) (ha : PA3 X [e] t) (hg : Gl X "tuple" := by rfl)
    (he : starEach [e] X.env = (false, eval e X.env) :: starEach [] X.env := by rfl) : PE3 X (.Call (.Name "tuple" p) [e] [] pos) (wCB tupleF t) := callTy3 call_tuple_of c3_tuple hv hg hm ha (by decide) (by decide) he (by rfl)
/-- list(x): a new one -/
def listF : F1
  | [.lst ds], Q => Q (.lst ds)
  | [.tup ds], Q => Q (.lst ds)
  | _, _ => False
theorem c3_list {K : PySem.W.Frag} : C3F K (fun xs H Q => ∃ p ys, xs = [.ref p] ∧ (SqL K H p ys ∨ SqT K H p ys) ∧ ∀ l, H l = none → Q (.ref l) (upd H l (.lst ys))) listF := by
  intro S H xs ds Q3 Q fc hd hf k
  match ds, hf with
  | [.lst es], hf =>
    obtain ⟨v, r, rfl, h1, h2⟩ := hd.uncons
    simp only [Dns] at h2
    subst h2
    simp only [Dn] at h1
    obtain ⟨a, ys, rfl, ha, sa, da⟩ := h1
    exact ⟨a, ys, rfl, .inl (SqL.of ha), fun l hl => k l ys _ es hl upd_same (same_upd hl) (Dns.fits ((Fits.fresh hl).trans (.same (same_upd hl))) _ _ da) hf⟩
  | [.tup es], hf =>
    obtain ⟨v, r, rfl, h1, h2⟩ := hd.uncons
    simp only [Dns] at h2
    subst h2
    simp only [Dn] at h1
    obtain ⟨a, ys, rfl, ha, da⟩ := h1
    exact ⟨a, ys, rfl, .inr ha, fun l hl => k l ys _ es hl upd_same (same_upd hl) (Dns.fits ((Fits.fresh hl).trans (.same (same_upd hl))) _ _ da) hf⟩
theorem list3 {p pos : Pos} {e : Expr} {t : WA} (hm : X.mg "list" = none) (hv : bootBuiltins "list" = some (.type "list")) (ha : PA3 X [e] t) (hg : Gl X "list" := by rfl)
    (he : starEach [e] X.env = (false, eval e X.env) :: starEach [] X.env := by rfl) : PF3 X (.Call (.Name "list" p) [e] [] pos) (wCB listF t) := callTyF3 call_list_of c3_list hv hg hm ha (by decide) (by decide) he (by rfl)
/-! ### calls of the text's own defs -/
abbrev Spec := List D → (D → Prop) → Prop
def sp3 (K : PySem.W.Frag) (R : Spec) : Sp := fun vs H Q _ => ∃ (S : Addr → Prop) (ds : List D) (Q3 : D → Prop), (∀ a, H a = none → S a) ∧ Dns K S H ds vs ∧ R ds Q3 ∧ ∀ v H' d, Same H H' → Dn K S H' d v → Q3 d → Q v H'
theorem call3 {k : Nat} {f : Addr} {fd : FuncData} {ps : List Str} {R : Spec} {x : Str} {p pos : Pos} {e : Expr} {es : List Expr} {t : WA} (F : FnOk X.prog X.w X.K X.mg X.base CX0 k f fd ps (sp3 X.K R)) (hr : Room k X.A) (hm : X.mg x = some (.ref f)) (hk : PySem.W.keepIn X.K (.ref f) = true) (hb : Binds X.K fd ps [])
    (ha : PA3 X (e :: es) t) (hg : Gl X x := by rfl) (hdb : (x == ("__debug__" : Str)) = false := by decide) (he : starEach (e :: es) X.env = (false, eval e X.env) :: starEach es X.env := by rfl) (hpl : (backTo pos (starEach es X.env)).any (·.1) = false := by rfl) :
    PE3 X (.Call (.Name x p) (e :: es) [] pos) (wCB R t) := imp (pe_call F hr hg hm hk hb .nil pass0 ha hdb he hpl) fun σ H Q ⟨S, ρ, Q3, fc, sl, ht, k⟩ => by
  refine ⟨S, ρ, _, fc, sl, ht, fun vs H1 ds s1 d1 q1 => ?_⟩
  show sp3 X.K R (vs ++ []) H1 Q E0
  rw [List.append_nil]
  exact ⟨S, ds, Q3, fc_same fc s1, d1, q1, fun v H' d s' d' q' => k v H' d (s1.trans s') d' q'⟩
end
end L3

end
section
set_option Elab.async false
set_option linter.all false
set_option maxRecDepth 100000
set_option maxHeartbeats 4100000
namespace L3
open PySem PySem.Spec PyProof.Rows L2
/-! ### statements -/
structure DE where
  nx : SEnv → Prop
  rt : D → Prop
  bk : SEnv → Prop := fun _ => False
  ct : SEnv → Prop := fun _ => False
abbrev WS := DE → SEnv → Prop
/-- what the ends over deep values say of the ends below -/
structure EndsOk (K : PySem.W.Frag) (n : Nat) (H₀ : Hp) (S : Addr → Prop) (G : List (D × V)) (E : DE) (B : Ends) : Prop where
  nx : ∀ w σ H ρ, σ.length = n → ST K H₀ S w σ H ρ G → E.nx ρ → B.nx σ H
  rt : ∀ v H d, Same H₀ H → Dn K S H d v → E.rt d → B.rt v H
  bk : ∀ w σ H ρ, σ.length = n → ST K H₀ S w σ H ρ G → E.bk ρ → B.bk σ H
  ct : ∀ w σ H ρ, σ.length = n → ST K H₀ S w σ H ρ G → E.ct ρ → B.ct σ H
def liftS (K : PySem.W.Frag) (n : Nat) (t : WS) : TS := fun B σ H => ∃ (H₀ : Hp) (S : Addr → Prop) (w : Nat → Addr) (ρ : SEnv) (G : List (D × V)) (E : DE), σ.length = n ∧ ST K H₀ S w σ H ρ G ∧ t E ρ ∧ EndsOk K n H₀ S G E B
def PS3 (X : Cx) (st : Stmt) (t : WS) : Prop := PS X st (liftS X.K X.N.length t)
def PSs3 (X : Cx) (st : List Stmt) (t : WS) : Prop := PSs X st (liftS X.K X.N.length t)
section
variable {X : Cx}
theorem impS {e : Stmt} {t t' : TS} (h : PS X e t) (f : ∀ B σ H, t' B σ H → t B σ H) : PS X e t' := fun pins s σ H B I q => h pins s σ H B I (f B σ H q)
theorem impSs {e : List Stmt} {t t' : TS} (h : PSs X e t) (f : ∀ B σ H, t' B σ H → t B σ H) : PSs X e t' := fun pins s σ H B I q => h pins s σ H B I (f B σ H q)
def wNext : WS := fun E ρ => E.nx ρ
def wSeq (t u : WS) : WS := fun E ρ => t { E with nx := u E } ρ
theorem end3 : PSs3 X [] wNext := impSs pss_nil fun B σ H ⟨H₀, S, w, ρ, G, E, hl, st, ht, ok⟩ => ok.nx w σ H ρ hl st ht
/-- the states keep their length: the slots are the names -/
theorem len_of {pins : List (Addr × Obj)} {σ : L2.St} {H : Hp} {s : Shared} (I : Inv X pins σ H s) : σ.length = X.N.length := I.len
theorem seq3 {st : Stmt} {rest : List Stmt} {t u : WS} (h1 : PS3 X st t) (h2 : PSs3 X rest u) : PSs3 X (st :: rest) (wSeq t u) := impSs (pss_cons h1 h2) fun B σ H ⟨H₀, S, w, ρ, G, E, hl, sT, ht, ok⟩ =>
  ⟨H₀, S, w, ρ, G, { E with nx := u E }, hl, sT, ht, ⟨fun w' σ' H' ρ' hl' st' q => ⟨H₀, S, w', ρ', G, E, hl', st', q, ok⟩, ok.rt, ok.bk, ok.ct⟩⟩
/-- .. with a word of what holds between the two -/
def wSeqM (t u : WS) : WS := fun E ρ => ∃ M : SEnv → Prop, t { E with nx := M } ρ ∧ ∀ ρ', M ρ' → u E ρ'
theorem seqM3 {st : Stmt} {rest : List Stmt} {t u : WS} (h1 : PS3 X st t) (h2 : PSs3 X rest u) : PSs3 X (st :: rest) (wSeqM t u) := impSs (pss_cons h1 h2) fun B σ H ⟨H₀, S, w, ρ, G, E, hl, sT, ⟨M, ht, hm⟩, ok⟩ =>
  ⟨H₀, S, w, ρ, G, { E with nx := M }, hl, sT, ht, ⟨fun w' σ' H' ρ' hl' st' q => ⟨H₀, S, w', ρ', G, E, hl', st', hm ρ' q, ok⟩, ok.rt, ok.bk, ok.ct⟩⟩
theorem last3 {st : Stmt} {t : WS} (h1 : PS3 X st t) : PSs3 X [st] t := impSs (pss_one h1) fun _ _ _ h => h
/-- from here on the own list in slot i is only read -/
theorem freeze3 (i : Nat) {rest : List Stmt} {t : WS} (h : PSs3 X rest t) : PSs3 X rest (fun E ρ => t E (freeze ρ i)) := impSs h fun B σ H ⟨H₀, S, w, ρ, G, E, hl, st, ht, ok⟩ => ⟨H₀, S, w, freeze ρ i, G, E, hl, st.frozen, ht, ok⟩
/-! ### return -/
def wRet (t : WE) : WS := fun E ρ => t (vAll ρ) E.rt
theorem ret3 {e : Expr} {t : WE} {pos : Pos} (h : PE3 X e t) : PS3 X (.Return (some e) pos) (wRet t) := impS (ps_ret h) fun B σ H ⟨H₀, S, w, ρ, G, E, hl, st, ht, ok⟩ =>
  ⟨S, vAll ρ, E.rt, st.fcH, st.all, ht, fun v H' d s' d' q' => ok.rt v H' d (st.sm.trans s') d' q'⟩
/-! ### if -/
def wIfS (c : WT) (t u : WS) : WS := fun E ρ => c (vAll ρ) fun b => if b = true then t E ρ else u E ρ
theorem ifS3 {c : Expr} {a b : List Stmt} {pos : Pos} {tc : WT} {t u : WS} (hc : PT3 X c tc) (ha : PSs3 X a t) (hb : PSs3 X b u) : PS3 X (.If c a b pos) (wIfS tc t u) := impS (ps_if hc ha hb) fun B σ H ⟨H₀, S, w, ρ, G, E, hl, st, ht, ok⟩ => by
  refine ⟨S, vAll ρ, _, st.fcH, st.all, ht, fun d H1 s1 q1 => ?_⟩
  cases d with
  | true => rw [if_pos rfl] at q1 ⊢; exact ⟨H₀, S, w, ρ, G, E, hl, st.same s1, q1, ok⟩
  | false => rw [if_neg Bool.false_ne_true] at q1 ⊢; exact ⟨H₀, S, w, ρ, G, E, hl, st.same s1, q1, ok⟩
/-! ### x = e -/
/-- e reads no own list: its value may be anything -/
def wSet (i : Nat) (t : WE) : WS := fun E ρ => t (vRd ρ) fun d => E.nx (ρ.set i (.ro d))
/-- e may read own lists: its value bears no list -/
def wSetI (i : Nat) (t : WE) : WS := fun E ρ => t (vAll ρ) fun d => d.imm = true ∧ E.nx (ρ.set i (.ro d))
/-- a new list, one's own from here on -/
def wOwn (i : Nat) (t : WE) : WS := fun E ρ => t (vRd ρ) fun d => E.nx (ρ.set i (.ow d))
def wOwnI (i : Nat) (t : WE) : WS := fun E ρ => t (vAll ρ) fun d => (match d with | .lst ds => imms ds = true | _ => False) ∧ E.nx (ρ.set i (.ow d))
section
variable {i : Nat} {x : Str} {e : Expr} {t : WE} {pos pos' : Pos}
theorem ix_lt {N : List Str} {i : Nat} {x : Str} (h : N[i]? = some x) : i < N.length := (List.getElem?_eq_some_iff.mp h).1
theorem set3 (hN : X.N.Nodup) (he : PE3 X e t) (hi : X.N[i]? = some x := by rfl) (hx : Loc X.env.scope x := by first | exact .inl rfl | exact .inr rfl) (hs : swapsWith e (some (.Name x pos')) pos.line X.env = pure false := by rfl) (hf : X.fn x = true ∨ X.env.scope.names.lookup x = some .local := by first | exact .inl rfl | exact .inr rfl) :
    PS3 X (.Assign [.Name x pos'] e pos) (wSet i t) := impS (ps_set hN hi hx he hs hf) fun B σ H ⟨H₀, S, w, ρ, G, E, hl, st, ht, ok⟩ =>
  ⟨_, vRd ρ, _, st.fcO, st.rd, ht, fun v H' d s' d' q' => ok.nx w _ H' _ (by rw [List.length_set]; exact hl) ((st.same s').set_ro (by rw [hl]; exact ix_lt hi) d') q'⟩
theorem setI3 (hN : X.N.Nodup) (he : PE3 X e t) (hi : X.N[i]? = some x := by rfl) (hx : Loc X.env.scope x := by first | exact .inl rfl | exact .inr rfl) (hs : swapsWith e (some (.Name x pos')) pos.line X.env = pure false := by rfl) (hf : X.fn x = true ∨ X.env.scope.names.lookup x = some .local := by first | exact .inl rfl | exact .inr rfl) :
    PS3 X (.Assign [.Name x pos'] e pos) (wSetI i t) := impS (ps_set hN hi hx he hs hf) fun B σ H ⟨H₀, S, w, ρ, G, E, hl, st, ht, ok⟩ =>
  ⟨_, vAll ρ, _, st.fcH, st.all, ht, fun v H' d s' d' q' => ok.nx w _ H' _ (by rw [List.length_set]; exact hl) ((st.same s').set_ro (by rw [hl]; exact ix_lt hi) (Dn.imm q'.1 d')) q'.2⟩
theorem own3 (hN : X.N.Nodup) (he : PF3 X e t) (hi : X.N[i]? = some x := by rfl) (hx : Loc X.env.scope x := by first | exact .inl rfl | exact .inr rfl) (hs : swapsWith e (some (.Name x pos')) pos.line X.env = pure false := by rfl) (hf : X.fn x = true ∨ X.env.scope.names.lookup x = some .local := by first | exact .inl rfl | exact .inr rfl) :
    PS3 X (.Assign [.Name x pos'] e pos) (wOwn i t) := impS (ps_set hN hi hx he hs hf) fun B σ H ⟨H₀, S, w, ρ, G, E, hl, st, ht, ok⟩ =>
  ⟨_, vRd ρ, _, st.fcO, st.rd, ht, fun p xs H' ds hp hp' s' d' q' => ok.nx _ _ H' _ (by rw [List.length_set]; exact hl) (st.set_ow (d := .lst ds) (by rw [hl]; exact ix_lt hi) s' hp ⟨xs, hp', d'⟩) q'⟩
theorem ownI3 (hN : X.N.Nodup) (he : PF3 X e t) (hi : X.N[i]? = some x := by rfl) (hx : Loc X.env.scope x := by first | exact .inl rfl | exact .inr rfl) (hs : swapsWith e (some (.Name x pos')) pos.line X.env = pure false := by rfl) (hf : X.fn x = true ∨ X.env.scope.names.lookup x = some .local := by first | exact .inl rfl | exact .inr rfl) :
    PS3 X (.Assign [.Name x pos'] e pos) (wOwnI i t) := impS (ps_set hN hi hx he hs hf) fun B σ H ⟨H₀, S, w, ρ, G, E, hl, st, ht, ok⟩ =>
  ⟨_, vAll ρ, _, st.fcH, st.all, ht, fun p xs H' ds hp hp' s' d' q' => ok.nx _ _ H' _ (by rw [List.length_set]; exact hl) (st.set_ow (d := .lst ds) (by rw [hl]; exact ix_lt hi) s' hp ⟨xs, hp', Dns.imm q'.1 d'⟩) q'.2⟩
end
/-! ### a def by its body -/
def start3 (N : List Str) (ds : List D) : SEnv := ds.map Sv.ro ++ List.replicate (N.length - ds.length) Sv.no
theorem start_st {K : PySem.W.Frag} {H : Hp} {S : Addr → Prop} {N : List Str} {ds : List D} {vs : List V} (fc : ∀ a, H a = none → S a) (h : Dns K S H ds vs) : ST K H S (fun _ => 0) (L2.start N vs) H (start3 N ds) [] := by
  have no : ∀ (i : Nat) (d : D), (start3 N ds)[i]? ≠ some (Sv.ow d) := fun i d e => by
    unfold start3 at e
    by_cases hi : i < ds.length
    · rw [List.getElem?_append_left (by simpa using hi), List.getElem?_map] at e
      cases q : ds[i]? with
      | none => rw [q] at e; cases e
      | some a => rw [q] at e; cases e
    · rw [List.getElem?_append_right (by simpa using hi), List.getElem?_replicate] at e
      split at e <;> cases e
  have so : ∀ a, S a → SO S (fun _ => 0) (start3 N ds) a := fun a s => ⟨s, fun i d e => absurd e (no i d)⟩
  refine ⟨fc, Same.refl H, fun i d e => absurd e (no i d), fun i j d e h1 => absurd h1 (no i d), fun i d e => ?_, fun g hg => nomatch hg⟩
  unfold start3 at e
  by_cases hi : i < ds.length
  · rw [List.getElem?_append_left (by simpa using hi), List.getElem?_map] at e
    cases q : ds[i]? with
    | none => rw [q] at e; cases e
    | some a =>
      rw [q] at e
      cases e
      obtain ⟨v, e1, dv⟩ := h.get q
      refine ⟨v, ?_, Dn.fits (.mono so) _ _ dv⟩
      unfold L2.start
      have hv : i < vs.length := (List.getElem?_eq_some_iff.mp e1).1
      rw [List.getElem?_append_left (by simpa using hv), List.getElem?_map, e1]
      rfl
  · rw [List.getElem?_append_right (by simpa using hi), List.getElem?_replicate] at e
    split at e <;> cases e
theorem fun3 {P : Program} {w : World} {K : PySem.W.Frag} {mg : Str → Option Value} {base : Heap} {x qual : Str} {st : Stmt} {f : Addr} {fd : FuncData} {N ps : List Str} {k : Nat} {R : Spec} (F : Fun K x qual st f fd) (S : FnScope N ps (defScope st)) (len : ∀ ds Q, R ds Q → ds.length = ps.length)
    (hbody : ∀ (cdv : Value) (A : Around) (outer : List Env) (s : Shared) (H : Hp) (E : XK), Room k (A.deeper (envOfC qual (defScope st) s.heap.objs.size f cdv)) →
      ∃ t : WS, PSs3 (cxOf CX0 P w K mg base N qual (defScope st) f cdv A outer s H E).nox (defBody st) t ∧ ∀ ds Q, R ds Q → t { nx := fun _ => Q .non, rt := Q } (start3 N ds)) : FnOk P w K mg base CX0 (k + 1) f fd ps (sp3 K R) := by
  refine F.ok S (fun vs H Q E h => ?_) fun cdv A outer s H vs Q E hr h => ?_
  · obtain ⟨S', ds, Q3, fc, dn, r, _⟩ := h
    rw [← dn.len]
    exact len ds Q3 r
  · obtain ⟨t, ht, hq⟩ := hbody cdv A outer s H E hr
    obtain ⟨S', ds, Q3, fc, dn, r, kk⟩ := h
    refine ⟨_, ht, H, S', fun _ => 0, start3 N ds, [], { nx := fun _ => Q3 .non, rt := Q3 }, ?_, start_st fc dn, hq ds Q3 r, ⟨fun w' σ' H' ρ' _ st' q => ?_, fun v H' d s' d' q => kk v H' d s' d' q, fun _ _ _ _ _ _ q => q, fun _ _ _ _ _ _ q => q⟩⟩
    · have hl := len ds Q3 r
      have hl2 := dn.len
      have hp : ps.length ≤ N.length := by have := congrArg List.length S.pre; rw [List.length_take] at this; omega
      unfold L2.start
      show _ = N.length
      rw [List.length_append, List.length_map, List.length_replicate]
      omega
    · exact kk .non H' .non st'.sm (by simp only [Dn]) q
end
end L3

end
section
set_option Elab.async false
set_option linter.all false
set_option maxRecDepth 100000
set_option maxHeartbeats 4100000
namespace L3
open PySem PySem.Spec PyProof.Rows L2
/-! ### expressions that may change an own list -/
abbrev WX := SEnv → (SEnv → D → Prop) → Prop
def liftX (K : PySem.W.Frag) (n : Nat) (t : WX) : TE := fun σ H Q => ∃ (H₀ : Hp) (S : Addr → Prop) (w : Nat → Addr) (ρ : SEnv) (G : List (D × V)) (Q3 : SEnv → D → Prop), σ.length = n ∧ ST K H₀ S w σ H ρ G ∧ t ρ Q3 ∧
  ∀ w' v H' ρ' d, ST K H₀ S w' σ H' ρ' G → Dn K (SO S w' ρ') H' d v → Q3 ρ' d → Q v H'
def PX3 (X : Cx) (e : Expr) (t : WX) : Prop := PE X e (liftX X.K X.N.length t)
/-- a value that bears no list; one that reads no own list -/
def wPure (t : WE) : WX := fun ρ Q => t (vAll ρ) fun d => d.imm = true ∧ Q ρ d
def wPureR (t : WE) : WX := fun ρ Q => t (vRd ρ) fun d => Q ρ d
section
variable {X : Cx}
theorem px3 {e : Expr} {t : WE} (h : PE3 X e t) : PX3 X e (wPure t) := imp h fun σ H Q ⟨H₀, S, w, ρ, G, Q3, hl, st, ht, k⟩ =>
  ⟨S, vAll ρ, _, st.fcH, st.all, ht, fun v H' d s' d' q' => k w v H' ρ d (st.same s') (Dn.imm q'.1 d') q'.2⟩
theorem pxr3 {e : Expr} {t : WE} (h : PE3 X e t) : PX3 X e (wPureR t) := imp h fun σ H Q ⟨H₀, S, w, ρ, G, Q3, hl, st, ht, k⟩ =>
  ⟨_, vRd ρ, _, st.fcO, st.rd, ht, fun v H' d s' d' q' => k w v H' ρ d (st.same s') d' q'⟩
/-- x = e -/
def wSetX (i : Nat) (t : WX) : WS := fun E ρ => t ρ fun ρ' d => E.nx (ρ'.set i (.ro d))
theorem setX3 {i : Nat} {x : Str} {e : Expr} {t : WX} {pos pos' : Pos} (hN : X.N.Nodup) (he : PX3 X e t) (hi : X.N[i]? = some x := by rfl) (hx : Loc X.env.scope x := by first | exact .inl rfl | exact .inr rfl) (hs : swapsWith e (some (.Name x pos')) pos.line X.env = pure false := by rfl) (hf : X.fn x = true ∨ X.env.scope.names.lookup x = some .local := by first | exact .inl rfl | exact .inr rfl) :
    PS3 X (.Assign [.Name x pos'] e pos) (wSetX i t) := impS (ps_set hN hi hx he hs hf) fun B σ H ⟨H₀, S, w, ρ, G, E, hl, st, ht, ok⟩ =>
  ⟨H₀, S, w, ρ, G, _, hl, st, ht, fun w' v H' ρ' d st' d' q' => ok.nx w' _ H' _ (by rw [List.length_set]; exact hl) (st'.set_ro (by rw [hl]; exact ix_lt hi) d') q'⟩
/-- e; its value is dropped -/
def wDrop (t : WX) : WS := fun E ρ => t ρ fun ρ' _ => E.nx ρ'
theorem expr3 {e : Expr} {t : WX} {pos : Pos} (he : PX3 X e t) (hs : swapsWith e none pos.line X.env = pure false := by rfl) : PS3 X (.Expr e pos) (wDrop t) := impS (ps_expr he hs) fun B σ H ⟨H₀, S, w, ρ, G, E, hl, st, ht, ok⟩ =>
  ⟨H₀, S, w, ρ, G, _, hl, st, ht, fun w' v H' ρ' d st' d' q' => ok.nx w' _ H' _ hl st' q'⟩
/-- a method of the own list in slot i with one argument: what it makes of the list and hands back -/
def wM1 (i : Nat) (f : List D → D → (List D → D → Prop) → Prop) (t : WX) : WX := fun ρ Q => (match ρ[i]? with | some (.ow (.lst _)) => True | _ => False) ∧ t ρ fun ρ' d => match ρ'[i]? with
  | some (.ow (.lst ds)) => f ds d fun ds' r => Q (ρ'.set i (.ow (.lst ds'))) r
  | _ => False
def M3 (K : PySem.W.Frag) (r : V → List V → Hp → VK → Prop) (f : List D → D → (List D → D → Prop) → Prop) : Prop := ∀ (S : Addr → Prop) (H : Hp) (p : Addr) (xs : List V) (ds : List D) (y : V) (d : D) (Q3 : List D → D → Prop) (Q : VK),
  H p = some (.lst xs) → Dns K S H ds xs → Dn K S H d y → f ds d Q3 → (∀ ys ds' v d', Dns K S H ds' ys → Dn K S H d' v → Q3 ds' d' → Q v (upd H p (.lst ys))) → r (.ref p) [y] H Q
theorem lift_m1 {K : PySem.W.Frag} {n i : Nat} {r : V → List V → Hp → VK → Prop} {f : List D → D → (List D → D → Prop) → Prop} {t : WX} {σ : L2.St} {H : Hp} {Q : VK} (h3 : M3 K r f) (h : liftX K n (wM1 i f t) σ H Q) :
    tBM K "list" r (tVar i) (tCons (liftX K n t) tNil) σ H Q := by
  obtain ⟨H₀, S, w, ρ, G, Q3, hl, st, ⟨h0, ht⟩, k⟩ := h
  split at h0
  · rename_i ds e
    obtain ⟨a, b, c⟩ := st.own i _ e
    obtain ⟨xs, hp, dn⟩ := c
    refine ⟨_, a, .inl ⟨rfl, xs, SqL.of hp⟩, H₀, S, w, ρ, G, _, hl, st, ht, fun w' v H' ρ' d st' d' q' => ?_⟩
    split at q'
    · rename_i ds' e'
      obtain ⟨a', b', c'⟩ := st'.own i _ e'
      obtain ⟨xs', hp', dn'⟩ := c'
      have ew : w i = w' i := by
        have z := a.symm.trans a'
        have z1 := Option.some.inj (Option.some.inj z)
        injection z1
      rw [ew]
      refine h3 _ H' (w' i) xs' ds' v d _ Q hp' dn' d' q' fun ys ds2 v2 d2 dn2 dv2 q2 => ?_
      have nS : ¬ SO S w' ρ' (w' i) := fun ⟨_, z⟩ => z i _ e' rfl
      have F : Fits K (SO S w' ρ') (SO S w' ρ') H' (upd H' (w' i) (.lst ys)) := .upd (.inl ⟨_, hp'⟩) nS
      have so : ∀ a, SO S w' ρ' a → SO S w' (ρ'.set i (.ow (.lst ds2))) a := SO.mono fun j f hf => by
        rcases get_set hf with ⟨hj, _, _⟩ | ⟨_, z⟩
        · subst hj; exact ⟨_, e'⟩
        · exact ⟨_, z⟩
      exact k w' v2 _ _ d2 (st'.write (d' := .lst ds2) e' ⟨ys, upd_same, Dns.fits F _ _ dn2⟩) (Dn.fits (F.trans (.mono so)) _ _ dv2) q2
    · exact q'.elim
  · exact h0.elim
theorem m1 {i : Nat} {x : Str} {id : String} {name : Str} {e : Expr} {p apos cpos : Pos} {r : V → List V → Hp → VK → Prop} {f : List D → D → (List D → D → Prop) → Prop} {t : WX} (slot : Slot "list" name id) (hty : typeOf (.builtin id) = pure (.type "method_descriptor")) (hm : MtR X id r) (h3 : M3 X.K r f) (he : PX3 X e t)
    (hN : X.N[i]? = some x := by rfl) (hv : Vis X.env.scope x := by first | exact Or.inl rfl | exact Or.inr (Or.inl rfl) | exact Or.inr (Or.inr rfl)) (hd : (x == ("__debug__" : Str)) = false := by decide) (hcd : (x == ("__classdict__" : Str)) = false := by decide)
    (hbase : attributeBase (.Name x p) name X.env (eval (.Name x p) X.env) = eval (.Name x p) X.env := by rfl)
    (hfew : ((backTo cpos (starEach [e] X.env)).all (fun x => !x.1) && (backToKw cpos (keywordEach [] X.env)).all (fun x => x.1.isSome)
      && decide ([e].length + ([] : List Keyword).length + (if ([] : List Keyword).isEmpty then 0 else 1) < 30)) = true := by rfl)
    (hline : (apos.endLine == cpos.line) = true := by rfl) (hs : starEach [e] X.env = (false, eval e X.env) :: starEach [] X.env := by rfl) :
    PX3 X (.Call (.Attribute (.Name x p) name apos) [e] [] cpos) (wM1 i f t) :=
  imp (pe_bm PySem.F.plainAttrs_list slot hty hm (pe_var hN hv hd hcd) (pa_cons he pa_nil hs) hbase hfew hline hs (by rfl)) fun _ _ _ h => lift_m1 h3 h
/-- x.append(e) -/
def appF : List D → D → (List D → D → Prop) → Prop := fun ds d Q => ds.length < sizeLine ∧ Q (ds ++ [d]) .non
theorem m3_app {K : PySem.W.Frag} : M3 K rAppend appF := by
  intro S H p xs ds y d Q3 Q hp dn dy hf k
  exact ⟨p, xs, y, rfl, rfl, hp, by rw [← dn.len]; exact hf.1, k _ _ _ _ (dn.append (Dns.one dy)) (by simp only [Dn]) hf.2⟩
/-- x.pop(e) -/
def popF : List D → D → (List D → D → Prop) → Prop
  | ds, .int k, Q => (-(2 ^ 63) ≤ k ∧ k < 2 ^ 63) ∧ (match ixN ds.length k with | some j => (match ds[j]? with | some d => Q (ds.eraseIdx j) d | none => False) | none => False)
  | _, _, _ => False
theorem m3_pop {K : PySem.W.Frag} : M3 K rPopAt popF := by
  intro S H p xs ds y d Q3 Q hp dn dy hf k
  cases d with
  | int i =>
    simp only [Dn] at dy
    subst dy
    obtain ⟨⟨h1, h2⟩, hf⟩ := hf
    split at hf
    · rename_i j ej
      split at hf
      · rename_i dd ed
        obtain ⟨v, ev, dv⟩ := dn.get ed
        obtain ⟨g1, _⟩ := ixN_seq ej
        exact ⟨p, xs, i, j, v, rfl, rfl, hp, h1, h2, by rw [← dn.len]; exact g1, ev, k _ _ _ _ (dn.erase j) dv hf⟩
      · exact hf.elim
    · exact hf.elim
  | _ => exact hf.elim
section
variable {i : Nat} {x : Str} {e : Expr} {p apos cpos : Pos} {t : WX}
theorem app3 (he : PX3 X e t) (hN : X.N[i]? = some x := by rfl) (hv : Vis X.env.scope x := by first | exact Or.inl rfl | exact Or.inr (Or.inl rfl) | exact Or.inr (Or.inr rfl)) (hd : (x == ("__debug__" : Str)) = false := by decide) (hcd : (x == ("__classdict__" : Str)) = false := by decide)
    (hbase : attributeBase (.Name x p) "append" X.env (eval (.Name x p) X.env) = eval (.Name x p) X.env := by rfl)
    (hfew : ((backTo cpos (starEach [e] X.env)).all (fun x => !x.1) && (backToKw cpos (keywordEach [] X.env)).all (fun x => x.1.isSome)
      && decide ([e].length + ([] : List Keyword).length + (if ([] : List Keyword).isEmpty then 0 else 1) < 30)) = true := by rfl)
    (hline : (apos.endLine == cpos.line) = true := by rfl) (hs : starEach [e] X.env = (false, eval e X.env) :: starEach [] X.env := by rfl) :
    PX3 X (.Call (.Attribute (.Name x p) "append" apos) [e] [] cpos) (wM1 i appF t) := m1 PySem.F.slot_list_append PySem.F.type_list_append mt_append m3_app he hN hv hd hcd hbase hfew hline hs
theorem pop3 (he : PX3 X e t) (hN : X.N[i]? = some x := by rfl) (hv : Vis X.env.scope x := by first | exact Or.inl rfl | exact Or.inr (Or.inl rfl) | exact Or.inr (Or.inr rfl)) (hd : (x == ("__debug__" : Str)) = false := by decide) (hcd : (x == ("__classdict__" : Str)) = false := by decide)
    (hbase : attributeBase (.Name x p) "pop" X.env (eval (.Name x p) X.env) = eval (.Name x p) X.env := by rfl)
    (hfew : ((backTo cpos (starEach [e] X.env)).all (fun x => !x.1) && (backToKw cpos (keywordEach [] X.env)).all (fun x => x.1.isSome)
      && decide ([e].length + ([] : List Keyword).length + (if ([] : List Keyword).isEmpty then 0 else 1) < 30)) = true := by rfl)
    (hline : (apos.endLine == cpos.line) = true := by rfl) (hs : starEach [e] X.env = (false, eval e X.env) :: starEach [] X.env := by rfl) :
    PX3 X (.Call (.Attribute (.Name x p) "pop" apos) [e] [] cpos) (wM1 i popF t) := m1 PySem.F.slot_list_pop PySem.F.type_list_pop mt_popAt m3_pop he hN hv hd hcd hbase hfew hline hs
end
/-! ### x[k] = e -/
def isOw (ρ : SEnv) (i : Nat) : Prop := match ρ[i]? with
  | some (.ow (.lst _)) => True
  | _ => False
def wPut (i : Nat) (t : WX) (tk : WE) : WS := fun E ρ => t ρ fun ρ' d => isOw ρ' i ∧ tk (vAll ρ') fun k => match ρ'[i]?, k with
  | some (.ow (.lst ds)), .int k => (match ixN ds.length k with | some j => E.nx (ρ'.set i (.ow (.lst (ds.set j d)))) | none => False)
  | _, _ => False
theorem put3 {i : Nat} {x : Str} {e k : Expr} {t : WX} {tk : WE} {pos pos' p : Pos} (he : PX3 X e t) (hk : PE3 X k tk)
    (hN : X.N[i]? = some x := by rfl) (hv : Vis X.env.scope x := by first | exact Or.inl rfl | exact Or.inr (Or.inl rfl) | exact Or.inr (Or.inr rfl)) (hd : (x == ("__debug__" : Str)) = false := by decide) (hcd : (x == ("__classdict__" : Str)) = false := by decide)
    (ha : ∀ v, assign (.Subscript (.Name x p) k pos') X.env v = (do
      let ov ← holding [v] (eval (.Name x p) X.env)
      let iv ← holding [v, ov] (eval k X.env)
      standAt pos'
      holding [v, ov, iv] (setItem ov iv v)
      release [v, ov, iv] []) := by intro _; rfl)
    (hs : swapsWithSole [.Subscript (.Name x p) k pos'] e pos.line X.env = pure false := by rfl) (hw : swappedStores [.Subscript (.Name x p) k pos'] e X.env = pure none := by rfl)
    (h1 : (assignEach [.Subscript (.Name x p) k pos'] X.env).map (·.2) = [assign (.Subscript (.Name x p) k pos') X.env] := by rfl) :
    PS3 X (.Assign [.Subscript (.Name x p) k pos'] e pos) (wPut i t tk) := impS (ps_asg he (pg_sub (pe_var hN hv hd hcd) hk set_list ha) hs hw h1) fun B σ H ⟨H₀, S, w, ρ, G, E, hl, st, ht, ok⟩ => by
  refine ⟨H₀, S, w, ρ, G, _, hl, st, ht, fun w' v H' ρ' d st' d' q' => ?_⟩
  obtain ⟨q0, q'⟩ := q'
  unfold isOw at q0
  split at q0
  · rename_i ds0 e0
    obtain ⟨a0, _, _⟩ := st'.own i _ e0
    refine ⟨_, a0, S, vAll ρ', _, st'.fcH, st'.all, q', fun kv H2 dk s2 dk2 q2 => ?_⟩
    split at q2
    · rename_i ds k' e1
      simp only [Dn] at dk2
      split at q2
      · rename_i j ej
        have st2 := st'.same s2
        obtain ⟨a, b, c⟩ := st2.own i _ e1
        obtain ⟨xs, hp, dn⟩ := c
        have nS : ¬ SO S w' ρ' (w' i) := fun ⟨_, z⟩ => z i _ e1 rfl
        have F : Fits X.K (SO S w' ρ') (SO S w' ρ') H2 (upd H2 (w' i) (.lst (xs.set j v))) := .upd (.inl ⟨_, hp⟩) nS
        exact ⟨w' i, xs, k', j, rfl, dk2, hp, by rw [← dn.len]; exact ej, ok.nx w' σ _ _ hl (st2.write (d' := .lst (ds.set j d)) e1 ⟨_, upd_same, Dns.fits F _ _ (dn.set j (Dn.fits (.same s2) _ _ d'))⟩) q2⟩
      · exact q2.elim
    · exact q2.elim
  · exact q0.elim
end
end L3

end
section
set_option Elab.async false
set_option linter.all false
set_option maxRecDepth 100000
set_option maxHeartbeats 4100000
namespace L3
open PySem PySem.Spec PyProof.Rows L2
/-! ### what is walked: a list of deep values -/
/-- J walks ds as long as the ghosts stand -/
structure Wlk (K : PySem.W.Frag) (J : It) (ds : List D) (G : List (D × V)) : Prop where
  go : ∀ (S : Addr → Prop) (H : Hp), (∀ a, H a = none → S a) → (∀ g ∈ G, Dn K S H g.1 g.2) → ∀ (i : Nat) (d : D), ds[i]? = some d → J.go i H ∧ ∀ x H', J.yld i H x H' → Same H H' ∧ Dn K S H' d x
  stop : ∀ (S : Addr → Prop) (H : Hp), (∀ g ∈ G, Dn K S H g.1 g.2) → ∀ i : Nat, ds.length = i → J.stop i H
abbrev WI := DEnv → (List D → Prop) → Prop
def liftI (K : PySem.W.Frag) (t : WI) : TI := fun σ H R => ∃ (S : Addr → Prop) (ρ : DEnv) (Q3 : List D → Prop), (∀ a, H a = none → S a) ∧ Sl K S H ρ σ ∧ t ρ Q3 ∧
  ∀ J H' ds G, Same H H' → (∀ g ∈ G, Dn K S H' g.1 g.2) → Wlk K J ds G → Q3 ds → R J H'
def PI3 (X : Cx) (tg iter : Expr) (t : WI) : Prop := PI X tg iter (liftI X.K t)
section
variable {X : Cx} {tg : Expr}
theorem impI {e : Expr} {t t' : TI} (h : PI X tg e t) (f : ∀ σ H R, t' σ H R → t σ H R) : PI X tg e t' := fun pins s σ H R I q => h pins s σ H R I (f σ H R q)
/-- over a list, over a tuple -/
def wWalk (t : WE) : WI := fun ρ Q => t ρ fun d => match d with
  | .lst ds => Q ds
  | .tup ds => Q ds
  | _ => False
theorem wlk_list {K : PySem.W.Frag} {a : Addr} {ds : List D} : Wlk K (Itl K a) ds [(.lst ds, .ref a)] where
  go := fun S H fc hg i d e => by
    have h := hg _ (List.mem_singleton.mpr rfl)
    simp only [Dn] at h
    obtain ⟨b, xs, eb, hb, sb, dn⟩ := h
    injection eb with eb
    subst eb
    obtain ⟨v, ev, dv⟩ := dn.get e
    refine ⟨⟨xs, v, SqL.of hb, ev⟩, fun x H' y => ?_⟩
    obtain ⟨e1, y⟩ := y
    subst e1
    have ex := y xs (SqL.of hb)
    rw [ev] at ex
    cases ex
    exact ⟨Same.refl _, dv⟩
  stop := fun S H hg i hi => by
    have h := hg _ (List.mem_singleton.mpr rfl)
    simp only [Dn] at h
    obtain ⟨b, xs, eb, hb, sb, dn⟩ := h
    injection eb with eb
    subst eb
    exact ⟨xs, SqL.of hb, by rw [← dn.len]; exact Nat.le_of_eq hi⟩
theorem wlk_tup {K : PySem.W.Frag} {a : Addr} {ds : List D} : Wlk K (Itt K a) ds [(.tup ds, .ref a)] where
  go := fun S H fc hg i d e => by
    have h := hg _ (List.mem_singleton.mpr rfl)
    simp only [Dn] at h
    obtain ⟨b, xs, eb, hb, dn⟩ := h
    injection eb with eb
    subst eb
    obtain ⟨v, ev, dv⟩ := dn.get e
    refine ⟨⟨xs, v, hb, ev⟩, fun x H' y => ?_⟩
    obtain ⟨e1, y⟩ := y
    subst e1
    have ex := y xs hb
    rw [ev] at ex
    cases ex
    exact ⟨Same.refl _, dv⟩
  stop := fun S H hg i hi => by
    have h := hg _ (List.mem_singleton.mpr rfl)
    simp only [Dn] at h
    obtain ⟨b, xs, eb, hb, dn⟩ := h
    injection eb with eb
    subst eb
    exact ⟨xs, hb, by rw [← dn.len]; exact Nat.le_of_eq hi⟩
/-- either of two -/
theorem pi_seq {l : Expr} {tl : TE} (hl : PE X l tl) : PI X tg l (fun σ H R => tl σ H fun x H1 => ∃ a, x = .ref a ∧ (((∃ xs, SqL X.K H1 a xs) ∧ R (Itl X.K a) H1) ∨ ((∃ xs, SqT X.K H1 a xs) ∧ R (Itt X.K a) H1))) := by
  intro pins s σ H R I h
  refine thn (hl pins s σ H _ I h) fun v s1 ⟨x, H1, I1, r1, q1⟩ => ?_
  obtain ⟨a, e, q⟩ := q1
  subst e
  cases r1
  rcases q with ⟨⟨xs, hq⟩, q⟩ | ⟨⟨xs, hq⟩, q⟩
  · obtain ⟨its, rv, p, hz⟩ := I1.list hq
    refine wpAny_pyIter_list p.isList ?_
    refine ⟨s1.heap.objs.size, [s1.heap.objs.size], _, _, H1, rfl, I1.kept (t' := s1.toks) fun b o e => Heap.get?_push_of_some _ e, turn_list a _, ⟨_, Heap.get?_push_size _ rfl, rfl, rfl⟩, fun b hb => ?_, q⟩
    have e : b = s1.heap.objs.size := by simpa using hb
    subst e
    exact I1.fpOk (Nat.le_refl _) (I1.hok.fresh (Nat.le_refl _))
  · obtain ⟨its, rv, p, hz⟩ := I1.tuple hq
    refine wpAny_pyIter_tuple (show s1.heap.IsTuple a its.toArray from p) ?_
    refine ⟨s1.heap.objs.size, [s1.heap.objs.size], _, _, H1, rfl, I1.kept (t' := s1.toks) fun b o e => Heap.get?_push_of_some _ e, turn_tuple a _, ⟨_, Heap.get?_push_size _ rfl, rfl, rfl⟩, fun b hb => ?_, q⟩
    have e : b = s1.heap.objs.size := by simpa using hb
    subst e
    exact I1.fpOk (Nat.le_refl _) (I1.hok.fresh (Nat.le_refl _))
theorem walk3 {l : Expr} {t : WE} (h : PE3 X l t) : PI3 X tg l (wWalk t) := impI (pi_seq h) fun σ H R ⟨S, ρ, Q3, fc, sl, ht, k⟩ => by
  refine ⟨S, ρ, _, fc, sl, ht, fun v H1 d s1 d1 q1 => ?_⟩
  cases d with
  | lst ds =>
    have d1' := d1
    simp only [Dn] at d1
    obtain ⟨a, xs, rfl, ha, sa, da⟩ := d1
    exact ⟨a, rfl, .inl ⟨⟨xs, SqL.of ha⟩, k _ H1 ds [(.lst ds, .ref a)] s1 (fun g hg => by cases List.mem_singleton.mp hg; exact d1') wlk_list q1⟩⟩
  | tup ds =>
    have d1' := d1
    simp only [Dn] at d1
    obtain ⟨a, xs, rfl, ha, da⟩ := d1
    exact ⟨a, rfl, .inr ⟨⟨xs, ha⟩, k _ H1 ds [(.tup ds, .ref a)] s1 (fun g hg => by cases List.mem_singleton.mp hg; exact d1') wlk_tup q1⟩⟩
  | _ => exact q1.elim
/-- range(n), range(a, b) -/
def rngI (lo : Int) (n : Nat) : List Int := (List.range n).map fun k : Nat => lo + (k : Int)
theorem rngI_length (lo : Int) (n : Nat) : (rngI lo n).length = n := by simp [rngI]
theorem rngI_get {lo : Int} {n i : Nat} : (rngI lo n)[i]? = if i < n then some (lo + (i : Int)) else none := by
  unfold rngI
  rw [List.getElem?_map]
  by_cases h : i < n
  · rw [if_pos h, List.getElem?_range h]; rfl
  · rw [if_neg h, List.getElem?_eq_none (by simpa using h)]; rfl
theorem wlk_range {K : PySem.W.Frag} {lo : Int} {n : Nat} : Wlk K (Itr lo n) ((rngI lo n).map D.int) [] where
  go := fun S H fc hg i d e => by
    rw [List.getElem?_map, rngI_get] at e
    by_cases h : i < n
    · rw [if_pos h] at e
      cases e
      refine ⟨h, fun x H' y => ?_⟩
      obtain ⟨e1, e2⟩ := y
      subst e1
      exact ⟨Same.refl _, by simp only [Dn]; exact e2⟩
    · rw [if_neg h] at e; cases e
  stop := fun S H hg i hi => by rw [List.length_map, rngI_length] at hi; exact Nat.le_of_eq hi
def wRange (t : WA) : WI := fun ρ Q => t ρ fun ds => match ds with
  | [.int j] => (-(2 ^ 62) ≤ j ∧ j < 2 ^ 62) ∧ Q ((rngI 0 j.toNat).map D.int)
  | _ => False
def wRange2 (t : WA) : WI := fun ρ Q => t ρ fun ds => match ds with
  | [.int i, .int j] => (-(2 ^ 62) ≤ i ∧ i < 2 ^ 62 ∧ -(2 ^ 62) ≤ j ∧ j < 2 ^ 62) ∧ Q ((rngI i (j - i).toNat).map D.int)
  | _ => False
theorem range3 {a : Expr} {t : WA} {p pos : Pos} (hm : X.mg "range" = none) (ha : PA3 X [a] t) (hg : Gl X "range" := by rfl) (hs : starEach [a] X.env = [(false, eval a X.env)] := by rfl) : PI3 X tg (.Call (.Name "range" p) [a] [] pos) (wRange t) :=
  impI (pi_range1 hg hm ha hs) fun σ H R ⟨S, ρ, Q3, fc, sl, ht, k⟩ => by
    refine ⟨S, ρ, _, fc, sl, ht, fun vs H1 ds s1 d1 q1 => ?_⟩
    split at q1
    · rename_i j
      obtain ⟨v, r, rfl, h1, h2⟩ := d1.uncons
      simp only [Dns] at h2
      subst h2
      simp only [Dn] at h1
      subst h1
      exact ⟨j, rfl, q1.1.1, q1.1.2, k _ H1 _ [] s1 (fun g hg => nomatch hg) wlk_range q1.2⟩
    · exact q1.elim
theorem range23 {a b : Expr} {t : WA} {p pos : Pos} (hm : X.mg "range" = none) (ha : PA3 X [a, b] t) (hg : Gl X "range" := by rfl) (hs : starEach [a, b] X.env = [(false, eval a X.env), (false, eval b X.env)] := by rfl) (hs2 : starEach [b] X.env = [(false, eval b X.env)] := by rfl) : PI3 X tg (.Call (.Name "range" p) [a, b] [] pos) (wRange2 t) :=
  impI (pi_range2 hg hm ha hs hs2) fun σ H R ⟨S, ρ, Q3, fc, sl, ht, k⟩ => by
    refine ⟨S, ρ, _, fc, sl, ht, fun vs H1 ds s1 d1 q1 => ?_⟩
    split at q1
    · rename_i i j
      obtain ⟨v, r, rfl, h1, h2⟩ := d1.uncons
      obtain ⟨v2, r2, rfl, h3, h4⟩ := h2.uncons
      simp only [Dns] at h4
      subst h4
      simp only [Dn] at h1 h3
      subst h1 h3
      exact ⟨i, j, rfl, q1.1, k _ H1 _ [] s1 (fun g hg => nomatch hg) wlk_range q1.2⟩
    · exact q1.elim
/-! ### targets -/
abbrev WG := D → SEnv → (SEnv → Prop) → Prop
/-- how a target is met: the state behind it, for a value that bears no own list -/
def liftG (K : PySem.W.Frag) (n : Nat) (g : WG) : TG := fun v σ H Q => ∃ (H₀ : Hp) (S : Addr → Prop) (w : Nat → Addr) (ρ : SEnv) (G : List (D × V)) (d : D) (Q3 : SEnv → Prop), σ.length = n ∧ ST K H₀ S w σ H ρ G ∧ Dn K (SO S w ρ) H d v ∧ g d ρ Q3 ∧
  ∀ σ' H' ρ', σ'.length = n → ST K H₀ S w σ' H' ρ' G → Q3 ρ' → Q σ' H'
def PG3 (X : Cx) (tg : Expr) (g : WG) : Prop := PG X tg (liftG X.K X.N.length g)
theorem impG {e : Expr} {t t' : TG} (h : PG X e t) (f : ∀ v σ H Q, t' v σ H Q → t v σ H Q) : PG X e t' := fun pins s σ H v u Q I r q => h pins s σ H v u Q I r (f v σ H Q q)
def gN (i : Nat) : WG := fun d ρ Q => Q (ρ.set i (.ro d))
theorem name3 {i : Nat} {x : Str} {pos : Pos} (hN : X.N.Nodup) (hi : X.N[i]? = some x := by rfl) (hx : Loc X.env.scope x := by first | exact .inl rfl | exact .inr rfl) (hf : X.fn x = true ∨ X.env.scope.names.lookup x = some .local := by first | exact .inl rfl | exact .inr rfl) : PG3 X (.Name x pos) (gN i) :=
  impG (pg_name hN hi hx hf) fun v σ H Q ⟨H₀, S, w, ρ, G, d, Q3, hl, st, dn, hg, k⟩ => k _ H _ (by rw [List.length_set]; exact hl) (st.set_ro (by rw [hl]; exact ix_lt hi) dn) hg
/-- (a, b) of a pair -/
def g2 (i j : Nat) : WG := fun d ρ Q => match d with
  | .tup [d1, d2] => Q ((ρ.set i (.ro d1)).set j (.ro d2))
  | _ => False
theorem pair3 {i j : Nat} {x y : Str} {k : Nat} {pos px py : Pos} (hc : X.calm = true) (hN : X.N.Nodup) (hi : X.N[i]? = some x := by rfl) (hj : X.N[j]? = some y := by rfl) (hx : Loc X.env.scope x := by first | exact .inl rfl | exact .inr rfl) (hy : Loc X.env.scope y := by first | exact .inl rfl | exact .inr rfl)
    (hf : X.fn x = true ∨ X.env.scope.names.lookup x = some .local := by first | exact .inl rfl | exact .inr rfl) (hf2 : X.fn y = true ∨ X.env.scope.names.lookup y = some .local := by first | exact .inl rfl | exact .inr rfl)
    (hn : (assignEach [.Name x px, .Name y py] X.env).length = 2 := by rfl) (hst : (assignEach [.Name x px, .Name y py] X.env).findIdx? (·.1) = none := by rfl)
    (hs1 : (assignEach [.Name x px, .Name y py] X.env).map (·.2) = assign (.Name x px) X.env :: (assignEach [.Name y py] X.env).map (·.2) := by rfl) (hs2 : (assignEach [.Name y py] X.env).map (·.2) = assign (.Name y py) X.env :: (assignEach [] X.env).map (·.2) := by rfl) :
    PG3 X (.Tuple [.Name x px, .Name y py] k pos) (g2 i j) :=
  impG (pg_tup (n := 2) hc (pgs_cons (pg_name hN hi hx hf) (pgs_cons (pg_name hN hj hy hf2) pgs_nil hs2) hs1) hn hst) fun v σ H Q ⟨H₀, S, w, ρ, G, d, Q3, hl, st, dn, hg, k⟩ => by
    unfold g2 at hg
    split at hg
    · rename_i d1 d2
      simp only [Dn] at dn
      obtain ⟨a, xs, rfl, ha, da⟩ := dn
      obtain ⟨v1, r1, rfl, h1, h2⟩ := da.uncons
      obtain ⟨v2, r2, rfl, h3, h4⟩ := h2.uncons
      simp only [Dns] at h4
      subst h4
      refine ⟨a, _, rfl, ha, rfl, v1, [v2], rfl, v2, [], rfl, rfl, ?_⟩
      have st1 := st.set_ro (i := i) (by rw [hl]; exact ix_lt hi) h1
      have m : ∀ a, SO S w ρ a → SO S w (ρ.set i (.ro d1)) a := SO.mono fun n f hf => by
        rcases get_set hf with ⟨_, z, _⟩ | ⟨_, z⟩
        · cases z
        · exact ⟨_, z⟩
      have st2 := st1.set_ro (i := j) (d := d2) (v := v2) (by rw [List.length_set, hl]; exact ix_lt hj) (Dn.fits (.mono m) _ _ h3)
      exact k _ H _ (by rw [List.length_set, List.length_set]; exact hl) st2 hg
    · exact hg.elim
/-! ### for -/
def wFor (ti : WI) (g : WG) (tb : WS) : WS := fun E ρ => ti (vRd ρ) fun ds => ∃ Inv : Nat → SEnv → Prop, Inv 0 ρ ∧
  (∀ (i : Nat) (d : D) (ρ' : SEnv), ds[i]? = some d → Inv i ρ' → g d ρ' fun ρ2 => tb { E with nx := Inv (i + 1), ct := Inv (i + 1), bk := E.nx } ρ2) ∧ ∀ ρ', Inv ds.length ρ' → E.nx ρ'
theorem for3 {iter : Expr} {body : List Stmt} {ti : WI} {g : WG} {tb : WS} {pos : Pos} (hc : X.calm = true) (hp : PassesOwn (model X.prog X.w) X.A X.env X.xe) (hi : PI3 X tg iter ti) (hg : PG3 X tg g) (hb : PSs3 X body tb)
    (hs : ∀ x, foldedSetIterable iter X.env x = pure x := by intro _; rfl) : PS3 X (.For tg iter body [] pos) (wFor ti g tb) := impS (ps_for hp hc hi hg hb hs) fun B σ H ⟨H₀, S, w, ρ, G, E, hl, st, ht, ok⟩ => by
  refine ⟨_, vRd ρ, _, st.fcO, st.rd, ht, fun J H1 ds G1 s1 hg1 wk q1 => ?_⟩
  obtain ⟨Iv, h0, turn, fin⟩ := q1
  have stG : ∀ {w σ H ρ}, ST X.K H₀ S w σ H ρ (G1 ++ G) → ST X.K H₀ S w σ H ρ G := fun st => st.ghost fun g hg => st.gh g (List.mem_append_right _ hg)
  refine ⟨fun i m σ H => m = ds.length - i ∧ i ≤ ds.length ∧ σ.length = X.N.length ∧ ∃ w ρ, ST X.K H₀ S w σ H ρ (G1 ++ G) ∧ Iv i ρ,
    ⟨_, rfl, Nat.zero_le _, hl, w, ρ, (st.same s1).ghost fun g hg => (List.mem_append.mp hg).elim (fun z => hg1 g z) fun z => (st.same s1).gh g z, h0⟩, ?_⟩
  rintro i m σ2 H2 ⟨rfl, hi2, hl2, w2, ρ2, st2, iv⟩
  by_cases hlt : i < ds.length
  · refine .inr ?_
    obtain ⟨g1, g2⟩ := wk.go _ H2 st2.fcO (fun g hg => st2.gh g (List.mem_append_left _ hg)) i ds[i] (by simp [hlt])
    refine ⟨g1, fun σ' H' => σ'.length = X.N.length ∧ ∃ w ρ, ST X.K H₀ S w σ' H' ρ (G1 ++ G) ∧ Iv (i + 1) ρ, fun σ' H' ⟨hl', w', ρ', st', iv'⟩ => ⟨ds.length - (i + 1), by omega, rfl, hlt, hl', w', ρ', st', iv'⟩, fun x H' y => ?_⟩
    obtain ⟨s3, dx⟩ := g2 x H' y
    refine ⟨H₀, S, w2, ρ2, G1 ++ G, ds[i], _, hl2, st2.same s3, dx, turn i ds[i] ρ2 (by simp [hlt]) iv, fun σ4 H4 ρ4 hl4 st4 q4 => ?_⟩
    exact ⟨H₀, S, w2, ρ4, G1 ++ G, _, hl4, st4, q4, ⟨fun w' σ' H' ρ' hl' st' q => ⟨hl', w', ρ', st', q⟩, fun v H' d s' d' q => ok.rt v H' d s' d' q, fun w' σ' H' ρ' hl' st' q => ok.nx w' σ' H' ρ' hl' (stG st') q, fun w' σ' H' ρ' hl' st' q => ⟨hl', w', ρ', st', q⟩⟩⟩
  · have e : i = ds.length := by omega
    subst e
    exact .inl ⟨wk.stop _ H2 (fun g hg => st2.gh g (List.mem_append_left _ hg)) _ rfl, ok.nx w2 σ2 H2 ρ2 hl2 (stG st2) (fin ρ2 iv)⟩
end
end L3

end
section
set_option Elab.async false
set_option linter.all false
set_option maxRecDepth 100000
set_option maxHeartbeats 4100000
namespace L3
open PySem PySem.Spec PyProof.Rows L2
/-! ### [elt for target in iter if test]: the block -/
theorem closure_of {scope : Scope} {env : Env} (h : ∀ x ∈ scope.names, x.2 = .free → ∃ c, env.cells.lookup x.1 = some c) :
    ∃ cl, closureFor scope env = pure cl ∧ (∀ x ∈ scope.names, x.2 = .free → cl.lookup x.1 = env.cells.lookup x.1) ∧ ∀ x c, cl.lookup x = some c → env.cells.lookup x = some c := by
  have go : ∀ (l : List (Str × NameKind)) (acc : List (Str × Addr)), (∀ x ∈ l, x.2 = .free → ∃ c, env.cells.lookup x.1 = some c) → (∀ x c, acc.lookup x = some c → env.cells.lookup x = some c) →
      ∃ cl, (forIn l acc fun (x : Str × NameKind) (cs : List (Str × Addr)) => (match x with | (name, kind) => if (kind == NameKind.free) = true then (do let c ← cellOf env name; pure (ForInStep.yield ((name, c) :: cs))) else pure (ForInStep.yield cs) : Sem (ForInStep (List (Str × Addr))))) = pure cl ∧
        (∀ x c, acc.lookup x = some c → cl.lookup x = some c) ∧ (∀ x ∈ l, x.2 = .free → cl.lookup x.1 = env.cells.lookup x.1) ∧ ∀ x c, cl.lookup x = some c → env.cells.lookup x = some c := by
    intro l
    induction l with
    | nil => intro acc _ ha; exact ⟨acc, by rw [List.forIn_nil], fun _ _ z => z, fun x hx => (nomatch hx), ha⟩
    | cons y l ih =>
      intro acc hf ha
      by_cases hk : y.2 = .free
      · obtain ⟨c, hc⟩ := hf y List.mem_cons_self hk
        have ha' : ∀ x c', ((y.1, c) :: acc).lookup x = some c' → env.cells.lookup x = some c' := fun x c' hx => by
          rw [List.lookup_cons] at hx
          split at hx
          · rename_i e
            cases hx
            rw [eq_of_beq e]; exact hc
          · exact ha x c' hx
        obtain ⟨cl, e, h1, h2, h3⟩ := ih ((y.1, c) :: acc) (fun x hx => hf x (List.mem_cons_of_mem _ hx)) ha'
        refine ⟨cl, ?_, fun x c' hx => ?_, fun x hx hfx => ?_, h3⟩
        · rw [List.forIn_cons, ← e]
          have e1 : (y.2 == NameKind.free) = true := by rw [hk]; rfl
          have e2 : cellOf env y.1 = pure c := by unfold cellOf; rw [hc]
          obtain ⟨yn, yk⟩ := y
          dsimp only at e1 e2 ⊢
          rw [if_pos e1, e2]
          rfl
        · by_cases hxy : x = y.1
          · subst hxy
            have e3 : ((y.1, c) :: acc).lookup y.1 = some c := by simp
            have e4 := ha _ _ hx
            rw [hc] at e4
            cases e4
            exact h1 _ _ e3
          · refine h1 x c' ?_
            rw [List.lookup_cons]
            have : (x == y.1) = false := by simpa using hxy
            rw [this]; exact hx
        · rcases List.mem_cons.mp hx with rfl | hx
          · rw [hc]; exact h1 _ _ (by simp)
          · exact h2 x hx hfx
      · obtain ⟨cl, e, h1, h2, h3⟩ := ih acc (fun x hx => hf x (List.mem_cons_of_mem _ hx)) ha
        refine ⟨cl, ?_, h1, fun x hx hfx => ?_, h3⟩
        · rw [List.forIn_cons, ← e]
          have e1 : ¬ (y.2 == NameKind.free) = true := by simpa using hk
          obtain ⟨yn, yk⟩ := y
          dsimp only at e1 ⊢
          rw [if_neg e1]
          rfl
        · rcases List.mem_cons.mp hx with rfl | hx
          · exact absurd hfx hk
          · exact h2 x hx hfx
  obtain ⟨cl, e, _, h2, h3⟩ := go scope.names [] h (fun x c z => by simp at z)
  refine ⟨cl, ?_, h2, h3⟩
  have e' := congrArg (fun t => t >>= fun r => (pure r : Sem (List (Str × Addr)))) e
  exact e'
/-- the block's context -/
def blk (X : Cx) (N : List Str) (sc : Scope) (cl : List (Str × Addr)) (C : Addr) (pn : List (Addr × Obj)) (ex : List Addr) (s₀ : Shared) (H₀ : Hp) : Cx :=
  { X with N := N, s₀ := s₀, H₀ := H₀, env := compEnvC sc cl C X.env, outer := X.stack, stack := X.stack, ex := ex, fn := fun _ => false, pn := pn, xe := fun _ _ => False }
/-- the names' values at a turn's start: the block's own unknown, then those from around -/
def bst (nl : Nat) (fr : List Nat) (σ : L2.St) : L2.St := List.replicate nl none ++ fr.map fun j => (σ[j]?).join
/-- what is asked of the block's scope: own names N = ls ++ fs, those from around in the outer slots fr -/
structure BlkOk (X : Cx) (ls fs : List Str) (fr : List Nat) (sc : Scope) : Prop where
  kind : sc.kind = .function
  nd : (ls ++ fs).Nodup
  names : ∀ x ∈ sc.names, x.2 = .local → sc.names.lookup x.1 = some .local
  cell : ∀ x ∈ sc.names, x.2 ≠ .cell
  free : ∀ x ∈ sc.names, x.2 = .free → X.env.kindOf x.1 = some .cell ∨ X.env.kindOf x.1 = some .free
  slot : ∀ (k : Nat) (x : Str), fs[k]? = some x → ∃ j, fr[k]? = some j ∧ X.N[j]? = some x ∧ (x, NameKind.free) ∈ sc.names ∧ sc.names.lookup x = some .free
  lenF : fr.length = fs.length
  own : ∀ x ∈ ls, sc.names.lookup x = some .local
section
variable {X : Cx}
/-- a relabelling that keeps the names keeps what is found under them -/
theorem lookup_kept (t : Str → NameKind → NameKind) (x : Str) : ∀ l : List (Str × NameKind), (l.map fun p => (p.1, t p.1 p.2)).lookup x = (l.lookup x).map (t x)
  | [] => rfl
  | (n, k) :: r => by
    rw [List.map_cons, List.lookup_cons, List.lookup_cons]
    by_cases hx : (x == n) = true
    · rw [hx, eq_of_beq hx]; rfl
    · rw [Bool.not_eq_true] at hx
      rw [hx]
      exact lookup_kept t x r
theorem relabel_lookup {sc : Scope} {env : Env} {x : Str} {l : List (Str × NameKind)} : (l.map fun (n, k) => if (k == NameKind.free && env.scope.kind == .function && env.kindOf n == some .cell) then (n, NameKind.cell) else (n, k)).lookup x =
    (l.lookup x).map fun k => if (k == NameKind.free && env.scope.kind == .function && env.kindOf x == some .cell) then NameKind.cell else k := by
  rw [← lookup_kept (fun y k => if (k == NameKind.free && env.scope.kind == .function && env.kindOf y == some .cell) then NameKind.cell else k) x l]
  refine congrArg (List.lookup x) (List.map_congr_left fun p _ => ?_)
  dsimp only
  split <;> rfl
theorem ne_size {b c : Addr} {h : Heap} {o : Obj} (e : h.get? b = some o) (hc : c = h.objs.size) : b ≠ c := fun z => Nat.lt_irrefl _ (by have q := Heap.lt_size e; rw [z, hc] at q; exact q)
theorem lt_ne {b c : Addr} {n : Nat} (h : b < n) (hc : n ≤ c) : b ≠ c := fun z => Nat.lt_irrefl c (Nat.lt_of_lt_of_le (z ▸ h) hc)
theorem inv_blk {ls fs : List Str} {fr : List Nat} {sc : Scope} {cl : List (Str × Addr)} {C : Addr} {pins : List (Addr × Obj)} {ex : List Addr} {σ : L2.St} {H : Hp} {s s4 : Shared} (B : BlkOk X ls fs fr sc) (I : Inv X pins σ H s)
    (hcl : ∀ x ∈ sc.names, x.2 = .free → cl.lookup x.1 = X.env.cells.lookup x.1) (hcl2 : ∀ x c, cl.lookup x = some c → X.env.cells.lookup x = some c) (hex : ∀ b ∈ ex, FpOk X pins H b ∧ b < s.heap.objs.size)
    (hC : C = s.heap.objs.size) {m : Str → Option Value} (hn : s4.heap.Ns C m) (hk : ∀ b o, s.heap.get? b = some o → s4.heap.get? b = some o) (ho : s4.os = s.os) (hg : s4.gens = s.gens) :
    Inv (blk X (ls ++ fs) sc cl C (X.pn ++ pins) ex s H) [] (bst ls.length fr σ) H s4 := by
  have ltC : ∀ {b : Addr} {o : Obj}, s.heap.get? b = some o → b ≠ C := fun e => ne_size e hC
  have cellC : ∀ x c, cl.lookup x = some c → c ≠ C := fun x c e => by
    obtain ⟨v, o, ho, _⟩ := I.cell x c (hcl2 x c e)
    exact ltC ho
  have kOf : ∀ x, (compEnvC sc cl C X.env).kindOf x = (sc.names.lookup x).map fun k => if (k == NameKind.free && X.env.scope.kind == .function && X.env.kindOf x == some .cell) then NameKind.cell else k := fun x => relabel_lookup (sc := sc)
  have okX : (blk X (ls ++ fs) sc cl C (X.pn ++ pins) ex s H).Ok := by
    refine ⟨I.ok.mod, B.kind, I.ok.glob, I.ok.blt, (by show s.heap.objs.size ≤ C; rw [hC]; exact Nat.le_refl _), fun x y c h1 h2 => I.ok.inj x y c (hcl2 x c h1) (hcl2 y c h2), fun x hx => ?_, fun x c hf => (by cases hf), I.ok.hd, I.ok.frames, .inl rfl, fun b hb => ?_, fun b o e => I.bs b o e, Nat.le_trans I.ok.bsz I.sz, fun b o e hb => ?_, fun b hb => ?_, I.stack, I.stkFree⟩
    · -- a cell or free name of the block
      have hx' : ∃ k, sc.names.lookup x = some k ∧ ((if (k == NameKind.free && X.env.scope.kind == .function && X.env.kindOf x == some .cell) then NameKind.cell else k) = .cell ∨ (if (k == NameKind.free && X.env.scope.kind == .function && X.env.kindOf x == some .cell) then NameKind.cell else k) = .free) := by
        have hx : (compEnvC sc cl C X.env).kindOf x = some .cell ∨ (compEnvC sc cl C X.env).kindOf x = some .free := hx
        rw [kOf] at hx
        cases e : sc.names.lookup x with
        | none => rw [e] at hx; rcases hx with hx | hx <;> cases hx
        | some k => rw [e] at hx; exact ⟨k, rfl, hx.imp (fun z => Option.some.inj z) fun z => Option.some.inj z⟩
      obtain ⟨k, e, hk'⟩ := hx'
      have hm := PySem.mem_of_lookup e
      have kf : k = .free := by
        have nc := B.cell _ hm
        by_cases hk2 : k = .free
        · exact hk2
        · have e2 : (k == NameKind.free) = false := by simpa using hk2
          rw [e2] at hk'
          simp only [Bool.false_and, Bool.false_eq_true, if_false] at hk'
          rcases hk' with z | z
          · exact absurd z nc
          · exact z
      subst kf
      have q := hcl _ hm rfl
      obtain ⟨c, hc⟩ := I.ok.has x (B.free _ hm rfl)
      exact ⟨c, q.trans hc⟩
    · exact ⟨lt_ne (hex b hb).2 (Nat.le_of_eq hC.symm), fun x c e => (hex b hb).1.2.2.2.2.1 x c (hcl2 x c e)⟩
    · obtain ⟨⟨_, _, _, f3, _, _⟩, _⟩ := hex b hb
      rcases f3 with f3 | f3
      · exact I.ok.noex b o e f3
      · exact absurd (Nat.lt_of_lt_of_le (Heap.lt_size e) (Nat.le_trans I.ok.bsz f3)) (Nat.lt_irrefl _)
    · intro z
      obtain ⟨⟨_, f1, f2, _, _, _⟩, _⟩ := hex b hb
      rcases List.mem_cons.mp (I.stkSub b z) with z | z
      · exact f1 z
      · exact f2 z
  refine ⟨okX, ho, by rw [hg]; exact I.bare, Un.kept hk, ⟨m, hn, fun i x v h1 h2 h3 => ?_⟩, fun x c e => ?_, ?_, fun x c e => I.freeC x c (hcl2 x c e), fun p hp => ?_, I.hok.kept hk, ?_⟩
  · -- a name with a value is one from around
    have hi : ¬ i < ls.length := fun hi => by
      unfold bst at h2
      rw [List.getElem?_append_left (by simpa using hi), List.getElem?_replicate, if_pos hi] at h2
      cases h2
    have e1 : fs[i - ls.length]? = some x := by
      have h1 : (ls ++ fs)[i]? = some x := h1
      rw [List.getElem?_append_right (by omega)] at h1
      exact h1
    obtain ⟨j, ej, eN, hm, hlk⟩ := B.slot _ _ e1
    have e2 : (σ[j]?).join = some v := by
      unfold bst at h2
      rw [List.getElem?_append_right (by simpa using hi), List.getElem?_map, List.length_replicate, ej] at h2
      exact Option.some.inj h2
    have e3 : σ[j]? = some (some v) := by
      cases q : σ[j]? with
      | none => rw [q] at e2; cases e2
      | some o => rw [q] at e2; rw [show o = some v from e2]
    have hfr := B.free _ hm rfl
    have vis : Vis X.env.scope x := .inr hfr
    obtain ⟨mm, hnm, hl⟩ := I.loc
    obtain ⟨u, r, l⟩ := hl j x v eN e3 vis
    refine ⟨u, r, ?_⟩
    rcases l with ⟨k1, _⟩ | ⟨k1, c, ec, zc⟩
    · have k1 : X.env.kindOf x = some .local := k1
      rcases hfr with z | z <;> rw [k1] at z <;> cases z
    · refine .inr ⟨?_, c, (hcl _ hm rfl).trans ec, ?_⟩
      · show (compEnvC sc cl C X.env).kindOf x = some .cell ∨ (compEnvC sc cl C X.env).kindOf x = some .free
        rw [kOf, hlk]
        dsimp only [Option.map]
        split
        · exact .inl rfl
        · exact .inr rfl
      · obtain ⟨oc, hoc, hd⟩ := zc
        exact ⟨oc, hk _ _ hoc, hd⟩
  · obtain ⟨v, oc, hoc, hd⟩ := I.cell x c (hcl2 x c e)
    exact ⟨v, oc, hk _ _ hoc, hd⟩
  · show H C = none
    rw [hC]; exact I.hok.fresh (Nat.le_refl _)
  · have hp : p ∈ (X.pn ++ pins) ++ [] := hp
    rw [List.append_nil] at hp
    obtain ⟨e, n, ne, nf, d⟩ := I.pin p hp
    refine ⟨hk _ _ e, n, ltC e, fun z => ?_, d⟩
    rcases List.mem_cons.mp (I.stkSub _ z) with z | z
    · exact ne z
    · exact nf z
  · show (bst ls.length fr σ).length = (ls ++ fs).length
    unfold bst
    rw [List.length_append, List.length_append, List.length_replicate, List.length_map, B.lenF]
/-- back from the block: its own frame C is left as it may be -/
theorem inv_back {ls fs : List Str} {sc : Scope} {cl : List (Str × Addr)} {C : Addr} {pins pins' : List (Addr × Obj)} {ex : List Addr} {σ σ' : L2.St} {H H' : Hp} {s s' : Shared} {h' : Heap} (I : Inv X pins σ H s)
    (J : Inv (blk X (ls ++ fs) sc cl C (X.pn ++ pins) ex s H) pins' σ' H' s') (hex : ∀ b ∈ ex, FpOk X pins H b) (hC : C = s.heap.objs.size) (hs : Heap.SameBut C s'.heap h') : Inv X pins σ H' { s' with heap := h' } := by
  have ltC : ∀ {b : Addr} {o : Obj}, s.heap.get? b = some o → b ≠ C := fun e => ne_size e hC
  have fr : H' C = none := J.free
  have un : Un (frs X.stack) ex H H' s.heap s'.heap := J.base
  refine I.call' (s' := { s' with heap := h' }) (ch := ex) J.os ⟨fun b o e n hb hx => (hs.2 b (ltC e)).trans (un.keep b o e n hb hx), fun b o e n hb hx => ?_, un.free, fun b o e hx => ?_, un.tups, un.frzs, un.tbls⟩ ?_ J.bare fun b hb => ?_
  · obtain ⟨sl, q⟩ := un.slot b o e n hb hx
    exact ⟨sl, (hs.2 b (ltC e)).trans q⟩
  · obtain ⟨o', q⟩ := un.there b o e hx
    exact ⟨o', (hs.2 b (ltC e)).trans q⟩
  · intro b ob e
    refine (J.hok b ob e).stay (fun c u hc q => (hs.2 c ?_).trans q) (fun _ q => q) fun _ _ q => q
    intro z
    rcases hc with hc | hc
    · rw [z] at hc; rw [← hc, fr] at e; cases e
    · rw [z, fr] at hc; cases hc
  · obtain ⟨_, f1, _, f3, f4, f5⟩ := hex b hb
    exact ⟨f3, f1, f4, f5⟩
/-- the tests behind a block's target, one by one -/
abbrev ifsRun (ifs : List Expr) (env : Env) : Sem Bool := forIn ifs true fun c r => if r = true then (do let b ← isTrue c env (eval c env); pure (ForInStep.yield b)) else pure (ForInStep.yield r)
/-- t ends, and without a raise -/
abbrev Calm (prog : Program) (w : World) (A : Around) {α : Type} (t : Sem α) (Q : α → Shared → Prop) (s : Shared) : Prop := wpAny (model prog w) A t Q (fun _ _ => False) s
/-- one turn more of a block, whatever is walked (the step ahead of the store is kept) -/
theorem codeAny_compLoop_any {prog : Program} {w : World} {A : Around} {R : Result → Shared → Prop} {s : Shared} {el tg src : Expr} {ifs : List Expr} {bs : Scope} {at_ : Pos} {it acc : Value} {env : Env} (Iv : Nat → Shared → Prop)
    (turn : ∀ n s, Iv n s → Calm prog w A (pyNext it) (fun got s1 => match got with
      | none => R (.ok .next) s1
      | some v => Calm prog w A (letOwnedTupleGo tg it v) (fun _ s2 => Calm prog w A (assign tg env v) (fun _ s3 => Calm prog w A (ifsRun ifs env) (fun ok s4 =>
          if ok = true then Calm prog w A (eval el env) (fun x s5 => Calm prog w A (call (.builtin "list.append") [acc, x]) (fun _ s6 => ∃ m, m < n ∧ Iv m s6) s5) s4 else ∃ m, m < n ∧ Iv m s4) s3) s2) s1) s)
    (n : Nat) (h : Iv n s) : codeAny (model prog w) A (.compLoop (.ListComp el [⟨tg, src, ifs, 0⟩] bs at_) 0 it acc env) R s := by
  have no : ∀ {α : Type} {E : Value → Shared → Prop} {t : Sem α} {Q Q' : α → Shared → Prop} {s : Shared}, Calm prog w A t Q s → (∀ a s, Q a s → Q' a s) → wpAny (model prog w) A t Q' E s := fun h f => wpAny_mono h f fun _ _ z => z.elim
  refine codeAny_loop rfl Iv (fun n s hI => ?_) n h
  refine wpAny_noted (m := compTurn (.ListComp el [⟨tg, src, ifs, 0⟩] bs at_) 0 it acc env) ?_
  rw [compTurn_list]
  refine wpAny_bind (wpAny_standAt (wpAny_bind (no (turn n s hI) fun got s1 h1 => ?_)))
  match got, h1 with
  | none, h1 => exact wpAny_pure h1
  | some v, h1 =>
    refine wpAny_bind (no h1 fun _ _ h2 => wpAny_bind (no h2 fun _ _ h3 => wpAny_bind (no h3 fun ok s4 h4 => ?_)))
    match ok, h4 with
    | false, h4 => exact wpAny_pure (And.intro rfl h4)
    | true, h4 => exact wpAny_bind (wpAny_bind (no h4 fun _ _ h5 => wpAny_bind (no h5 fun _ _ h6 => wpAny_pure (wpAny_pure (And.intro rfl h6)))))
/-- the tests of a comprehension: none, or one -/
abbrev TF := L2.St → Hp → (Bool → Hp → Prop) → Prop
def PIf (X : Cx) (ifs : List Expr) (t : TF) : Prop :=
  ∀ (pins : List (Addr × Obj)) (s : Shared) (σ : L2.St) (H : Hp) (Q : Bool → Hp → Prop), Inv X pins σ H s → t σ H Q →
    wpAny (model X.prog X.w) X.A (forIn ifs true fun c r => if r = true then do let ok ← isTrue c X.env (eval c X.env); pure (ForInStep.yield ok) else pure (ForInStep.yield r)) (TP X pins σ Q) X.xe s
theorem if_none : PIf X [] (fun _ H Q => Q true H) := fun pins s σ H Q I h => by
  rw [List.forIn_nil]
  exact wpAny_pure ⟨H, I, h⟩
theorem if_one {c : Expr} {t : TT} (h : PT X c t) : PIf X [c] t := fun pins s σ H Q I hw => by
  rw [List.forIn_cons]
  refine wpAny_bind ?_
  rw [if_pos rfl]
  refine wpAny_bind (thn (h pins s σ H Q I hw) fun b s1 q => wpAny_pure ?_)
  dsimp only
  rw [List.forIn_nil]
  exact wpAny_pure q
/-- the block's reading -/
def tComp (nl : Nat) (fr : List Nat) (wi : TI) (g : TG) (tf : TF) (te : TE) : TE := fun σ H Q => wi σ H fun J H1 => ∀ acc, H1 acc = none → ∃ W : Nat → Nat → Hp → List V → Prop, (∃ m, W 0 m (upd H1 acc (.lst [])) []) ∧
  ∀ i m H ys, W i m H ys → H acc = some (.lst ys) ∧ ((J.stop i H ∧ Q (.ref acc) H) ∨ (J.go i H ∧ ∀ x H', J.yld i H x H' → g x (bst nl fr σ) H' fun σ2 H2 => (σ2.drop nl = fr.map fun j => (σ[j]?).join) ∧ tf σ2 H2 fun b H3 =>
    if b = true then te σ2 H3 fun y H4 => H4 acc = some (.lst ys) ∧ ys.length < sizeLine ∧ ∃ m', m' < m ∧ W (i + 1) m' (upd H4 acc (.lst (ys ++ [y]))) (ys ++ [y]) else ∃ m', m' < m ∧ W (i + 1) m' H3 ys))
/-- what a def or block does to come to a comprehension's end; fin: what is done with the list while the block's frame still stands -/
theorem run_comp {ls fs : List Str} {fr : List Nat} {sc : Scope} {tg iter elt : Expr} {ifs : List Expr} {pos p2 : Pos} {wi : TI} {g : TG} {tf : TF} {te : TE} {pins : List (Addr × Obj)} {σ : L2.St} {H : Hp} {s : Shared} {Qe : VK} {use : Option (Value → Sem Unit)} {Qv : Value → Shared → Prop}
    (hc : X.calm = true) (B : BlkOk X ls fs fr sc) (hi : PI X tg iter wi) (hg : ∀ cl C pn ex s H, PG (blk X (ls ++ fs) sc cl C pn ex s H) tg g) (hf : ∀ cl C pn ex s H, PIf (blk X (ls ++ fs) sc cl C pn ex s H) ifs tf) (he : ∀ cl C pn ex s H, PE (blk X (ls ++ fs) sc cl C pn ex s H) elt te)
    (hs : ∀ x, foldedSetIterable iter X.env x = pure x) (I : Inv X pins σ H s) (h : tComp ls.length fr wi g tf te σ H Qe)
    (fin : ∀ acc C s' H', Inv X pins σ H' s' → (∃ m, s'.heap.Ns C m) → FpOk X pins H' C → Qe (.ref acc) H' → compPost (model X.prog X.w) X.A X.xe use Qv (.ref acc) C (.ok .next) s') :
    wpAny (model X.prog X.w) X.A (comprehension (.ListComp elt [⟨tg, iter, ifs, 0⟩] sc pos) sc X.env p2 (newList []) false (eval iter X.env) use) Qv X.xe s := by
  obtain ⟨cl, ecl, hcl, hcl2⟩ := closure_of (scope := sc) (env := X.env) fun x hx hf => I.ok.has x.1 (B.free x hx hf)
  refine wpAny_comprehension_free (g := ⟨tg, iter, ifs, 0⟩) (gs := []) rfl hs ecl B.kind B.names ?_
  refine thn (hi pins s σ H _ I h) fun v s1 h1 => thn h1 fun itv s2 h2 => ?_
  obtain ⟨it, fp, tn, J, H2, e, I2, T, st2, f2, h2⟩ := h2
  subst e
  refine wpAny_newObj_type ?_ (by show ([] : List Value).toArray.size ≤ sizeLine; simp)
  have hacc : H2 s2.heap.objs.size = none := I2.hok.fresh (Nat.le_refl _)
  have I3 : Inv X pins σ (upd H2 s2.heap.objs.size (.lst [])) { s2 with heap := s2.heap.push { cls := .type "list", data := .seq ([] : List Value).toArray } } :=
    I2.laid (t' := s2.toks) (fun b o e => Heap.get?_push_of_some _ e) (Nat.le_refl _) ⟨by simp, [], 0, .nil, Heap.get?_push_size _ rfl⟩
  have hfp : ∀ b ∈ fp, b < s2.heap.objs.size := fun b hb => by obtain ⟨o, e, _⟩ := T.obj _ _ st2 b hb; exact Heap.lt_size e
  obtain ⟨W, ⟨m0, w0⟩, turn⟩ := h2 _ hacc
  generalize hacc2 : s2.heap.objs.size = acc at hacc I3 w0 turn ⊢
  have fpne : ∀ b ∈ fp, b ≠ acc := fun b hb => lt_ne (hfp b hb) (Nat.le_of_eq hacc2)
  have f3 : ∀ b ∈ fp, FpOk X pins (upd H2 acc (.lst [])) b := fun b hb => ⟨by rw [upd_ne (fpne b hb)]; exact (f2 b hb).1, (f2 b hb).2⟩
  generalize hs3 : ({ s2 with heap := s2.heap.push { cls := .type "list", data := .seq ([] : List Value).toArray } } : Shared) = s3 at I3
  have hsz3 : s3.heap.objs.size = acc + 1 := by rw [← hs3]; show (s2.heap.push _).objs.size = _; rw [Heap.size_push, hacc2]
  have st3 : tn 0 s3.heap := T.keep _ _ _ st2 fun b hb o e => by rw [← hs3]; exact Heap.get?_push_of_some _ e
  refine wpAny_newFunctionEnv B.cell (by intro y hy; simp at hy) (fun h4 hn4 hsb4 => ?_) B.kind
  have hk4 : ∀ b o, s3.heap.get? b = some o → h4.get? b = some o := fun b o e => hsb4.extBut b o (Nat.ne_of_lt (Heap.lt_size e)) (Heap.get?_push_of_some _ e)
  generalize hC : s3.heap.objs.size = C at hn4 hsb4 ⊢
  have I4 : Inv (blk X (ls ++ fs) sc cl C (X.pn ++ pins) fp s3 (upd H2 acc (.lst []))) [] (bst ls.length fr σ) (upd H2 acc (.lst [])) { s3 with heap := h4, toks := s3.toks + ([] : List (Str × Value)).length } :=
    inv_blk B I3 hcl hcl2 (fun b hb => ⟨f3 b hb, by rw [hsz3, ← hacc2]; exact Nat.lt_succ_of_lt (hfp b hb)⟩) hC.symm hn4 hk4 rfl rfl
  generalize hX : blk X (ls ++ fs) sc cl C (X.pn ++ pins) fp s3 (upd H2 acc (.lst [])) = Y at I4
  have pY : Y.prog = X.prog := by rw [← hX]; rfl
  have wY : Y.w = X.w := by rw [← hX]; rfl
  have kY : Y.K = X.K := by rw [← hX]; rfl
  have AY : Y.A = X.A := by rw [← hX]; rfl
  have cY : Y.calm = true := by rw [← hX]; exact hc
  have eY : Y.env = compEnvC sc cl C X.env := by rw [← hX]; rfl
  have xY : Y.xe = fun _ _ => False := by rw [← hX]; rfl
  have statY : ∀ {H' : Hp}, (∀ b ∈ fp, H' b = none) → ∀ b ∈ fp, FpOk Y [] H' b := fun hn b hb => by
    rw [← hX]
    obtain ⟨_, f1, f2', _, f4, f5⟩ := f3 b hb
    refine ⟨hn b hb, fun z => ?_, fun z => ?_, .inl hb, fun x c e => f4 x c (hcl2 x c e), fun p hp => f5 p ?_⟩
    · exact absurd z (lt_ne (hfp b hb) (by rw [← hC, hsz3, hacc2]; exact Nat.le_succ _))
    · rcases List.mem_cons.mp (I3.stkSub b z) with z | z
      · exact f1 z
      · exact f2' z
    · have hp : p ∈ (X.pn ++ pins) ++ [] := hp
      rw [List.append_nil] at hp; exact hp
  have st4 : tn 0 h4 := T.keep _ _ _ st3 fun b hb o e => hk4 b o e
  have loop : ∀ s5 : Shared, (∃ i H', Inv Y [] (bst ls.length fr σ) H' s5 ∧ tn i s5.heap ∧ (∀ b ∈ fp, H' b = none) ∧ ∃ m ys, W i m H' ys) → codeAny (model X.prog X.w) X.A (.compLoop (.ListComp elt [⟨tg, iter, ifs, 0⟩] sc pos) 0 (.ref it) (.ref acc) (compEnvC sc cl C X.env)) (compPost (model X.prog X.w) X.A X.xe use Qv (.ref acc) C) s5 := by
    rintro s5 ⟨i, H', I5, st5, fr5, m, ys, w5⟩
    refine codeAny_compLoop_any (fun n s' => ∃ i H' ys, Inv Y [] (bst ls.length fr σ) H' s' ∧ tn i s'.heap ∧ (∀ b ∈ fp, H' b = none) ∧ W i n H' ys) ?_ m ⟨i, H', ys, I5, st5, fr5, w5⟩
    rintro n s6 ⟨i, H6, ys, I6, st6, fr6, w6⟩
    obtain ⟨ha6, alt⟩ := turn i n H6 ys w6
    rcases alt with ⟨stop, qn⟩ | ⟨go, step⟩
    · have q := T.done Y pY wY kY cY i [] s6 _ H6 (fun _ _ => False) I6 (statY fr6) st6 stop
      rw [AY] at q
      refine thn q fun r s7 ⟨hr, I7⟩ => ?_
      subst hr
      have fr7 : H6 C = none := by
        have := I7.free
        rw [eY] at this
        exact this
      refine fin acc C s7 H6 ?_ ?_ (I3.fpOk (Nat.le_of_eq hC) fr7) qn
      · rw [← hX] at I7
        exact inv_back I3 I7 (fun b hb => f3 b hb) hC.symm (.refl ..)
      · obtain ⟨m, hm, _⟩ := I7.loc
        rw [eY] at hm
        exact ⟨m, hm⟩
    · have q := T.item Y pY wY kY cY i [] s6 _ H6 (fun _ _ => False) I6 (statY fr6) st6 go
      rw [AY] at q
      refine thn q fun r s7 ⟨u, hr, h7⟩ => ?_
      subst hr
      refine thn h7 fun _ s8 ⟨x, H8, I8, r8, y8, st8, fr8⟩ => ?_
      have I8' := I8.pinned (statY fr8) (T.obj _ _ st8)
      have hgY := hg cl C (X.pn ++ pins) fp s3 (upd H2 acc (.lst []))
      have hfY := hf cl C (X.pn ++ pins) fp s3 (upd H2 acc (.lst []))
      have heY := he cl C (X.pn ++ pins) fp s3 (upd H2 acc (.lst []))
      rw [hX] at hgY hfY heY
      have q8 := hgY _ s8 _ H8 x u _ I8' r8 (step x H8 y8)
      rw [pY, wY, AY, eY, xY] at q8
      refine thn q8 fun _ s9 ⟨σ9, H9, I9, hσ9, q9⟩ => ?_
      have q10 := hfY _ s9 σ9 H9 _ I9 q9
      rw [pY, wY, AY, eY, xY] at q10
      refine thn q10 fun ok s10 ⟨H10, I10, q10⟩ => ?_
      have bl : ∀ {H7 : Hp} {s7 : Shared}, Inv Y ([] ++ pinsAt fp s8.heap) σ9 H7 s7 → (∃ m', m' < n ∧ ∃ ys', W (i + 1) m' H7 ys') → ∃ m, m < n ∧ ∃ i H' ys, Inv Y [] (bst ls.length fr σ) H' s7 ∧ tn i s7.heap ∧ (∀ b ∈ fp, H' b = none) ∧ W i m H' ys := fun {H7 s7} I7 ⟨m', hm, ys', w7⟩ => by
        refine ⟨m', hm, i + 1, H7, ys', ?_, T.keep _ _ _ st8 fun b hb o e => (I7.pin (b, o) (List.mem_append_right _ (List.mem_append_right _ (mem_pinsAt hb e)))).1, fun b hb => ?_, w7⟩
        · refine I7.unpinned.weak ?_ fun k v e => ?_
          · rw [I7.len, ← I6.len]
          · by_cases hk : k < ls.length
            · unfold bst at e
              rw [List.getElem?_append_left (by simpa using hk), List.getElem?_replicate, if_pos hk] at e
              cases e
            · have e2 : (σ9.drop ls.length)[k - ls.length]? = some (some v) := by
                rw [hσ9]
                unfold bst at e
                rw [List.getElem?_append_right (by simpa using hk), List.length_replicate] at e
                exact e
              rw [List.getElem?_drop] at e2
              rw [show ls.length + (k - ls.length) = k by omega] at e2
              exact e2
        · obtain ⟨o, e, d⟩ := T.obj _ _ st8 b hb
          exact (I7.pin (b, o) (List.mem_append_right _ (List.mem_append_right _ (mem_pinsAt hb e)))).2.1
      cases ok with
      | false =>
        rw [if_neg Bool.false_ne_true] at q10 ⊢
        obtain ⟨m', hm, w'⟩ := q10
        exact bl I10 ⟨m', hm, ys, w'⟩
      | true =>
        rw [if_pos rfl] at q10 ⊢
        have q11 := heY _ s10 σ9 H10 _ I10 q10
        rw [pY, wY, AY, eY, xY] at q11
        refine thn q11 fun yv s11 ⟨y, H11, I11, r11, hacc11, hz11, m', hm, w'⟩ => ?_
        have q12 := (mt_append (X := Y)) _ s11 σ9 H11 (.ref acc) [y] (.ref acc) [yv] (fun _ H' => H' = upd H11 acc (.lst (ys ++ [y]))) I11 rfl (.cons r11 .nil) ⟨acc, ys, y, rfl, rfl, hacc11, hz11, rfl⟩
        rw [pY, wY, AY, xY] at q12
        refine thn q12 fun _ s12 ⟨_, H12, I12, _, e12⟩ => ?_
        subst e12
        exact bl I12 ⟨m', hm, _, w'⟩
  have L0 := loop _ ⟨0, _, I4, st4, fun b hb => (f3 b hb).1, m0, [], w0⟩
  refine codeAny_compStart_list L0 (T.self _ 0 _ _ _ st4 L0)
theorem pe_comp {ls fs : List Str} {fr : List Nat} {sc : Scope} {tg iter elt : Expr} {ifs : List Expr} {pos : Pos} {wi : TI} {g : TG} {tf : TF} {te : TE}
    (hc : X.calm = true) (B : BlkOk X ls fs fr sc) (hi : PI X tg iter wi) (hg : ∀ cl C pn ex s H, PG (blk X (ls ++ fs) sc cl C pn ex s H) tg g) (hf : ∀ cl C pn ex s H, PIf (blk X (ls ++ fs) sc cl C pn ex s H) ifs tf) (he : ∀ cl C pn ex s H, PE (blk X (ls ++ fs) sc cl C pn ex s H) elt te)
    (hs : ∀ x, foldedSetIterable iter X.env x = pure x := by intro _; rfl) : PE X (.ListComp elt [⟨tg, iter, ifs, 0⟩] sc pos) (tComp ls.length fr wi g tf te) := by
  intro pins s σ H Q I h
  rw [eval_ListComp]
  refine run_comp (use := none) hc B hi hg hf he hs I h fun acc C s' H' I' hm fp q => ?_
  obtain ⟨m, hm⟩ := hm
  obtain ⟨f0, f1, _, f3, f4, f5⟩ := fp
  exact ⟨m, hm, fun h' hsb => ⟨.ref acc, H', I'.turned (t' := s'.toks) (fun b o hb e => (hsb.2 b hb).trans e) f0 f1 f3 f4 f5, rfl, q⟩⟩
/-- x = [..]: the store stands within the block -/
theorem ps_setComp {i : Nat} {x : Str} {ls fs : List Str} {fr : List Nat} {sc : Scope} {tg iter elt : Expr} {ifs : List Expr} {pos spos pos' : Pos} {wi : TI} {g : TG} {tf : TF} {te : TE} (hN : X.N.Nodup) (hx0 : X.N[i]? = some x) (hx : X.env.scope.names.lookup x = some .local)
    (hc : X.calm = true) (B : BlkOk X ls fs fr sc) (hi : PI X tg iter wi) (hg : ∀ cl C pn ex s H, PG (blk X (ls ++ fs) sc cl C pn ex s H) tg g) (hf : ∀ cl C pn ex s H, PIf (blk X (ls ++ fs) sc cl C pn ex s H) ifs tf) (he : ∀ cl C pn ex s H, PE (blk X (ls ++ fs) sc cl C pn ex s H) elt te)
    (hsw : swapsWith (.ListComp elt [⟨tg, iter, ifs, 0⟩] sc pos) (some (.Name x pos')) spos.line X.env = pure true)
    (hs : ∀ x, foldedSetIterable iter X.env x = pure x := by intro _; rfl) : PS X (.Assign [.Name x pos'] (.ListComp elt [⟨tg, iter, ifs, 0⟩] sc pos) spos) (tAsg (tComp ls.length fr wi g tf te) (gName i)) := by
  intro pins s σ H D I h
  rw [exec_Assign_Name_used _ _ _ _ hsw]; refine wpAny_bind (wpAny_standAt (wpAny_bind ?_))
  show wpAny _ X.A (do let _ ← comprehension (.ListComp elt [⟨tg, iter, ifs, 0⟩] sc pos) sc X.env _ (newList []) false (eval iter X.env) (some (assign (.Name x pos') X.env))) _ _ s
  refine wpAny_bind (wpAny_mono (run_comp (use := some (assign (.Name x pos') X.env)) (Qv := fun _ s' => SP X pins D .next s') hc B hi hg hf he hs I h fun acc C s' H' I' hm fp q => ?_) (fun _ s' hq => wpAny_pure (wpAny_pure hq)) fun _ _ e => e)
  obtain ⟨m, hm⟩ := hm
  obtain ⟨f0, f1, _, f3, f4, f5⟩ := fp
  refine wpAny_assign_Name (store_ok2 I' hN hx0 (.inl hx) (v := .ref acc) rfl (fun s'' I'' hsb => ?_) (.inr hx))
  obtain ⟨a, hsb, ha⟩ := hsb
  have haC : a ≠ C := by
    rcases ha with rfl | ha
    · exact Ne.symm f1
    · exact f4 x a ha
  exact ⟨m, hm.sameBut hsb (Ne.symm haC), fun h' hs' => ⟨_, H', I''.turned (t' := s''.toks) (fun b o hb e => (hs'.2 b hb).trans e) f0 f1 f3 f4 f5, q⟩⟩
end
end L3

end
section
set_option Elab.async false
set_option linter.all false
set_option maxRecDepth 100000
set_option maxHeartbeats 4100000
namespace L3
open PySem PySem.Spec PyProof.Rows L2
/-! ### comprehensions over deep values -/
def chk (outer : List (Str × NameKind)) (sc : Scope) (N ls fs : List Str) (fr : List Nat) : Bool :=
  (sc.kind == .function) && decide (ls ++ fs).Nodup && sc.names.all (fun x => decide (x.2 = .local → sc.names.lookup x.1 = some .local)) && sc.names.all (fun x => decide (x.2 ≠ .cell)) &&
  sc.names.all (fun x => decide (x.2 = .free → (outer.lookup x.1 = some .cell ∨ outer.lookup x.1 = some .free))) && decide (fr.length = fs.length) &&
  (fs.zip fr).all (fun x => decide (N[x.2]? = some x.1) && sc.names.contains (x.1, NameKind.free) && decide (sc.names.lookup x.1 = some .free)) && ls.all (fun x => decide (sc.names.lookup x = some .local))
theorem chk_ok {X : Cx} {ls fs : List Str} {fr : List Nat} {sc : Scope} (h : chk X.env.scope.names sc X.N ls fs fr = true) : BlkOk X ls fs fr sc := by
  unfold chk at h
  simp only [Bool.and_eq_true, List.all_eq_true, decide_eq_true_eq] at h
  obtain ⟨⟨⟨⟨⟨⟨⟨h1, h2⟩, h3⟩, h4⟩, h5⟩, h6⟩, h7⟩, h8⟩ := h
  refine ⟨eq_of_beq h1, h2, h3, h4, h5, fun k x e => ?_, h6, h8⟩
  have hk : k < fs.length := (List.getElem?_eq_some_iff.mp e).1
  have hm : (x, fr[k]'(by omega)) ∈ fs.zip fr := by
    have : (fs.zip fr)[k]? = some (x, fr[k]'(by omega)) := by
      rw [List.getElem?_zip_eq_some]
      exact ⟨e, by simp⟩
    exact List.mem_of_getElem? this
  obtain ⟨⟨a, b⟩, c⟩ := h7 _ hm
  exact ⟨fr[k]'(by omega), by simp, a, by simpa using b, c⟩
abbrev GE := D → DEnv → (DEnv → Prop) → Prop
/-- a target in a block: its own names stand ahead of nl -/
def liftGE (K : PySem.W.Frag) (nl n : Nat) (g : GE) : TG := fun v σ H Q => ∃ (S : Addr → Prop) (ρ : DEnv) (d : D) (Q3 : DEnv → Prop), σ.length = n ∧ (∀ a, H a = none → S a) ∧ Sl K S H ρ σ ∧ Dn K S H d v ∧ g d ρ Q3 ∧
  ∀ σ' ρ', Sl K S H ρ' σ' → σ'.drop nl = σ.drop nl → Q3 ρ' → Q σ' H
def PG4 (X : Cx) (nl : Nat) (tg : Expr) (g : GE) : Prop := PG X tg (liftGE X.K nl X.N.length g)
theorem Sl.set {K : PySem.W.Frag} {S : Addr → Prop} {H : Hp} {ρ : DEnv} {σ : L2.St} {i : Nat} {d : D} {v : V} (h : Sl K S H ρ σ) (hi : i < σ.length) (q : Dn K S H d v) : Sl K S H (ρ.set i (some d)) (σ.set i (some v)) := fun j e he => by
  rcases get_set he with ⟨hj, z, _⟩ | ⟨hj, z⟩
  · cases z
    subst hj
    exact ⟨v, List.getElem?_set_self hi, q⟩
  · obtain ⟨u, a, b⟩ := h j e z
    exact ⟨u, by rw [List.getElem?_set_ne (Ne.symm hj)]; exact a, b⟩
def hN (i : Nat) : GE := fun d ρ Q => Q (ρ.set i (some d))
def h2 (i j : Nat) : GE := fun d ρ Q => match d with
  | .tup [d1, d2] => Q ((ρ.set i (some d1)).set j (some d2))
  | _ => False
theorem drop_set {α : Type} {l : List α} {i n : Nat} {x : α} (h : i < n) : (l.set i x).drop n = l.drop n := by
  rw [List.drop_set, if_pos h]
section
variable {X : Cx}
theorem bname {nl i : Nat} {x : Str} {pos : Pos} (nd : X.N.Nodup) (hil : i < nl) (hi : X.N[i]? = some x := by rfl) (hx : X.env.scope.names.lookup x = some .local := by rfl) : PG4 X nl (.Name x pos) (hN i) :=
  impG (pg_name nd hi (.inl hx) (.inr hx)) fun v σ H Q ⟨S, ρ, d, Q3, hl, fc, sl, dn, hg, k⟩ => k _ _ (sl.set (by rw [hl]; exact ix_lt hi) dn) (drop_set hil) hg
theorem bpair {nl i j : Nat} {x y : Str} {kk : Nat} {pos px py : Pos} (hc : X.calm = true) (nd : X.N.Nodup) (hil : i < nl) (hjl : j < nl) (hi : X.N[i]? = some x := by rfl) (hj : X.N[j]? = some y := by rfl) (hx : X.env.scope.names.lookup x = some .local := by rfl) (hy : X.env.scope.names.lookup y = some .local := by rfl)
    (hn : (assignEach [.Name x px, .Name y py] X.env).length = 2 := by rfl) (hst : (assignEach [.Name x px, .Name y py] X.env).findIdx? (·.1) = none := by rfl)
    (hs1 : (assignEach [.Name x px, .Name y py] X.env).map (·.2) = assign (.Name x px) X.env :: (assignEach [.Name y py] X.env).map (·.2) := by rfl) (hs2 : (assignEach [.Name y py] X.env).map (·.2) = assign (.Name y py) X.env :: (assignEach [] X.env).map (·.2) := by rfl) :
    PG4 X nl (.Tuple [.Name x px, .Name y py] kk pos) (h2 i j) :=
  impG (pg_tup (n := 2) hc (pgs_cons (pg_name nd hi (.inl hx) (.inr hx)) (pgs_cons (pg_name nd hj (.inl hy) (.inr hy)) pgs_nil hs2) hs1) hn hst) fun v σ H Q ⟨S, ρ, d, Q3, hl, fc, sl, dn, hg, k⟩ => by
    unfold h2 at hg
    split at hg
    · rename_i d1 d2
      simp only [Dn] at dn
      obtain ⟨a, xs, rfl, ha, da⟩ := dn
      obtain ⟨v1, r1, rfl, h1, h2⟩ := da.uncons
      obtain ⟨v2, r2, rfl, h3, h4⟩ := h2.uncons
      simp only [Dns] at h4
      subst h4
      refine ⟨a, _, rfl, ha, rfl, v1, [v2], rfl, v2, [], rfl, rfl, ?_⟩
      exact k _ _ ((sl.set (by rw [hl]; exact ix_lt hi) h1).set (by rw [List.length_set, hl]; exact ix_lt hj) h3) (by rw [drop_set hjl, drop_set hil]) hg
    · exact hg.elim
def PIf3 (X : Cx) (ifs : List Expr) (t : WT) : Prop := PIf X ifs (liftT X.K t)
def wTrue : WT := fun _ Q => Q true
theorem noif : PIf3 X [] wTrue := fun pins s σ H Q I ⟨S, ρ, Q3, fc, sl, ht, k⟩ => if_none pins s σ H Q I (k true H (Same.refl H) ht)
theorem oneif {c : Expr} {t : WT} (h : PT3 X c t) : PIf3 X [c] t := if_one h
def compW (g : GE) (tf : WT) (te : WE) (ρ : DEnv) : List D → List D → (D → Prop) → Prop
  | [], acc, Q => Q (.lst acc)
  | d :: r, acc, Q => g d ρ fun ρ2 => tf ρ2 fun b => if b = true then te ρ2 fun y => acc.length < sizeLine ∧ compW g tf te ρ r (acc ++ [y]) Q else compW g tf te ρ r acc Q
def benv (nl : Nat) (fr : List Nat) (ρ : DEnv) : DEnv := List.replicate nl none ++ fr.map fun j => (ρ[j]?).join
def wComp (nl : Nat) (fr : List Nat) (ti : WI) (g : GE) (tf : WT) (te : WE) : WE := fun ρ Q => ti ρ fun ds => compW g tf te (benv nl fr ρ) ds [] Q
theorem sl_benv {K : PySem.W.Frag} {S : Addr → Prop} {H : Hp} {ρ : DEnv} {σ : L2.St} {nl : Nat} {fr : List Nat} (h : Sl K S H ρ σ) : Sl K S H (benv nl fr ρ) (bst nl fr σ) := fun i d e => by
  unfold benv at e
  unfold bst
  by_cases hi : i < nl
  · rw [List.getElem?_append_left (by simpa using hi), List.getElem?_replicate, if_pos hi] at e
    cases e
  · rw [List.getElem?_append_right (by simpa using hi), List.getElem?_map, List.length_replicate] at e ⊢
    cases q : fr[i - nl]? with
    | none => rw [q] at e; cases e
    | some j =>
      rw [q] at e
      have e1 : (ρ[j]?).join = some d := Option.some.inj e
      have e2 : ρ[j]? = some (some d) := by
        cases z : ρ[j]? with
        | none => rw [z] at e1; cases e1
        | some o => rw [z] at e1; rw [show o = some d from e1]
      obtain ⟨v, ev, dv⟩ := h j d e2
      exact ⟨v, by show some ((σ[j]?).join) = _; rw [ev]; rfl, dv⟩
theorem lift_comp {K : PySem.W.Frag} {nl n : Nat} {fr : List Nat} {ti : WI} {g : GE} {tf : WT} {te : WE} {σ : L2.St} {H : Hp} {Q : VK} (hn : nl + fr.length = n) (h : liftF K (wComp nl fr ti g tf te) σ H Q) : tComp nl fr (liftI K ti) (liftGE K nl n g) (liftT K tf) (lift K te) σ H Q := by
  obtain ⟨S, ρ, Q3, fc, sl, ht, k⟩ := h
  refine ⟨S, ρ, _, fc, sl, ht, fun J H1 ds G s1 hG wk q1 => ?_⟩
  intro acc hacc
  have h0 : H acc = none := s1.free hacc
  have fc1 := fc_same fc s1
  have ok : ∀ {H2 : Hp}, Same H1 H2 → (∃ ys, H2 acc = some (.lst ys)) → (∀ a, H2 a = none → S a ∧ a ≠ acc) ∧ Sl K (fun a => S a ∧ a ≠ acc) H2 (benv nl fr ρ) (bst nl fr σ) ∧ ∀ g ∈ G, Dn K (fun a => S a ∧ a ≠ acc) H2 g.1 g.2 := fun {H2} s2 hy => by
    refine ⟨fun a e => ⟨fc_same fc1 s2 a e, fun z => ?_⟩, ?_, fun g hg => Dn.fits ((Fits.fresh hacc).trans (.same s2)) _ _ (hG g hg)⟩
    · subst z
      obtain ⟨ys, hy⟩ := hy
      rw [e] at hy; cases hy
    · exact sl_benv (Sl.fits ((Fits.fresh h0).trans (.same (s1.trans s2))) sl)
  refine ⟨fun i m H2 ys => m = ds.length - i ∧ i ≤ ds.length ∧ Same H1 H2 ∧ H2 acc = some (.lst ys) ∧ ∃ aD, Dns K (fun a => S a ∧ a ≠ acc) H2 aD ys ∧ compW g tf te (benv nl fr ρ) (ds.drop i) aD Q3,
    ⟨_, rfl, Nat.zero_le _, same_upd hacc, upd_same, [], Dns.nil, q1⟩, ?_⟩
  rintro i m H2 ys ⟨rfl, hi, s2, hy, aD, dn, cw⟩
  obtain ⟨fc2, sl2, gh2⟩ := ok s2 ⟨ys, hy⟩
  refine ⟨hy, ?_⟩
  by_cases hlt : i < ds.length
  · refine .inr ?_
    obtain ⟨g1, g2⟩ := wk.go _ H2 fc2 gh2 i ds[i] (by simp [hlt])
    refine ⟨g1, fun x H' y => ?_⟩
    obtain ⟨s3, dx⟩ := g2 x H' y
    rw [List.drop_eq_getElem_cons hlt, compW] at cw
    refine ⟨fun a => S a ∧ a ≠ acc, benv nl fr ρ, ds[i], _, ?_, fc_same fc2 s3, Sl.fits (.same s3) sl2, dx, cw, fun σ' ρ' sl' hd q' => ?_⟩
    · unfold bst; rw [List.length_append, List.length_replicate, List.length_map]; exact hn
    · refine ⟨by rw [hd]; unfold bst; rw [List.drop_append_of_le_length (by simp), List.drop_replicate]; simp, fun a => S a ∧ a ≠ acc, ρ', _, fc_same fc2 s3, sl', q', fun b H3 s4 q4 => ?_⟩
      cases b with
      | false =>
        rw [if_neg Bool.false_ne_true] at q4 ⊢
        exact ⟨_, by omega, rfl, hlt, (s2.trans s3).trans s4, (s3.trans s4) _ _ hy, aD, Dns.fits (.same (s3.trans s4)) _ _ dn, q4⟩
      | true =>
        rw [if_pos rfl] at q4 ⊢
        refine ⟨fun a => S a ∧ a ≠ acc, ρ', _, fc_same fc2 (s3.trans s4), Sl.fits (.same s4) sl', q4, fun v H4 d s5 d5 q5 => ?_⟩
        have hy4 : H4 acc = some (.lst ys) := ((s3.trans s4).trans s5) _ _ hy
        have F : Fits K (fun a => S a ∧ a ≠ acc) (fun a => S a ∧ a ≠ acc) H4 (upd H4 acc (.lst (ys ++ [v]))) := .upd (.inl ⟨_, hy4⟩) fun z => z.2 rfl
        refine ⟨hy4, by rw [← dn.len]; exact q5.1, _, by omega, rfl, hlt, fun b u hb => ?_, upd_same, aD ++ [d], Dns.fits F _ _ ((Dns.fits (.same ((s3.trans s4).trans s5)) _ _ dn).append (Dns.one d5)), q5.2⟩
        rw [upd_ne (ne_of_none hb hacc)]
        exact (((s2.trans s3).trans s4).trans s5) _ _ hb
  · have e : i = ds.length := by omega
    subst e
    rw [List.drop_length, compW] at cw
    exact .inl ⟨wk.stop _ H2 gh2 _ rfl, k acc ys H2 aD h0 hy (s1.trans s2) dn cw⟩
/-- [elt for target in iter if test] -/
theorem comp3 {ls fs : List Str} {fr : List Nat} {sc : Scope} {tg iter elt : Expr} {ifs : List Expr} {pos : Pos} {ti : WI} {g : GE} {tf : WT} {te : WE} (hc : X.calm = true) (hi : PI3 X tg iter ti)
    (hg : ∀ cl C pn ex s H, (blk X (ls ++ fs) sc cl C pn ex s H).N.Nodup → PG4 (blk X (ls ++ fs) sc cl C pn ex s H) ls.length tg g) (hf : ∀ cl C pn ex s H, PIf3 (blk X (ls ++ fs) sc cl C pn ex s H) ifs tf) (he : ∀ cl C pn ex s H, PE3 (blk X (ls ++ fs) sc cl C pn ex s H) elt te)
    (B : chk X.env.scope.names sc X.N ls fs fr = true := by rfl) (hs : ∀ x, foldedSetIterable iter X.env x = pure x := by intro _; rfl) : PF3 X (.ListComp elt [⟨tg, iter, ifs, 0⟩] sc pos) (wComp ls.length fr ti g tf te) :=
  imp (pe_comp (g := liftGE X.K ls.length (ls ++ fs).length g) (tf := liftT X.K tf) (te := lift X.K te) hc (chk_ok B) hi (fun cl C pn ex s H => hg cl C pn ex s H (chk_ok B).nd) hf he hs) fun σ H Q h => lift_comp (n := (ls ++ fs).length) (by rw [List.length_append, (chk_ok B).lenF]) h
/-- x = [..] -/
theorem setComp3 {i : Nat} {x : Str} {ls fs : List Str} {fr : List Nat} {sc : Scope} {tg iter elt : Expr} {ifs : List Expr} {pos spos pos' : Pos} {ti : WI} {g : GE} {tf : WT} {te : WE} (nd : X.N.Nodup) (hc : X.calm = true) (hi : PI3 X tg iter ti)
    (hg : ∀ cl C pn ex s H, (blk X (ls ++ fs) sc cl C pn ex s H).N.Nodup → PG4 (blk X (ls ++ fs) sc cl C pn ex s H) ls.length tg g) (hf : ∀ cl C pn ex s H, PIf3 (blk X (ls ++ fs) sc cl C pn ex s H) ifs tf) (he : ∀ cl C pn ex s H, PE3 (blk X (ls ++ fs) sc cl C pn ex s H) elt te)
    (hx0 : X.N[i]? = some x := by rfl) (hx : X.env.scope.names.lookup x = some .local := by rfl) (hsw : swapsWith (.ListComp elt [⟨tg, iter, ifs, 0⟩] sc pos) (some (.Name x pos')) spos.line X.env = pure true := by rfl)
    (B : chk X.env.scope.names sc X.N ls fs fr = true := by rfl) (hs : ∀ x, foldedSetIterable iter X.env x = pure x := by intro _; rfl) : PS3 X (.Assign [.Name x pos'] (.ListComp elt [⟨tg, iter, ifs, 0⟩] sc pos) spos) (wOwn i (wComp ls.length fr ti g tf te)) :=
  impS (ps_setComp (g := liftGE X.K ls.length (ls ++ fs).length g) (tf := liftT X.K tf) (te := lift X.K te) nd hx0 hx hc (chk_ok B) hi (fun cl C pn ex s H => hg cl C pn ex s H (chk_ok B).nd) hf he hsw hs) fun Bd σ H ⟨H₀, S, w, ρ, G, E, hl, st, ht, ok⟩ =>
    lift_comp (n := (ls ++ fs).length) (by rw [List.length_append, (chk_ok B).lenF]) ⟨_, vRd ρ, _, st.fcO, st.rd, ht, fun p xs H' ds hp hp' s' d' q' => ok.nx _ _ H' _ (by rw [List.length_set]; exact hl) (st.set_ow (d := .lst ds) (by rw [hl]; exact ix_lt hx0) s' hp ⟨xs, hp', d'⟩) q'⟩
/-- .. which is only read from there on -/
theorem setCompR3 {i : Nat} {x : Str} {ls fs : List Str} {fr : List Nat} {sc : Scope} {tg iter elt : Expr} {ifs : List Expr} {pos spos pos' : Pos} {ti : WI} {g : GE} {tf : WT} {te : WE} (nd : X.N.Nodup) (hc : X.calm = true) (hi : PI3 X tg iter ti)
    (hg : ∀ cl C pn ex s H, (blk X (ls ++ fs) sc cl C pn ex s H).N.Nodup → PG4 (blk X (ls ++ fs) sc cl C pn ex s H) ls.length tg g) (hf : ∀ cl C pn ex s H, PIf3 (blk X (ls ++ fs) sc cl C pn ex s H) ifs tf) (he : ∀ cl C pn ex s H, PE3 (blk X (ls ++ fs) sc cl C pn ex s H) elt te)
    (hx0 : X.N[i]? = some x := by rfl) (hx : X.env.scope.names.lookup x = some .local := by rfl) (hsw : swapsWith (.ListComp elt [⟨tg, iter, ifs, 0⟩] sc pos) (some (.Name x pos')) spos.line X.env = pure true := by rfl)
    (B : chk X.env.scope.names sc X.N ls fs fr = true := by rfl) (hs : ∀ x, foldedSetIterable iter X.env x = pure x := by intro _; rfl) : PS3 X (.Assign [.Name x pos'] (.ListComp elt [⟨tg, iter, ifs, 0⟩] sc pos) spos) (wSet i (wComp ls.length fr ti g tf te)) :=
  impS (ps_setComp (g := liftGE X.K ls.length (ls ++ fs).length g) (tf := liftT X.K tf) (te := lift X.K te) nd hx0 hx hc (chk_ok B) hi (fun cl C pn ex s H => hg cl C pn ex s H (chk_ok B).nd) hf he hsw hs) fun Bd σ H ⟨H₀, S, w, ρ, G, E, hl, st, ht, ok⟩ =>
    lift_comp (n := (ls ++ fs).length) (by rw [List.length_append, (chk_ok B).lenF]) ⟨_, vRd ρ, _, st.fcO, st.rd, ht, fun p xs H' ds hp hp' s' d' q' => ok.nx w _ H' _ (by rw [List.length_set]; exact hl) ((st.same s').set_ro (d := .lst ds) (by rw [hl]; exact ix_lt hx0) (by simp only [Dn]; exact ⟨p, xs, rfl, hp', st.fcO p hp, Dns.fits (.mono fun _ z => z.1) _ _ d'⟩)) q'⟩
end
/-! ### readings of a comprehension -/
theorem compW_all {g : GE} {te : WE} {ρ : DEnv} (f : D → D) : ∀ (ds acc : List D) (Q : D → Prop), (∀ d ∈ ds, ∀ Q3 : D → Prop, Q3 (f d) → g d ρ fun ρ2 => te ρ2 Q3) → acc.length + ds.length ≤ sizeLine → Q (.lst (acc ++ ds.map f)) → compW g wTrue te ρ ds acc Q
  | [], acc, Q, _, _, q => by rw [compW]; simpa using q
  | d :: r, acc, Q, h, hz, q => by
    rw [compW]
    simp only [List.length_cons] at hz
    have e : (fun ρ2 => wTrue ρ2 fun b => if b = true then te ρ2 fun y => acc.length < sizeLine ∧ compW g wTrue te ρ r (acc ++ [y]) Q else compW g wTrue te ρ r acc Q) = fun ρ2 => te ρ2 fun y => acc.length < sizeLine ∧ compW g wTrue te ρ r (acc ++ [y]) Q := by
      funext ρ2
      simp [wTrue]
    rw [e]
    refine h d List.mem_cons_self _ ⟨by omega, compW_all f r (acc ++ [f d]) Q (fun d' hd => h d' (List.mem_cons_of_mem _ hd)) (by simp; omega) (by simpa using q)⟩
end L3

end
section
set_option Elab.async false
set_option linter.all false
set_option maxRecDepth 100000
set_option maxHeartbeats 4100000
namespace L3
open PySem PySem.Spec PyProof.Rows L2
section
variable {X : Cx}
/-! ### isinstance of a built-in type -/
def tyD : D → String
  | .non => "NoneType"
  | .bl _ => "bool"
  | .int _ => "int"
  | .str _ => "str"
  | .tup _ => "tuple"
  | .lst _ => "list"
  | .scr _ => "list"
  | .dic _ _ => "dict"
  | .dicT _ _ => "dict"
inductive Ty4 : String → Prop
  | t : Ty4 "tuple"
  | b : Ty4 "bool"
  | i : Ty4 "int"
  | s : Ty4 "str"
def isT (T : String) (d : D) : Bool := tyD d == T || (T == "int" && tyD d == "bool")
def rIsi (K : PySem.W.Frag) (T : String) : List V → Hp → VK → Prop := fun xs H Q => ∃ x t b, xs = [x, .ty T] ∧ (TyOf K H x t ∨ (t = .type "tuple" ∧ ∃ a ys, x = .ref a ∧ SqT K H a ys) ∨ (t = .type "list" ∧ ∃ a ys, x = .ref a ∧ SqL K H a ys)) ∧ PySem.W.kitOne K t (.type T) = some b ∧ Q (.bl b) H
theorem call_isi {T : String} : CallR X (.builtin "isinstance") (rIsi X.K T) := by
  intro pins s σ H xs us Q I r h
  obtain ⟨x, t, b, rfl, ty, e, q⟩ := h
  obtain ⟨u, w', rfl, r1, r2⟩ := vals2 r
  obtain rfl : w' = Value.type T := r2
  rcases ty with ty | ⟨rfl, a, ys, rfl, hq⟩ | ⟨rfl, a, ys, rfl, hq⟩
  · exact isinst_ok I r1 ty e fun tk => ⟨.bl b, H, I.tok tk, rfl, q⟩
  · cases r1
    obtain ⟨its, _, p, _⟩ := I.tuple hq
    obtain ⟨o, h1, h2, _⟩ := p
    exact PySem.W.kia_one PySem.W.kitx_tuple I.kIn ⟨o, h1, h2⟩ e (fun z => nomatch z) fun tk => ⟨.bl b, H, I.tok tk, rfl, q⟩
  · cases r1
    obtain ⟨its, _, p, _⟩ := I.list hq
    obtain ⟨o, n, h1, h2, _⟩ := p
    exact PySem.W.kia_one PySem.W.kitx_list I.kIn ⟨o, h1, h2⟩ e (fun z => nomatch z) fun tk => ⟨.bl b, H, I.tok tk, rfl, q⟩
def wIsi (T : String) (t : WE) : WE := fun ρ Q => t ρ fun d => Q (.bl (isT T d))
theorem kit4 {K : PySem.W.Frag} {T : String} (h : Ty4 T) (d : D) : PySem.W.kitOne K (.type (tyD d)) (.type T) = some (isT T d) := by
  cases h <;> cases d <;> with_unfolding_all rfl
theorem ty_of {K : PySem.W.Frag} {S : Addr → Prop} {H : Hp} {d : D} {v : V} (h : Dn K S H d v) : ∃ t, t = Value.type (tyD d) ∧ (TyOf K H v t ∨ (t = .type "tuple" ∧ ∃ a ys, v = .ref a ∧ SqT K H a ys) ∨ (t = .type "list" ∧ ∃ a ys, v = .ref a ∧ SqL K H a ys)) := by
  refine ⟨_, rfl, ?_⟩
  cases d <;> simp only [Dn] at h
  · subst h; exact .inl .non
  · subst h; exact .inl (.bl _)
  · subst h; exact .inl (.int _)
  · subst h; exact .inl (.str _)
  · obtain ⟨a, xs, rfl, hq, _⟩ := h; exact .inr (.inl ⟨rfl, a, xs, rfl, hq⟩)
  · obtain ⟨a, xs, rfl, hq, _⟩ := h; exact .inl (.lst hq)
  · obtain ⟨a, rfl, hq⟩ := h; exact .inr (.inr ⟨rfl, a, _, rfl, hq.sq⟩)
  · obtain ⟨a, xs, rfl, hq, _⟩ := h; exact .inl (.dK hq)
  · obtain ⟨a, xs, rfl, hq, _⟩ := h; exact .inl (.dT hq)
theorem isi3 {T : String} {x : Str} {e : Expr} {t : WE} {p p2 pos : Pos} (hT : Ty4 T) (hm : X.mg "isinstance" = none) (hmT : X.mg x = none) (hv : bootBuiltins x = some (.type T)) (he : PE3 X e t) (hg : Gl X "isinstance" := by rfl) (hgT : Gl X x := by rfl) (hn : x ≠ "__name__" := by decide) (hdb : (x == ("__debug__" : Str)) = false := by decide)
    (hs : starEach [e, .Name x p2] X.env = (false, eval e X.env) :: starEach [.Name x p2] X.env := by rfl) (hs2 : starEach [.Name x p2] X.env = (false, eval (.Name x p2) X.env) :: starEach [] X.env := by rfl) (hpl : (backTo pos (starEach [.Name x p2] X.env)).any (·.1) = false := by rfl) :
    PE3 X (.Call (.Name "isinstance" p) [e, .Name x p2] [] pos) (wIsi T t) :=
  imp (pe_callB (call_isi (T := T)) hg hm PyProof.Rows.boot_isinstance (pa_cons he (pa_cons (pe_bltn (v := .ty T) hgT hmT hv rfl hn hdb) pa_nil hs2) hs) (by decide) (by decide) hs hpl) fun σ H Q ⟨S, ρ, Q3, fc, sl, ht, k⟩ => by
    refine ⟨S, ρ, _, fc, sl, ht, fun v H1 d s1 d1 q1 => ?_⟩
    obtain ⟨tt, e1, e2⟩ := ty_of d1
    refine ⟨v, tt, isT T d, rfl, e2, ?_, k _ H1 (.bl _) s1 (by simp only [Dn]) q1⟩
    rw [e1]; exact kit4 hT d
/-! ### all, any of a list of truths -/
def blsOf : List D → Option (List Bool)
  | [] => some []
  | .bl b :: r => (blsOf r).map (b :: ·)
  | _ :: _ => none
theorem blsOf_map : ∀ bs : List Bool, blsOf (bs.map D.bl) = some bs
  | [] => rfl
  | b :: bs => by rw [List.map_cons, blsOf, blsOf_map bs]; rfl
theorem blsOf_of : ∀ {ds : List D} {bs : List Bool}, blsOf ds = some bs → ds = bs.map D.bl
  | [], bs, h => by cases h; rfl
  | .bl b :: r, bs, h => by
    rw [blsOf] at h
    cases q : blsOf r with
    | none => rw [q] at h; cases h
    | some cs => rw [q] at h; cases h; rw [List.map_cons, blsOf_of q]
  | .non :: r, bs, h => by cases h
  | .int _ :: r, bs, h => by cases h
  | .str _ :: r, bs, h => by cases h
  | .tup _ :: r, bs, h => by cases h
  | .lst _ :: r, bs, h => by cases h
  | .scr _ :: r, bs, h => by cases h
  | .dic _ _ :: r, bs, h => by cases h
  | .dicT _ _ :: r, bs, h => by cases h
theorem Dns.bls {K : PySem.W.Frag} {S : Addr → Prop} {H : Hp} : ∀ {bs : List Bool} {xs : List V}, Dns K S H (bs.map D.bl) xs → xs = bs.map V.bl
  | [], xs, h => by simpa [Dns] using h
  | b :: bs, xs, h => by
    rw [List.map_cons] at h ⊢
    obtain ⟨v, r, e, h1, h2⟩ := h.uncons
    simp only [Dn] at h1
    rw [e, h1, Dns.bls h2]
theorem vals_bls : ∀ {bs : List Bool} {us : List Value}, Vals (bs.map V.bl) us → us = bs.map Value.bool
  | [], _, .nil => rfl
  | b :: bs, u :: us, .cons r t => by rw [show u = Value.bool b from r, vals_bls t]; rfl
theorem range_all (bs : List Bool) : (List.range bs.length).all (fun i => bs.getD i true) = bs.all id := by
  induction bs with
  | nil => rfl
  | cons b bs ih => rw [List.length_cons, List.range_succ_eq_map, List.all_cons, List.all_map, List.all_cons, ← ih]; rfl
theorem range_any (bs : List Bool) : (List.range bs.length).any (fun i => bs.getD i true) = bs.any id := by
  induction bs with
  | nil => rfl
  | cons b bs ih => rw [List.length_cons, List.range_succ_eq_map, List.any_cons, List.any_map, List.any_cons, ← ih]; rfl
def rBls (f : List Bool → Bool) : List V → Hp → VK → Prop := fun xs H Q => ∃ a bs, xs = [.ref a] ∧ H a = some (.lst (bs.map V.bl)) ∧ Q (.bl (f bs)) H
theorem truth_bls {prog : Program} {w : World} {A : Around} {bs : List Bool} : TruthOf prog w A (fun i v => (bs.map Value.bool).toArray[i]? = some v) (fun i => bs.getD i true) := by
  intro i v s Q E hP hQ
  have e : (bs.map Value.bool)[i]? = some v := by simpa using hP
  rw [List.getElem?_map] at e
  cases q : bs[i]? with
  | none => rw [q] at e; cases e
  | some b =>
    rw [q] at e
    cases e
    refine wpAny_truthy_bool ?_
    have : bs.getD i true = b := by rw [List.getD_eq_getElem?_getD, q]; rfl
    have hQ : Q (bs.getD i true) s := hQ
    rw [this] at hQ; exact hQ
theorem call_all3 (hc : X.calm = true) : CallR X (.builtin "all") (rBls fun bs => bs.all id) := by
  intro pins s σ H xs us Q I r h
  obtain ⟨a, bs, rfl, ha, q⟩ := h
  obtain ⟨u, rfl, ru⟩ := vals1 r
  cases ru
  obtain ⟨its, rv, p, hz⟩ := I.list (SqL.of ha)
  have e := vals_bls rv
  subst e
  refine call_all_walk (wpAny_pyIter_list p.isList ?_)
  have hlt : a < s.heap.objs.size := by obtain ⟨o, n, e, _⟩ := p; exact Heap.lt_size e
  refine ⟨s.heap.objs.size, _, _, _, _, _, fun i => bs.getD i true, rfl, Walks.list (A := X.A.in1) (show X.A.in1.handled = none from I.ok.hd hc) s.heap.objs.size a (Nat.ne_of_lt hlt) _, ⟨⟨_, Heap.get?_push_size _ rfl, rfl, rfl⟩, p.isList.at fun o e => Heap.get?_push_of_some _ e⟩, truth_bls, fun h' tk hk => ?_⟩
  have I1 : Inv X pins σ H { s with heap := h', toks := tk } := I.kept fun b o e => hk b o (by simp; exact Nat.ne_of_lt (Heap.lt_size e)) (Heap.get?_push_of_some _ e)
  refine ⟨.bl _, H, I1, rfl, ?_⟩
  have e : (List.map Value.bool bs).toArray.size = bs.length := by simp
  rw [e, range_all]
  exact q
theorem call_any3 (hc : X.calm = true) : CallR X (.builtin "any") (rBls fun bs => bs.any id) := by
  intro pins s σ H xs us Q I r h
  obtain ⟨a, bs, rfl, ha, q⟩ := h
  obtain ⟨u, rfl, ru⟩ := vals1 r
  cases ru
  obtain ⟨its, rv, p, hz⟩ := I.list (SqL.of ha)
  have e := vals_bls rv
  subst e
  refine call_any_walk (wpAny_pyIter_list p.isList ?_)
  have hlt : a < s.heap.objs.size := by obtain ⟨o, n, e, _⟩ := p; exact Heap.lt_size e
  refine ⟨s.heap.objs.size, _, _, _, _, _, fun i => bs.getD i true, rfl, Walks.list (A := X.A.in1) (show X.A.in1.handled = none from I.ok.hd hc) s.heap.objs.size a (Nat.ne_of_lt hlt) _, ⟨⟨_, Heap.get?_push_size _ rfl, rfl, rfl⟩, p.isList.at fun o e => Heap.get?_push_of_some _ e⟩, truth_bls, fun h' tk hk => ?_⟩
  have I1 : Inv X pins σ H { s with heap := h', toks := tk } := I.kept fun b o e => hk b o (by simp; exact Nat.ne_of_lt (Heap.lt_size e)) (Heap.get?_push_of_some _ e)
  refine ⟨.bl _, H, I1, rfl, ?_⟩
  have e : (List.map Value.bool bs).toArray.size = bs.length := by simp
  rw [e, range_any]
  exact q
def blF (f : List Bool → Bool) : F1
  | [.lst ds], Q => (match blsOf ds with | some bs => Q (.bl (f bs)) | none => False)
  | _, _ => False
theorem c3_bls {K : PySem.W.Frag} {f : List Bool → Bool} : C3 K (rBls f) (blF f) := by
  intro S H xs ds Q3 Q fc hd hf k
  match ds, hf with
  | [.lst es], hf =>
    obtain ⟨v, r, rfl, h1, h2⟩ := hd.uncons
    simp only [Dns] at h2
    subst h2
    simp only [Dn] at h1
    obtain ⟨a, ys, rfl, ha, sa, da⟩ := h1
    have hf2 : (match blsOf es with | some bs => Q3 (.bl (f bs)) | none => False) := hf
    clear hf
    cases q : blsOf es with
    | none => rw [q] at hf2; exact hf2.elim
    | some bs =>
      rw [q] at hf2
      have e := blsOf_of q
      subst e
      have e2 := Dns.bls da
      subst e2
      exact ⟨a, bs, rfl, ha, k _ H _ (Same.refl H) (by simp only [Dn]) hf2⟩
theorem all3 {p pos : Pos} {e : Expr} {t : WA} (hc : X.calm = true) (hm : X.mg "all" = none) (ha : PA3 X [e] t) (hg : Gl X "all" := by rfl)
    (he : starEach [e] X.env = (false, eval e X.env) :: starEach [] X.env := by rfl) : PE3 X (.Call (.Name "all" p) [e] [] pos) (wCB (blF fun bs => bs.all id) t) := callB3 (call_all3 hc) c3_bls PyProof.Rows.boot_all hg hm ha (by decide) (by decide) he (by rfl)
theorem any3 {p pos : Pos} {e : Expr} {t : WA} (hc : X.calm = true) (hm : X.mg "any" = none) (ha : PA3 X [e] t) (hg : Gl X "any" := by rfl)
    (he : starEach [e] X.env = (false, eval e X.env) :: starEach [] X.env := by rfl) : PE3 X (.Call (.Name "any" p) [e] [] pos) (wCB (blF fun bs => bs.any id) t) := callB3 (call_any3 hc) c3_bls PyProof.Rows.boot_any hg hm ha (by decide) (by decide) he (by rfl)
/-! ### sorted of a list of ints -/
def rSort : List V → Hp → VK → Prop := fun xs H Q => ∃ a ns, xs = [.ref a] ∧ H a = some (.lst (ns.map V.int)) ∧ ns.length < 64 ∧ ∀ ns' : List Int, ns'.Perm ns → ns'.Pairwise (· ≤ ·) → ∀ p, H p = none → Q (.ref p) (upd H p (.lst (ns'.map V.int)))
theorem call_sorted3 : CallR X (.builtin "sorted") rSort := by
  intro pins s σ H xs us Q I r h
  obtain ⟨a, ns, rfl, ha, h64, q⟩ := h
  obtain ⟨u, rfl, ru⟩ := vals1 r
  cases ru
  obtain ⟨its, rv, p, hz⟩ := I.list (SqL.of ha)
  have hi := intsAre_of rv
  have hlen : its.length = ns.length := by have := rv.length; rw [List.length_map] at this; exact this.symm
  refine sorted_ints p.isList hi (by omega) fun out ns' a1 a2 a3 => ?_
  have hfr : H (s.heap.objs.size + 1) = none := I.hok.fresh (Nat.le_succ _)
  obtain ⟨e1, hat⟩ := sortedAll_at s.heap its out
  have hz2 : ns'.length ≤ sizeLine := by rw [a2.length_eq, sizeLine_eq]; omega
  have I1 : Inv X pins σ (upd H (s.heap.objs.size + 1) (.lst (ns'.map V.int))) { s with heap := sortedAll s.heap its out } :=
    I.laid (t' := s.toks) (fun b o e => sortedAll_old e) (Nat.le_succ _) ⟨by rw [List.length_map]; exact hz2, out.toList, e1, vals_ints a1, by simpa [seqObj] using hat⟩
  exact ⟨.ref _, _, I1, rfl, q ns' a2 a3 _ hfr⟩
/-- the ints of a list -/
def intsOf : List D → Option (List Int)
  | [] => some []
  | .int b :: r => (intsOf r).map (b :: ·)
  | _ :: _ => none
theorem intsOf_map : ∀ bs : List Int, intsOf (bs.map D.int) = some bs
  | [] => rfl
  | b :: bs => by rw [List.map_cons, intsOf, intsOf_map bs]; rfl
theorem intsOf_of : ∀ {ds : List D} {bs : List Int}, intsOf ds = some bs → ds = bs.map D.int
  | [], bs, h => by cases h; rfl
  | .int b :: r, bs, h => by
    rw [intsOf] at h
    cases q : intsOf r with
    | none => rw [q] at h; cases h
    | some cs => rw [q] at h; cases h; rw [List.map_cons, intsOf_of q]
  | .non :: r, bs, h => by cases h
  | .bl _ :: r, bs, h => by cases h
  | .str _ :: r, bs, h => by cases h
  | .tup _ :: r, bs, h => by cases h
  | .lst _ :: r, bs, h => by cases h
  | .scr _ :: r, bs, h => by cases h
  | .dic _ _ :: r, bs, h => by cases h
  | .dicT _ _ :: r, bs, h => by cases h
def sortF : F1
  | [.lst ds], Q => (match intsOf ds with | some ns => ns.length < 64 ∧ ∀ ns' : List Int, ns'.Perm ns → ns'.Pairwise (· ≤ ·) → Q (.lst (ns'.map D.int)) | none => False)
  | _, _ => False
theorem c3_sort {K : PySem.W.Frag} : C3F K rSort sortF := by
  intro S H xs ds Q3 Q fc hd hf k
  match ds, hf with
  | [.lst es], hf =>
    obtain ⟨v, r, rfl, h1, h2⟩ := hd.uncons
    simp only [Dns] at h2
    subst h2
    simp only [Dn] at h1
    obtain ⟨a, ys, rfl, ha, sa, da⟩ := h1
    have hf2 : (match intsOf es with | some ns => ns.length < 64 ∧ ∀ ns' : List Int, ns'.Perm ns → ns'.Pairwise (· ≤ ·) → Q3 (.lst (ns'.map D.int)) | none => False) := hf
    clear hf
    cases q : intsOf es with
    | none => rw [q] at hf2; exact hf2.elim
    | some ns =>
      rw [q] at hf2
      have e := intsOf_of q
      subst e
      have e2 := Dns.ints.mp da
      subst e2
      exact ⟨a, ns, rfl, ha, hf2.1, fun ns' h1 h2 p hp => k p _ _ _ hp upd_same (same_upd hp) (Dns.ints.mpr rfl) (hf2.2 ns' h1 h2)⟩
theorem sorted3 {p pos : Pos} {e : Expr} {t : WA} (hm : X.mg "sorted" = none) (ha : PA3 X [e] t) (hg : Gl X "sorted" := by rfl)
    (he : starEach [e] X.env = (false, eval e X.env) :: starEach [] X.env := by rfl) : PF3 X (.Call (.Name "sorted" p) [e] [] pos) (wCB sortF t) := callBF3 call_sorted3 c3_sort PyProof.Rows.boot_sorted hg hm ha (by decide) (by decide) he (by rfl)
end
end L3

end
section
set_option Elab.async false
set_option linter.all false
namespace L3
open PySem PySem.Spec PyProof.Rows L2
section
variable {i j : Int} {a b : List D} {Q : D → Prop}
theorem addF_int : addF (.int i) (.int j) Q = Q (.int (i + j)) := rfl
theorem addF_lst : addF (.lst a) (.lst b) Q = (a.length + b.length ≤ sizeLine ∧ Q (.lst (a ++ b))) := rfl
theorem addF_tup : addF (.tup a) (.tup b) Q = (a.length + b.length ≤ sizeLine ∧ Q (.tup (a ++ b))) := rfl
theorem catF_lst : catF (.lst a) (.lst b) Q = (a.length + b.length ≤ sizeLine ∧ Q (.lst (a ++ b))) := rfl
theorem subF_int : subF (.int i) (.int j) Q = Q (.int (i - j)) := rfl
theorem mulF_int : mulF (.int i) (.int j) Q = (CMul i j ∧ Q (.int (i * j))) := rfl
theorem modF_int : modF (.int i) (.int j) Q = (0 < j ∧ Q (.int (i % j))) := rfl
theorem divF_int : divF (.int i) (.int j) Q = (CDiv i j ∧ Q (.int (i / j))) := rfl
theorem powF_int : powF (.int i) (.int j) Q = (CPow i j ∧ Q (.int (i ^ j.toNat))) := rfl
theorem ltF_int : ltF (.int i) (.int j) Q = Q (.bl (decide (i < j))) := rfl
theorem leF_int : leF (.int i) (.int j) Q = Q (.bl (decide (i ≤ j))) := rfl
theorem gtF_int : gtF (.int i) (.int j) Q = Q (.bl (decide (i > j))) := rfl
theorem geF_int : geF (.int i) (.int j) Q = Q (.bl (decide (i ≥ j))) := rfl
theorem cmpF_int {g : Int → Int → D} : intF0 g (.int i) (.int j) Q = Q (g i j) := rfl
theorem eqSF_int : eqSF (.int i) (.int j) Q = Q (.bl (decide (i = j))) := by simp [eqSF, scalD, eqS]
theorem neSF_int : neSF (.int i) (.int j) Q = Q (.bl (!decide (i = j))) := by simp [neSF, scalD, eqS]
theorem eqSF_bl {i j : Bool} : eqSF (.bl i) (.bl j) Q = Q (.bl (decide (i = j))) := by simp [eqSF, scalD, eqS]
theorem inF_tup {neg : Bool} {ns : List Int} : inF neg (.int i) (.tup (ns.map D.int)) Q = Q (.bl (if neg then !ns.contains i else ns.contains i)) := by simp [inF, allI_ints, memI_ints]
theorem inF_lst {neg : Bool} {ns : List Int} : inF neg (.int i) (.lst (ns.map D.int)) Q = Q (.bl (if neg then !ns.contains i else ns.contains i)) := by simp [inF, allI_ints, memI_ints]
theorem ixF_lst : ixF (.lst a) (.int i) Q = (match atI a i with | some d => Q d | none => False) := rfl
theorem ixF_tup : ixF (.tup a) (.int i) Q = (match atI a i with | some d => Q d | none => False) := rfl
theorem ixF_scr {ns : List Int} : ixF (.scr ns) (.int i) Q = (match atI ns i with | some n => Q (.int n) | none => False) := rfl
theorem lenF_lst : lenF [.lst a] Q = Q (.int a.length) := rfl
theorem lenF_tup : lenF [.tup a] Q = Q (.int a.length) := rfl
theorem lenF_scr {ns : List Int} : lenF [.scr ns] Q = Q (.int ns.length) := rfl
theorem tupleF_lst : tupleF [.lst a] Q = Q (.tup a) := rfl
theorem tupleF_tup : tupleF [.tup a] Q = Q (.tup a) := rfl
theorem listF_lst : listF [.lst a] Q = Q (.lst a) := rfl
theorem listF_tup : listF [.tup a] Q = Q (.lst a) := rfl
theorem sortF_ints {ns : List Int} : sortF [.lst (ns.map D.int)] Q = (ns.length < 64 ∧ ∀ ns' : List Int, ns'.Perm ns → ns'.Pairwise (· ≤ ·) → Q (.lst (ns'.map D.int))) := by simp [sortF, intsOf_map]
theorem blF_bls {f : List Bool → Bool} {bs : List Bool} : blF f [.lst (bs.map D.bl)] Q = Q (.bl (f bs)) := by simp [blF, blsOf_map]
/-- an item at a place that is there -/
theorem atI_ok {α : Type} {xs : List α} {i : Int} (h0 : 0 ≤ i) (h1 : i < xs.length) : ∃ x, atI xs i = some x ∧ xs[i.toNat]? = some x := by
  have hk : i.toNat < xs.length := by omega
  refine ⟨xs[i.toNat], ?_, by simp [hk]⟩
  unfold atI ixN
  rw [if_pos h0, if_pos h1]
  simp [hk]
theorem ixN_ok {n : Nat} {i : Int} (h0 : 0 ≤ i) (h1 : i < n) : ixN n i = some i.toNat := by
  unfold ixN
  rw [if_pos h0, if_pos h1]
end
/-! ### loops -/
theorem for_intro {ti : WI} {g : WG} {tb : WS} {E : DE} {ρ : SEnv} (ds : List D) (Inv : Nat → SEnv → Prop) (hti : ∀ Q : List D → Prop, Q ds → ti (vRd ρ) Q) (h0 : Inv 0 ρ)
    (ht : ∀ (i : Nat) (d : D) (ρ' : SEnv), ds[i]? = some d → Inv i ρ' → g d ρ' fun ρ2 => tb { E with nx := Inv (i + 1), ct := Inv (i + 1), bk := E.nx } ρ2) (hf : ∀ ρ', Inv ds.length ρ' → E.nx ρ') : wFor ti g tb E ρ :=
  hti _ ⟨Inv, h0, ht, hf⟩
theorem for_rng {t : WA} {g : WG} {tb : WS} {E : DE} {ρ : SEnv} (n : Nat) (Inv : Nat → SEnv → Prop) (hn : n < 2 ^ 62) (hti : ∀ Q : List D → Prop, Q [.int (n : Int)] → t (vRd ρ) Q) (h0 : Inv 0 ρ)
    (ht : ∀ (i : Nat) (ρ' : SEnv), i < n → Inv i ρ' → g (.int (i : Int)) ρ' fun ρ2 => tb { E with nx := Inv (i + 1), ct := Inv (i + 1), bk := E.nx } ρ2) (hf : ∀ ρ', Inv n ρ' → E.nx ρ') : wFor (wRange t) g tb E ρ := by
  refine for_intro ((rngI 0 n).map D.int) Inv (fun Q q => hti _ ⟨⟨by omega, by omega⟩, by simpa using q⟩) h0 (fun i d ρ' e iv => ?_) (fun ρ' iv => hf ρ' (by rw [List.length_map, rngI_length] at iv; exact iv))
  rw [List.getElem?_map, rngI_get] at e
  by_cases h : i < n
  · rw [if_pos h] at e
    have e2 : d = .int (i : Int) := by
      have := Option.some.inj e
      rw [← this]; simp
    subst e2
    exact ht i ρ' h iv
  · rw [if_neg h] at e; cases e
end L3

end
section
set_option Elab.async false
set_option linter.all false
set_option maxRecDepth 100000
set_option maxHeartbeats 4100000
namespace L3
open PySem PySem.Spec PyProof.Rows L2
section
variable {X : Cx}
/-! ### list(range(n)) -/
theorem pe_range1 {a : Expr} {ta : TA} {p pos : Pos} (hg : Gl X "range") (hm : X.mg "range" = none) (ha : PA X [a] ta) (hs : starEach [a] X.env = [(false, eval a X.env)] := by rfl) :
    PE X (.Call (.Name "range" p) [a] [] pos) (fun σ H Q => ta σ H fun vs H1 => ∃ j : Int, vs = [.int j] ∧ ∀ p, H1 p = none → Q (.ref p) (upd H1 p (.rng 0 j))) := by
  intro pins s σ H Q I h
  refine Call_ (ld_blt I hg hm PyProof.Rows.boot_range (PyProof.Rows.callWith_type1 (thn (ha pos pins s σ H _ I h) fun us s1 ⟨vs, H1, I1, r1, q1⟩ => ?_) hs rfl))
  obtain ⟨j, e, q⟩ := q1
  subst e
  obtain ⟨u, rfl, ru⟩ := vals1 r1
  obtain ⟨t, rfl⟩ := ru
  refine call_range_1 ?_
  exact ⟨.ref s1.heap.objs.size, _, I1.laid (o := .rng 0 j) (fun b o e => Heap.get?_push_of_some _ e) (Nat.le_refl _) ⟨_, _, _, Heap.get?_push_size _ rfl⟩, rfl, q _ (I1.hok.fresh (Nat.le_refl _))⟩
theorem vals_rng {lo : Int} {n : Nat} {acc : Array Value} (h : ItemsOf (fun i v => ∃ t, v = .int (lo + (i : Nat) * 1) t) acc n) : Vals ((rngI lo n).map V.int) acc.toList := by
  obtain ⟨hz, hv⟩ := h
  have key : ∀ (l : List Value) (k : Nat) (m : Nat), l.length = m → (∀ (j : Nat) (v : Value), l[j]? = some v → ∃ t, v = Value.int (lo + ((k + j : Nat) : Int)) t) → Vals (((List.range' k m).map fun i : Nat => lo + (i : Int)).map V.int) l := by
    intro l
    induction l with
    | nil => intro k m hm _; subst hm; exact .nil
    | cons v l ih =>
      intro k m hm hh
      subst hm
      rw [List.length_cons, List.range'_succ, List.map_cons, List.map_cons]
      refine .cons ?_ (ih (k + 1) l.length rfl fun j w e => ?_)
      · obtain ⟨t, e⟩ := hh 0 v (by simp)
        exact ⟨t, by simpa using e⟩
      · obtain ⟨t, e2⟩ := hh (j + 1) w (by simpa using e)
        exact ⟨t, by rw [e2]; congr 1; congr 1; congr 1; omega⟩
  have := key acc.toList 0 n (by simpa using hz) fun j v e => by
    obtain ⟨t, e2⟩ := hv j v (by simpa using e)
    exact ⟨t, by rw [e2]; simp⟩
  unfold rngI
  rw [List.range_eq_range']
  exact this
theorem call_list_rng (hc : X.calm = true) : CallR X (.type "list") (fun xs H Q => ∃ p j, xs = [.ref p] ∧ H p = some (.rng 0 j) ∧ -(2 ^ 62) ≤ j ∧ j ≤ 16777216 ∧ ∀ l, H l = none → Q (.ref l) (upd H l (.lst ((rngI 0 j.toNat).map V.int)))) := by
  intro pins s σ H xs us Q I r h
  obtain ⟨p, j, rfl, hp, h0, h1, q⟩ := h
  obtain ⟨u, rfl, ru⟩ := vals1 r
  cases ru
  obtain ⟨t, u, v, e⟩ := I.hok p _ hp
  have hsz : Builtin.Range.rangeSize 0 j 1 = (j.toNat : Int) := by rw [rangeSize_one]; split <;> omega
  refine call_list_range (a := 0) (b := j) (c := 1) (n := j.toNat) (I.ok.hd hc) e (small_one (by omega) (by omega) (by omega) (by omega)) hsz (by omega) fun h' tk acc' c' kp hn hit => ?_
  have hfr : H s.heap.objs.size = none := I.hok.fresh (Nat.le_refl _)
  have hv : Vals ((rngI 0 j.toNat).map V.int) acc'.toList := vals_rng hit
  refine ⟨.ref s.heap.objs.size, _, I.laid (o := .lst ((rngI 0 j.toNat).map V.int)) kp (Nat.le_refl _) ⟨?_, acc'.toList, c', hv, by simpa using hn⟩, rfl, q _ hfr⟩
  rw [List.length_map, rngI_length, sizeLine_eq]
  omega
def wListR (t : WA) : WE := fun ρ Q => t ρ fun ds => match ds with
  | [.int j] => (-(2 ^ 62) ≤ j ∧ j ≤ 16777216) ∧ Q (.lst ((rngI 0 j.toNat).map D.int))
  | _ => False
theorem listRange3 {a : Expr} {t : WA} {p pos p2 pos2 : Pos} (hc : X.calm = true) (hm : X.mg "list" = none) (hmr : X.mg "range" = none) (ha : PA3 X [a] t) (hg : Gl X "list" := by rfl) (hgr : Gl X "range" := by rfl) (hs : starEach [a] X.env = [(false, eval a X.env)] := by rfl)
    (he : starEach [.Call (.Name "range" p2) [a] [] pos2] X.env = (false, eval (.Call (.Name "range" p2) [a] [] pos2) X.env) :: starEach [] X.env := by rfl) :
    PF3 X (.Call (.Name "list" p) [.Call (.Name "range" p2) [a] [] pos2] [] pos) (wListR t) :=
  imp (pe_callTy (call_list_rng hc) hg hm PyProof.Rows.boot_list (pa_cons (pe_range1 hgr hmr ha hs) pa_nil he) (by decide) (by decide) he (by rfl)) fun σ H Q ⟨S, ρ, Q3, fc, sl, ht, k⟩ => by
    refine ⟨S, ρ, _, fc, sl, ht, fun vs H1 ds s1 d1 q1 => ?_⟩
    split at q1
    · rename_i j
      obtain ⟨v, r, rfl, h1, h2⟩ := d1.uncons
      simp only [Dns] at h2
      subst h2
      simp only [Dn] at h1
      subst h1
      refine ⟨j, rfl, fun p hp => ⟨p, j, rfl, upd_same, q1.1.1, q1.1.2, fun l hl => ?_⟩⟩
      have hl1 : H1 l = none := (same_upd hp).free hl
      exact k l _ _ _ (s1.free hl1) upd_same ((s1.trans (same_upd hp)).trans (same_upd hl)) (Dns.ints.mpr rfl) q1.2
    · exact q1.elim
/-! ### a dict of ints or texts to values -/
def lookD (ks : List Key) (ds : List D) (k : Key) : Option D := ((ks.zip ds).find? fun kv => decide (kv.1 = k)).map (·.2)
theorem look_rel {K : PySem.W.Frag} {S : Addr → Prop} {H : Hp} {k : Key} : ∀ {ks : List Key} {ds : List D} {xs : List V}, ks.length = xs.length → Dns K S H ds xs →
    (∀ d, lookD ks ds k = some d → ∃ v, valV (ks.zip xs) k = some v ∧ Dn K S H d v) ∧ (lookD ks ds k = none → valV (ks.zip xs) k = none)
  | [], ds, xs, _, _ => by
    refine ⟨fun d e => ?_, fun _ => ?_⟩
    · simp [lookD] at e
    · simp [valV]
  | q :: ks, ds, xs, hl, dn => by
    cases ds with
    | nil => simp only [Dns] at dn; subst dn; simp at hl
    | cons d0 ds =>
      obtain ⟨v, r, rfl, h1, h2⟩ := dn.uncons
      have ih := look_rel (k := k) (ks := ks) (ds := ds) (xs := r) (by simpa using hl) h2
      by_cases e : q = k
      · refine ⟨fun d ed => ?_, fun ed => ?_⟩
        · simp only [lookD, List.zip_cons_cons, List.find?_cons, e, decide_true, Option.map_some] at ed
          cases ed
          exact ⟨v, by simp [valV, e], h1⟩
        · simp [lookD, e] at ed
      · refine ⟨fun d ed => ?_, fun ed => ?_⟩
        · have ed' : lookD ks ds k = some d := by simpa [lookD, e] using ed
          obtain ⟨u, eu, du⟩ := ih.1 d ed'
          exact ⟨u, by simpa [valV, e] using eu, du⟩
        · have ed' : lookD ks ds k = none := by simpa [lookD, e] using ed
          simpa [valV, e] using ih.2 ed'
/-- {}: one's own -/
theorem ownDict3 {i : Nat} {x : Str} {pos pos' p : Pos} (hN : X.N.Nodup) (hi : X.N[i]? = some x := by rfl) (hx : Loc X.env.scope x := by first | exact .inl rfl | exact .inr rfl) (hs : swapsWith (.Dict [] [] p) (some (.Name x pos')) pos.line X.env = pure false := by rfl) (hf : X.fn x = true ∨ X.env.scope.names.lookup x = some .local := by first | exact .inl rfl | exact .inr rfl) :
    PS3 X (.Assign [.Name x pos'] (.Dict [] [] p) pos) (fun E ρ => E.nx (ρ.set i (.ow (.dic [] [])))) := impS (ps_set hN hi hx pe_dnewK hs hf) fun B σ H ⟨H₀, S, w, ρ, G, E, hl, st, ht, ok⟩ => fun p hp =>
  ok.nx _ _ _ _ (by rw [List.length_set]; exact hl) (st.set_ow (d := .dic [] []) (by rw [hl]; exact ix_lt hi) (same_upd hp) hp ⟨[], upd_same, rfl, Dns.nil⟩) ht
def keyD : D → Option Key
  | .int i => some (.inl i)
  | .str x => some (.inr x)
  | _ => none
theorem key_dn {K : PySem.W.Frag} {S : Addr → Prop} {H : Hp} {d : D} {v : V} {k : Key} (h : Dn K S H d v) (e : keyD d = some k) : v = kV k := by
  cases d <;> simp only [keyD] at e <;> cases e <;> simp only [Dn] at h <;> exact h
/-- d[k] -/
def ixDF : F2 := fun x y Q => match x, keyD y with
  | .dic ks ds, some k => (match lookD ks ds k with | some d => Q d | none => False)
  | _, _ => False
theorem ixD3 {o i : Expr} {pos : Pos} {to ti : WE} (hu : X.A.units + 1 < cLine) (ho : PE3 X o to) (hi : PE3 X i ti) (hs : NoSl i := by intro _ _; rfl) : PE3 X (.Subscript o i pos) (wBin ixDF to ti) := imp (pe_dget hu ho hi hs) fun σ H Q ⟨S, ρ, Q3, fc, sl, ht, k⟩ => by
  refine ⟨S, ρ, _, fc, sl, ht, fun v H1 d s1 d1 q1 => ?_⟩
  refine ⟨S, ρ, _, fc_same fc s1, Sl.fits (.same s1) sl, q1, fun u H2 d2 s2 dn2 q2 => ?_⟩
  unfold ixDF at q2
  split at q2
  · rename_i ks ds kk ek
    have d1' := Dn.fits (.same s2) _ _ d1
    simp only [Dn] at d1'
    obtain ⟨a, xs, rfl, ha, sa, hl, da⟩ := d1'
    split at q2
    · rename_i d3 e3
      obtain ⟨v3, ev, dv⟩ := (look_rel hl da).1 d3 e3
      have eu := key_dn dn2 ek
      subst eu
      refine ⟨a, v3, rfl, ?_, k v3 H2 d3 (s1.trans s2) dv q2⟩
      have g := DGet.k (k := kk) ha
      rw [ev] at g
      exact g
    · exact q2.elim
  · exact q2.elim
/-- d[k] = e for a key that is not there yet -/
def wPutN (i : Nat) (t : WX) (tk : WE) : WS := fun E ρ => t ρ fun ρ' d => (match ρ'[i]? with | some (.ow (.dic _ _)) => True | _ => False) ∧ tk (vAll ρ') fun kd => match ρ'[i]?, keyD kd with
  | some (.ow (.dic ks ds)), some k => (lookD ks ds k = none ∧ ds.length < sizeLine) ∧ E.nx (ρ'.set i (.ow (.dic (ks ++ [k]) (ds ++ [d]))))
  | _, _ => False
theorem putN3 {i : Nat} {x : Str} {e k : Expr} {t : WX} {tk : WE} {pos pos' p : Pos} (hu : X.A.units + 1 < cLine) (he : PX3 X e t) (hk : PE3 X k tk)
    (hN : X.N[i]? = some x := by rfl) (hv : Vis X.env.scope x := by first | exact Or.inl rfl | exact Or.inr (Or.inl rfl) | exact Or.inr (Or.inr rfl)) (hd : (x == ("__debug__" : Str)) = false := by decide) (hcd : (x == ("__classdict__" : Str)) = false := by decide)
    (hs : swapsWith e (some (.Subscript (.Name x p) k pos')) pos.line X.env = pure false := by rfl) :
    PS3 X (.Assign [.Subscript (.Name x p) k pos'] e pos) (wPutN i t tk) := impS (ps_dput hu (pe_var hN hv hd hcd) hk he hs) fun B σ H ⟨H₀, S, w, ρ, G, E, hl, st, ht, ok⟩ => by
  refine ⟨H₀, S, w, ρ, G, _, hl, st, ht, fun w' v H' ρ' d st' d' q' => ?_⟩
  obtain ⟨q0, q'⟩ := q'
  split at q0
  · rename_i ks0 ds0 e0
    obtain ⟨a0, _, _⟩ := st'.own i _ e0
    refine ⟨_, a0, S, vAll ρ', _, st'.fcH, st'.all, q', fun kv H2 dk s2 dk2 q2 => ?_⟩
    split at q2
    · rename_i ks ds kk e1 ek
      have st2 := st'.same s2
      obtain ⟨a, b, c⟩ := st2.own i _ e1
      obtain ⟨xs, hp, hlen, dn⟩ := c
      have eu := key_dn dk2 ek
      subst eu
      have hno := (look_rel (k := kk) hlen dn).2 q2.1.1
      have nS : ¬ SO S w' ρ' (w' i) := fun ⟨_, z⟩ => z i _ e1 rfl
      have hz : (ks.zip xs).length < sizeLine := by
        rw [List.length_zip, hlen, Nat.min_self, ← dn.len]; exact q2.1.2
      have eput : putK (ks.zip xs) kk v = (ks ++ [kk]).zip (xs ++ [v]) := by
        rw [putK_new v hno, List.zip_append hlen]; rfl
      have F : Fits X.K (SO S w' ρ') (SO S w' ρ') H2 (upd H2 (w' i) (.dK (putK (ks.zip xs) kk v))) := .upd (.inr (.inl ⟨_, hp⟩)) nS
      refine ⟨w' i, _, rfl, DPut.k hp hz, ok.nx w' σ _ _ hl (st2.write (d' := .dic (ks ++ [kk]) (ds ++ [d])) e1 ⟨xs ++ [v], ?_, by simp [hlen], Dns.fits F _ _ (dn.append (Dns.one (Dn.fits (.same s2) _ _ d')))⟩) q2.2⟩
      rw [upd_same, eput]
    · exact q2.elim
  · exact q0.elim
/-! ### a new list that is only read, made while own lists stand -/
def wSetF (i : Nat) (t : WE) : WS := fun E ρ => t (vAll ρ) fun d => (match d with | .lst ds => imms ds = true | _ => False) ∧ E.nx (ρ.set i (.ro d))
theorem setF3 {i : Nat} {x : Str} {e : Expr} {t : WE} {pos pos' : Pos} (hN : X.N.Nodup) (he : PF3 X e t) (hi : X.N[i]? = some x := by rfl) (hx : Loc X.env.scope x := by first | exact .inl rfl | exact .inr rfl) (hs : swapsWith e (some (.Name x pos')) pos.line X.env = pure false := by rfl) (hf : X.fn x = true ∨ X.env.scope.names.lookup x = some .local := by first | exact .inl rfl | exact .inr rfl) :
    PS3 X (.Assign [.Name x pos'] e pos) (wSetF i t) := impS (ps_set hN hi hx he hs hf) fun B σ H ⟨H₀, S, w, ρ, G, E, hl, st, ht, ok⟩ =>
  ⟨_, vAll ρ, _, st.fcH, st.all, ht, fun p xs H' ds hp hp' s' d' q' => ok.nx w _ H' _ (by rw [List.length_set]; exact hl) ((st.same s').set_ro (d := .lst ds) (by rw [hl]; exact ix_lt hi) (by simp only [Dn]; exact ⟨p, xs, rfl, hp', st.fcO p hp, Dns.imm q'.1 d'⟩)) q'.2⟩
/-! ### while -/
def wWhile (c : WT) (tb : WS) : WS := fun E ρ => ∃ (Inv : SEnv → Prop) (μ : SEnv → Nat), Inv ρ ∧ ∀ ρ', Inv ρ' → c (vAll ρ') fun b => if b = true then tb { E with nx := fun ρ2 => Inv ρ2 ∧ μ ρ2 < μ ρ', ct := fun ρ2 => Inv ρ2 ∧ μ ρ2 < μ ρ', bk := E.nx } ρ' else E.nx ρ'
theorem while3 {c : Expr} {body : List Stmt} {tc : WT} {tb : WS} {pos : Pos} (hp : PassesOwn (model X.prog X.w) X.A X.env X.xe) (hc : PT3 X c tc) (hb : PSs3 X body tb) : PS3 X (.While c body [] pos) (wWhile tc tb) := impS (ps_while hp hc hb) fun B σ H ⟨H₀, S, w, ρ, G, E, hl, st, ⟨Iv, μ, h0, turn⟩, ok⟩ => by
  refine ⟨fun m σ H => ∃ w ρ, σ.length = X.N.length ∧ ST X.K H₀ S w σ H ρ G ∧ Iv ρ ∧ m = μ ρ, ⟨_, w, ρ, hl, st, h0, rfl⟩, ?_⟩
  rintro m σ2 H2 ⟨w2, ρ2, hl2, st2, iv, rfl⟩
  refine ⟨S, vAll ρ2, _, st2.fcH, st2.all, turn ρ2 iv, fun b H3 s3 q3 => ?_⟩
  cases b with
  | false => rw [if_neg Bool.false_ne_true] at q3 ⊢; exact ok.nx w2 σ2 H3 ρ2 hl2 (st2.same s3) q3
  | true =>
    rw [if_pos rfl] at q3 ⊢
    refine ⟨fun σ' H' => ∃ w ρ, σ'.length = X.N.length ∧ ST X.K H₀ S w σ' H' ρ G ∧ Iv ρ ∧ μ ρ < μ ρ2, fun σ' H' ⟨w', ρ', hl', st', iv', hm⟩ => ⟨_, hm, w', ρ', hl', st', iv', rfl⟩, ?_⟩
    exact ⟨H₀, S, w2, ρ2, G, _, hl2, st2.same s3, q3, ⟨fun w' σ' H' ρ' hl' st' q => ⟨w', ρ', hl', st', q.1, q.2⟩, fun v H' d s' d' q => ok.rt v H' d s' d' q, fun w' σ' H' ρ' hl' st' q => ok.nx w' σ' H' ρ' hl' st' q, fun w' σ' H' ρ' hl' st' q => ⟨w', ρ', hl', st', q.1, q.2⟩⟩⟩
/-! ### x.extend(e), x.pop() -/
def extF : List D → D → (List D → D → Prop) → Prop
  | ds, .lst es, Q => ds.length + es.length ≤ sizeLine ∧ Q (ds ++ es) .non
  | _, _, _ => False
theorem m3_ext {K : PySem.W.Frag} : M3 K rExtend extF := by
  intro S H p xs ds y d Q3 Q hp dn dy hf k
  cases d with
  | lst es =>
    simp only [Dn] at dy
    obtain ⟨b, zs, rfl, hb, sb, db⟩ := dy
    exact ⟨p, b, xs, zs, rfl, rfl, hp, hb, by rw [← dn.len, ← db.len]; exact hf.1, k _ _ _ _ (dn.append db) (by simp only [Dn]) hf.2⟩
  | _ => exact hf.elim
section
variable {i : Nat} {x : Str} {e : Expr} {p apos cpos : Pos} {t : WX}
theorem extend3 (he : PX3 X e t) (hN : X.N[i]? = some x := by rfl) (hv : Vis X.env.scope x := by first | exact Or.inl rfl | exact Or.inr (Or.inl rfl) | exact Or.inr (Or.inr rfl)) (hd : (x == ("__debug__" : Str)) = false := by decide) (hcd : (x == ("__classdict__" : Str)) = false := by decide)
    (hbase : attributeBase (.Name x p) "extend" X.env (eval (.Name x p) X.env) = eval (.Name x p) X.env := by rfl)
    (hfew : ((backTo cpos (starEach [e] X.env)).all (fun x => !x.1) && (backToKw cpos (keywordEach [] X.env)).all (fun x => x.1.isSome)
      && decide ([e].length + ([] : List Keyword).length + (if ([] : List Keyword).isEmpty then 0 else 1) < 30)) = true := by rfl)
    (hline : (apos.endLine == cpos.line) = true := by rfl) (hs : starEach [e] X.env = (false, eval e X.env) :: starEach [] X.env := by rfl) :
    PX3 X (.Call (.Attribute (.Name x p) "extend" apos) [e] [] cpos) (wM1 i extF t) := m1 PySem.F.slot_list_extend PySem.F.type_list_extend mt_extend m3_ext he hN hv hd hcd hbase hfew hline hs
/-- x.pop(): the last one -/
def wPop0 (i : Nat) : WX := fun ρ Q => match ρ[i]? with
  | some (.ow (.lst ds)) => (match ds[ds.length - 1]? with | some d => Q (ρ.set i (.ow (.lst ds.dropLast))) d | none => False)
  | _ => False
theorem Dns.dropLast {K : PySem.W.Frag} {S : Addr → Prop} {H : Hp} {ds : List D} {xs : List V} (h : Dns K S H ds xs) : Dns K S H ds.dropLast xs.dropLast := by
  rw [← erase_last, ← erase_last, ← h.len]
  exact h.erase _
theorem pop03 (hN : X.N[i]? = some x := by rfl) (hv : Vis X.env.scope x := by first | exact Or.inl rfl | exact Or.inr (Or.inl rfl) | exact Or.inr (Or.inr rfl)) (hd : (x == ("__debug__" : Str)) = false := by decide) (hcd : (x == ("__classdict__" : Str)) = false := by decide)
    (hbase : attributeBase (.Name x p) "pop" X.env (eval (.Name x p) X.env) = eval (.Name x p) X.env := by rfl) (hline : (apos.endLine == cpos.line) = true := by rfl) :
    PX3 X (.Call (.Attribute (.Name x p) "pop" apos) [] [] cpos) (wPop0 i) :=
  imp (pe_bm0 PySem.F.plainAttrs_list PySem.F.slot_list_pop PySem.F.type_list_pop mt_pop (pe_var hN hv hd hcd) hbase hline) fun σ H Q ⟨H₀, S, w, ρ, G, Q3, hl, st, ht, k⟩ => by
    unfold wPop0 at ht
    split at ht
    · rename_i ds e
      split at ht
      · rename_i d ed
        obtain ⟨a, b, c⟩ := st.own i _ e
        obtain ⟨xs, hp, dn⟩ := c
        obtain ⟨v, ev, dv⟩ := dn.get ed
        have nS : ¬ SO S w ρ (w i) := fun ⟨_, z⟩ => z i _ e rfl
        have F : Fits X.K (SO S w ρ) (SO S w ρ) H (upd H (w i) (.lst xs.dropLast)) := .upd (.inl ⟨_, hp⟩) nS
        have so : ∀ a, SO S w ρ a → SO S w (ρ.set i (.ow (.lst ds.dropLast))) a := SO.mono fun j f hf => by
          rcases get_set hf with ⟨hj, _, _⟩ | ⟨_, z⟩
          · subst hj; exact ⟨_, e⟩
          · exact ⟨_, z⟩
        refine ⟨_, a, .inl ⟨rfl, xs, SqL.of hp⟩, w i, xs, v, rfl, rfl, hp, by rw [← dn.len]; exact ev, ?_⟩
        exact k w v _ _ d (st.write (d' := .lst ds.dropLast) e ⟨_, upd_same, Dns.fits F _ _ dn.dropLast⟩) (Dn.fits (F.trans (.mono so)) _ _ dv) ht
      · exact ht.elim
    · exact ht.elim
end
end
end L3

end
section
set_option Elab.async false
set_option linter.all false
set_option maxRecDepth 100000
set_option maxHeartbeats 4100000
namespace L3
open PySem PySem.Spec PyProof.Rows L2
/-! ### iterators that tell tuples -/
section
variable {X : Cx} {pins : List (Addr × Obj)} {σ : L2.St} {H : Hp} {s : Shared} {h' : Heap}
/-- an iterator's own objects turn, and a tuple is laid at T -/
theorem turnT {t' : Nat} {ch : List Addr} {T : Addr} {xs : List V} {its : List Value} (I : Inv X pins σ H s) (k : ∀ b o, b ∉ ch → s.heap.get? b = some o → h'.get? b = some o) (hf : ∀ b ∈ ch, FpOk X pins H b)
    (hT : s.heap.objs.size ≤ T) (hv : Vals xs its) (hz : xs.length ≤ sizeLine) (ht : IsTup h' T its.toArray) : Inv X pins σ (upd H T (.tup xs)) { s with heap := h', toks := t' } := by
  have fr : H T = none := I.hok.fresh hT
  have nT : ∀ {b : Addr} {o : Obj}, s.heap.get? b = some o → b ≠ T := fun {b} {o} e z => Nat.lt_irrefl _ (Nat.lt_of_lt_of_le (Heap.lt_size e) (z ▸ hT))
  have live : ∀ {b : Addr} {u : HO}, H b = some u → b ∉ ch := fun {b} {u} e z => by rw [(hf _ z).1] at e; cases e
  refine I.call' (s' := { s with heap := h', toks := t' }) (ch := ch) rfl ⟨fun b o e _ _ hx => k b o hx e, fun b o e _ _ hx => ⟨o.slots, k b o hx e⟩, fun b o e n _ => by rw [upd_ne (nT e)]; exact n, fun b o e hx => ⟨o, k b o hx e⟩,
    fun b ys e => by rw [upd_ne (ne_of_none e fr)]; exact e, fun b o u e => by rw [upd_ne (ne_of_none e fr)]; exact e, fun b ps e => ⟨#[], by rw [upd_ne (ne_of_none e fr), e]; simp⟩⟩ ?_ I.bare fun b hb => ?_
  · intro b u e
    by_cases hb : b = T
    · subst hb; rw [upd_same] at e; cases e; exact ⟨hz, its, hv, ht⟩
    · rw [upd_ne hb] at e
      refine (I.hok b u e).stay (fun c v hc q => k c v ?_ q) (fun c q => by rw [upd_ne (ne_of_none q fr)]; exact q) fun c ys q => by rw [upd_ne (ne_of_none q fr)]; exact q
      rcases hc with rfl | hc
      · exact live e
      · exact live hc
  · obtain ⟨_, f1, _, f3, f4, f5⟩ := hf b hb
    exact ⟨f3, f1, f4, f5⟩
/-- they turn, and nothing else -/
theorem turnM {t' : Nat} {ch : List Addr} (I : Inv X pins σ H s) (k : ∀ b o, b ∉ ch → s.heap.get? b = some o → h'.get? b = some o) (hf : ∀ b ∈ ch, FpOk X pins H b) : Inv X pins σ H { s with heap := h', toks := t' } := by
  have live : ∀ {b : Addr} {u : HO}, H b = some u → b ∉ ch := fun {b} {u} e z => by rw [(hf _ z).1] at e; cases e
  refine I.call' (s' := { s with heap := h', toks := t' }) (ch := ch) rfl ⟨fun b o e _ _ hx => k b o hx e, fun b o e _ _ hx => ⟨o.slots, k b o hx e⟩, fun b o e n _ => n, fun b o e hx => ⟨o, k b o hx e⟩,
    fun b ys e => e, fun b o u e => e, fun b ps e => ⟨#[], by rw [e]; simp⟩⟩ ?_ I.bare fun b hb => ?_
  · intro b u e
    refine (I.hok b u e).stay (fun c v hc q => k c v ?_ q) (fun c q => q) fun c ys q => q
    rcases hc with rfl | hc
    · exact live e
    · exact live hc
  · obtain ⟨_, f1, _, f3, f4, f5⟩ := hf b hb
    exact ⟨f3, f1, f4, f5⟩
end
/-- what such an iterator tells -/
def Itp (go : Nat → Hp → Prop) (Y : Nat → Hp → List V → Prop) (stop : Nat → Hp → Prop) : It := ⟨go, fun i H x H' => ∃ T vs, x = .ref T ∧ H T = none ∧ H' = upd H T (.tup vs) ∧ Y i H vs, stop⟩
theorem turn_pairs {P : Program} {w : World} {K : PySem.W.Frag} {es : List Expr} {kk : Nat} {tp : Pos} {go : Nat → Hp → Prop} {Y : Nat → Hp → List V → Prop} {stop : Nat → Hp → Prop} {fp : List Addr} {it : Addr} {tn : Nat → Heap → Prop} (mem : it ∈ fp)
    (obj : ∀ i h, tn i h → ∀ b ∈ fp, ∃ o, h.get? b = some o ∧ ∀ v, o.data ≠ .cell v) (keep : ∀ i h h', tn i h → (∀ b ∈ fp, ∀ o, h.get? b = some o → h'.get? b = some o) → tn i h')
    (wk : ∀ (X : Cx), X.prog = P → X.w = w → X.K = K → X.calm = true → ∀ (i : Nat) (pins : List (Addr × Obj)) (s : Shared) (σ : L2.St) (H : Hp), Inv X pins σ H s → tn i s.heap → go i H ∨ stop i H →
      ∃ fp2 wr n Pt St Mid, WalksT P w X.A it fp2 wr n Pt St Mid ∧ St i s.heap ∧ (∀ b ∈ wr, b ∈ fp) ∧ (∀ h, St (i + 1) h → tn (i + 1) h) ∧
        (go i H → i < n ∧ ∀ vals, Pt i vals → ∃ vs, vs.length ≤ sizeLine ∧ Vals vs vals.toList ∧ Y i H vs) ∧ (stop i H → i = n))
    (self : ∀ (A : Around) (i : Nat) (s : Shared) (Q : Value → Shared → Prop) (E : Value → Shared → Prop), tn i s.heap → Q (.ref it) s → wpAny (model P w) A (pyIter (.ref it)) Q E s) :
    Turn P w K (.Tuple es kk tp) (Itp go Y stop) fp it tn where
  mem := mem
  obj := obj
  keep := keep
  self := self
  item := by
    intro X hP hw hK hc i pins s σ H E I hf st hg
    obtain ⟨fp2, wr, n, Pt, St, Mid, W, hs, sub, nx, ok, _⟩ := wk X hP hw hK hc i pins s σ H I st (.inl hg)
    obtain ⟨hi, ok⟩ := ok hg
    refine W.item i s _ _ hi hs fun T vals h1 tk hp hT ht hm k1 => ⟨.ref T, rfl, W.go es kk tp i T _ _ _ hm fun h2 s2 k2 => ?_⟩
    obtain ⟨vs, hz, hv, hy⟩ := ok vals hp
    obtain ⟨o, eo, c, d⟩ := ht
    have ht2 : IsTup h2 T vals.toList.toArray := ⟨o, k2 T o (W.apart i T _ hm) eo, c, by simpa using d⟩
    have I2 : Inv X pins σ (upd H T (.tup vs)) { s with heap := h2, toks := tk } := turnT (t' := tk) (ch := wr) I (fun b o hb e => k2 b o hb (k1 b o hb e)) (fun b hb => hf b (sub b hb)) hT hv hz ht2
    refine ⟨.ref T, upd H T (.tup vs), I2, rfl, ⟨T, vs, rfl, I.hok.fresh hT, rfl, hy⟩, nx h2 s2, fun b hb => ?_⟩
    obtain ⟨ob, eb, _⟩ := obj _ _ st b hb
    have nb : b ≠ T := fun z => Nat.lt_irrefl _ (Nat.lt_of_lt_of_le (Heap.lt_size eb) (z ▸ hT))
    rw [upd_ne nb]
    exact (hf b hb).1
  done := by
    intro X hP hw hK hc i pins s σ H E I hf st hg
    obtain ⟨fp2, wr, n, Pt, St, Mid, W, hs, sub, nx, _, ok⟩ := wk X hP hw hK hc i pins s σ H I st (.inr hg)
    obtain rfl := ok hg
    exact W.done s _ _ hs fun h2 tk k2 => ⟨rfl, turnM (t' := tk) (ch := wr) I k2 fun b hb => hf b (sub b hb)⟩
/-! ### enumerate of a list -/
def Iel (K : PySem.W.Frag) (l : Addr) : It := Itp (fun i H => ∃ xs v, SqL K H l xs ∧ xs[i]? = some v) (fun i H vs => ∃ v, vs = [.int i, v] ∧ ∀ xs, SqL K H l xs → xs[i]? = some v) (fun i H => ∃ xs, SqL K H l xs ∧ xs.length = i)
def Iet (K : PySem.W.Frag) (l : Addr) : It := Itp (fun i H => ∃ xs v, SqT K H l xs ∧ xs[i]? = some v) (fun i H vs => ∃ v, vs = [.int i, v] ∧ ∀ xs, SqT K H l xs → xs[i]? = some v) (fun i H => ∃ xs, SqT K H l xs ∧ xs.length = i)
theorem two_line : [V.int 0, V.int 0].length ≤ sizeLine := by rw [sizeLine_eq]; decide
theorem turn_enumL {P : Program} {w : World} {K : PySem.W.Frag} {es : List Expr} {kk : Nat} {tp : Pos} {e it l : Addr} (hei : e ≠ it) (hle : l ≠ e) (hli : l ≠ it) :
    Turn P w K (.Tuple es kk tp) (Iel K l) [e, it] e (fun i h => (∃ old, IsEnum h e it i old) ∧ h.IsListIter it l i) := by
  refine turn_pairs (by simp) (fun i h st b hb => ?_) (fun i h h2 st k => ?_) (fun X hP hw hK hc i pins s σ H I st hg => ?_) (fun A i s Q E st q => ?_)
  · obtain ⟨⟨old, a⟩, o, c, d1, d2⟩ := st
    rcases List.mem_cons.mp hb with rfl | hq
    · exact ⟨_, a, fun v z => by cases z⟩
    · rw [List.mem_singleton.mp hq]; exact ⟨o, c, fun v z => by rw [d2] at z; cases z⟩
  · obtain ⟨⟨old, a⟩, b⟩ := st
    exact ⟨⟨old, k e (by simp) _ a⟩, b.at fun o q => k it (by simp) o q⟩
  · subst hP hw hK
    have hq : ∃ xs, SqL X.K H l xs := by rcases hg with ⟨xs, _, a, _⟩ | ⟨xs, a, _⟩ <;> exact ⟨xs, a⟩
    obtain ⟨xs, hq⟩ := hq
    obtain ⟨its, rv, p, hz⟩ := I.list hq
    have hl := rv.length
    refine ⟨_, _, _, _, _, _, WalksT.enumerate (I.ok.hd hc) e it l hei hle hli its.toArray, ⟨st.1, st.2, p.isList⟩, fun b hb => hb, fun h q => ⟨q.1, q.2.1⟩, fun g => ?_, fun g => ?_⟩
    · obtain ⟨ys, v, hy, hv⟩ := g
      obtain rfl := I.list_inj hy hq
      obtain ⟨u, hu, ru⟩ := rv.get hv
      have hlt : i < ys.length := (List.getElem?_eq_some_iff.mp hv).1
      refine ⟨by rw [List.size_toArray, ← hl]; exact hlt, fun vals q => ?_⟩
      obtain ⟨t, x, hx, rfl⟩ := q
      have ex : x = u := by
        have : its[i]? = some x := by simpa using hx
        rw [hu] at this; exact (Option.some.inj this).symm
      subst ex
      exact ⟨[.int i, v], two_line, .cons ⟨t, rfl⟩ (.cons ru .nil), v, rfl, fun zs hzs => by rw [I.list_inj hzs hq]; exact hv⟩
    · obtain ⟨ys, hy, e2⟩ := g
      obtain rfl := I.list_inj hy hq
      rw [List.size_toArray, ← hl, e2]
  · obtain ⟨⟨old, a⟩, b⟩ := st
    exact wpAny_pyIter_enum a q
/-! ### zip of two lists -/
def Izl (K : PySem.W.Frag) (l m : Addr) : It := Itp (fun i H => ∃ xs ys v u, SqL K H l xs ∧ SqL K H m ys ∧ xs[i]? = some v ∧ ys[i]? = some u) (fun i H vs => ∃ v u, vs = [v, u] ∧ (∀ xs, SqL K H l xs → xs[i]? = some v) ∧ ∀ ys, SqL K H m ys → ys[i]? = some u)
  (fun i H => ∃ xs ys, SqL K H l xs ∧ SqL K H m ys ∧ min xs.length ys.length = i)
theorem turn_zip {P : Program} {w : World} {K : PySem.W.Frag} {es : List Expr} {kk : Nat} {tp : Pos} {z TI TO i1 i2 l m : Addr} (D : ZipApart z TI TO i1 i2 l m) :
    Turn P w K (.Tuple es kk tp) (Izl K l m) [z, TI, TO, i1, i2] z (fun i h => IsZip h z TI TO .none ∧ IsPair h TI (.ref i1) (.ref i2) ∧ (∃ a b, IsPair h TO a b) ∧ h.IsListIter i1 l i ∧ h.IsListIter i2 m i) := by
  refine turn_pairs (by simp) (fun i h st b hb => ?_) (fun i h h2 st k => ?_) (fun X hP hw hK hc i pins s σ H I st hg => ?_) (fun A i s Q E st q => ?_)
  · obtain ⟨a1, a2, ⟨x, y, a3⟩, ⟨o4, c4, _, d4⟩, o5, c5, _, d5⟩ := st
    simp only [List.mem_cons, or_false, List.not_mem_nil] at hb
    rcases hb with rfl | rfl | rfl | rfl | rfl
    · exact ⟨_, a1, fun v z => by cases z⟩
    · exact ⟨_, a2, fun v z => by cases z⟩
    · exact ⟨_, a3, fun v z => by cases z⟩
    · exact ⟨o4, c4, fun v z => by rw [d4] at z; cases z⟩
    · exact ⟨o5, c5, fun v z => by rw [d5] at z; cases z⟩
  · obtain ⟨a1, a2, ⟨x, y, a3⟩, a4, a5⟩ := st
    exact ⟨k z (by simp) _ a1, k TI (by simp) _ a2, ⟨x, y, k TO (by simp) _ a3⟩, a4.at fun o q => k i1 (by simp) o q, a5.at fun o q => k i2 (by simp) o q⟩
  · subst hP hw hK
    have hq : ∃ xs ys, SqL X.K H l xs ∧ SqL X.K H m ys := by rcases hg with ⟨xs, ys, _, _, a, b, _⟩ | ⟨xs, ys, a, b, _⟩ <;> exact ⟨xs, ys, a, b⟩
    obtain ⟨xs, ys, hq, hq2⟩ := hq
    obtain ⟨its, rv, p, hz⟩ := I.list hq
    obtain ⟨its2, rv2, p2, hz2⟩ := I.list hq2
    have hl := rv.length
    have hl2 := rv2.length
    refine ⟨_, _, _, _, _, _, WalksT.zip2 (I.ok.hd hc) z TI TO i1 i2 l m D its.toArray its2.toArray, ⟨st.1, st.2.1, st.2.2.1, st.2.2.2.1, st.2.2.2.2, p.isList, p2.isList⟩, fun b hb => ?_, fun h q => ⟨q.1, q.2.1, q.2.2.1, q.2.2.2.1, q.2.2.2.2.1⟩, fun g => ?_, fun g => ?_⟩
    · simp only [List.mem_cons, List.not_mem_nil, or_false] at hb ⊢
      rcases hb with rfl | rfl | rfl | rfl <;> simp
    · obtain ⟨x', y', v, u, hy, hy2, hv, hu⟩ := g
      obtain rfl := I.list_inj hy hq
      obtain rfl := I.list_inj hy2 hq2
      obtain ⟨r, er, rr⟩ := rv.get hv
      obtain ⟨r2, er2, rr2⟩ := rv2.get hu
      have hlt : i < x'.length := (List.getElem?_eq_some_iff.mp hv).1
      have hlt2 : i < y'.length := (List.getElem?_eq_some_iff.mp hu).1
      refine ⟨by rw [List.size_toArray, List.size_toArray, ← hl, ← hl2]; omega, fun vals q => ?_⟩
      obtain ⟨x, y, hx, hy', rfl⟩ := q
      have ex : x = r := by
        have : its[i]? = some x := by simpa using hx
        rw [er] at this; exact (Option.some.inj this).symm
      have ey : y = r2 := by
        have : its2[i]? = some y := by simpa using hy'
        rw [er2] at this; exact (Option.some.inj this).symm
      subst ex ey
      exact ⟨[v, u], two_line, .cons rr (.cons rr2 .nil), v, u, rfl, fun zs hzs => by rw [I.list_inj hzs hq]; exact hv, fun zs hzs => by rw [I.list_inj hzs hq2]; exact hu⟩
    · obtain ⟨x', y', hy, hy2, e2⟩ := g
      obtain rfl := I.list_inj hy hq
      obtain rfl := I.list_inj hy2 hq2
      rw [List.size_toArray, List.size_toArray, ← hl, ← hl2, e2]
  · exact wpAny_pyIter_zip st.1 q
/-! ### a tuple's iterator, drawn from by another -/
section
variable {prog : Program} {w : World} {A : Around} {E : Value → Shared → Prop} {s : Shared}
theorem draw_tup {it t : Addr} {i : Nat} {items : Array Value} {x : Value} {Q : Value → Shared → Prop} (hit : s.heap.IsTupleIter it t i) (ht : s.heap.IsTuple t items) (hx : items[i]? = some x)
    (hQ : ∀ h', h'.IsTupleIter it t (i + 1) → Heap.SameBut it s.heap h' → Q x { s with heap := h' }) : wpAny (model prog w) A (Builtin.SmallTypes.nextOf (.ref it)) Q E s := by
  obtain ⟨⟨ol, hol, _, nl, hdl⟩, o, ho, hc, hd⟩ := And.intro ht hit
  refine wpAny_bind (m := callSpecial? _ _) (wpAny_callSpecial?_slot hit.typeIs F.slot_tuple_iterator_next (wpAny_call_entry F.slot_tuple_iterator_next hit.typeIs F.entry_tuple_iterator_next ?_ (F.args_tuple_iterator_next_1 _)))
  refine wpAny_bind (m := field _ 0) (wpAny_field ho hd (x := .ref t) rfl ?_)
  show wpAny _ _ (if false = true then _ else _) _ _ s
  rw [if_neg Bool.false_ne_true]
  refine wpAny_bind (m := field _ 1) (wpAny_field ho hd (x := .int i 0) rfl (wpAny_bind (m := seqItems? _) (wpAny_seqItems hol hdl ?_)))
  simp only [hx, Int.toNat_natCast]
  refine wpAny_bind (wpAny_setField ho hd (by simp) (wpAny_pure ⟨x, rfl, wpAny_pure (hQ _ ⟨_, Heap.get?_update_self _ ho (Obj.isFreed_of_fields (Obj.data_mapFields hd _)), (Obj.cls_mapFields ..).trans hc, ?_⟩ (Heap.SameBut.update ..))⟩))
  rw [Obj.data_mapFields hd]
  simp [rawInt]
theorem draw_tupE {it t : Addr} {i : Nat} {items : Array Value} {Q : Value → Shared → Prop} (hh : A.handled = none) (hit : s.heap.IsTupleIter it t i) (ht : s.heap.IsTuple t items) (hx : items[i]? = none)
    (hE : ∀ h' e, Heap.ExtBut it s.heap h' → (∃ o, h'.get? e = some o ∧ o.cls = .type "StopIteration") → E (.ref e) { s with heap := h' }) : wpAny (model prog w) A (Builtin.SmallTypes.nextOf (.ref it)) Q E s := by
  obtain ⟨⟨ol, hol, _, nl, hdl⟩, o, ho, hc, hd⟩ := And.intro ht hit
  refine wpAny_bind (m := callSpecial? _ _) (wpAny_callSpecial?_slot hit.typeIs F.slot_tuple_iterator_next (wpAny_call_entry F.slot_tuple_iterator_next hit.typeIs F.entry_tuple_iterator_next ?_ (F.args_tuple_iterator_next_1 _)))
  refine wpAny_bind (m := field _ 0) (wpAny_field ho hd (x := .ref t) rfl ?_)
  show wpAny _ _ (if false = true then _ else _) _ _ s
  rw [if_neg Bool.false_ne_true]
  refine wpAny_bind (m := field _ 1) (wpAny_field ho hd (x := .int i 0) rfl (wpAny_bind (m := seqItems? _) (wpAny_seqItems hol hdl ?_)))
  simp only [hx, Int.toNat_natCast]
  refine wpAny_bind (wpAny_rule (wpAny_bind (m := setField _ _ _) (wpAny_setField ho hd (by simp) ?_)))
  have hh2 : A.in1.handled = none := hh
  wp_walk
  unfold raiseNew
  apply wpAny_bind
  apply wpAny_handled
  rw [hh2]
  exact wpAny_bind (wpAny_pure (wpAny_throw (hE _ _ (((Heap.SameBut.update ..).extBut.push _).push _) ⟨_, Heap.get?_push_size _ rfl, rfl⟩)))
theorem drawsT (hh : A.handled = none) (it t : Addr) (hne : t ≠ it) (items : Array Value) : Draws prog w A it [it, t] items.size (fun i v => items[i]? = some v) (fun i h => h.IsTupleIter it t i ∧ h.IsTuple t items) where
  live := fun i h st => by obtain ⟨⟨o, ho, _⟩, _⟩ := st; exact ⟨o, ho⟩
  frame := fun i h h' st k => by
    obtain ⟨⟨o, ho, r⟩, o2, ho2, r2⟩ := st
    exact ⟨⟨o, k it (by simp) o ho, r⟩, o2, k t (by simp) o2 ho2, r2⟩
  item := fun i s Q E hi st q => draw_tup st.1 st.2 (x := items[i]) (Array.getElem?_eq_getElem hi) fun h' a b => q _ h' s.toks (Array.getElem?_eq_getElem hi) ⟨a, st.2.extBut b.extBut hne⟩ b
  done := fun s Q E st q => draw_tupE hh st.1 st.2 (Array.getElem?_eq_none (Nat.le_refl _)) q
/-- enumerate(t) of a tuple, made -/
theorem made_enum (l : Addr) (items : Array Value) : Meets (Builtin.«enumerate.__new__» ⟨[.type "enumerate", .ref l], []⟩) (fun _ R s => s.heap.IsTuple l items ∧
    R (.ok (.ret (.ref (s.heap.push { cls := .type "tuple_iterator", data := .fields #[.ref l, .int 0 0] }).objs.size))) { s with heap := (s.heap.push { cls := .type "tuple_iterator", data := .fields #[.ref l, .int 0 0] }).push { cls := .type "enumerate", data := .fields #[.none, .bool false, .ref s.heap.objs.size, rawInt 0, .none, .none] } }) := by
  refine .of_wp fun p0 w0 A0 R0 s h => ?_
  obtain ⟨hl, h⟩ := h
  obtain ⟨hp0, g0, d, tk, os⟩ := s
  have hsub := sub_enumerate
  wp_walk using wpAny_pyIter_tuple hl
  refine wpAny_stack_any fun _ => wpAny_pure ?_
  split <;> first
    | (rename_i c _ _ _ _ _; cases (c == Value.type "enumerate") <;> (wp_walk using wpAny_pyIter_tuple hl; exact ⟨_, rfl, h⟩))
    | (wp_walk using wpAny_pyIter_tuple hl; exact ⟨_, rfl, h⟩)
theorem call_enumT {l : Addr} {items : Array Value} {Q : Value → Shared → Prop} (hT : s.heap.IsTuple l items)
    (h : ∀ h', IsEnum h' (s.heap.objs.size + 1) s.heap.objs.size 0 .none → h'.IsTupleIter s.heap.objs.size l 0 → (∀ b o, s.heap.get? b = some o → h'.get? b = some o) → Q (.ref (s.heap.objs.size + 1)) { s with heap := h' }) : wpAny (model prog w) A (call (.type "enumerate") [.ref l]) Q E s := by
  refine callType_new F.called_enumerate (by decide) (F.typeCall_enumerate_1 _) (F.newCall_enumerate_1 _) (fun obj => F.args_object_init_2 obj _) F.entry_enumerate_new (made_enum l items) ⟨hT, ?_⟩
  generalize hh1 : s.heap.push { cls := .type "tuple_iterator", data := .fields #[.ref l, .int 0 0] } = h1
  have e1 : h1.objs.size = s.heap.objs.size + 1 := by rw [← hh1, Heap.size_push]
  have g1 : h1.get? s.heap.objs.size = some { cls := .type "tuple_iterator", data := .fields #[.ref l, .int 0 0] } := by rw [← hh1]; exact Heap.get?_push_size _ rfl
  have k1 : ∀ b o, s.heap.get? b = some o → h1.get? b = some o := fun b o e => by rw [← hh1]; exact Heap.get?_push_of_some _ e
  generalize hh2 : h1.push { cls := .type "enumerate", data := .fields #[.none, .bool false, .ref s.heap.objs.size, rawInt 0, .none, .none] } = h2
  have g2 : h2.get? h1.objs.size = some { cls := .type "enumerate", data := .fields #[.none, .bool false, .ref s.heap.objs.size, rawInt 0, .none, .none] } := by rw [← hh2]; exact Heap.get?_push_size _ rfl
  have k2 : ∀ b o, h1.get? b = some o → h2.get? b = some o := fun b o e => by rw [← hh2]; exact Heap.get?_push_of_some _ e
  refine ⟨⟨_, g2, rfl⟩, ?_⟩
  rw [e1] at g2 ⊢
  exact h h2 g2 ⟨_, k2 _ _ g1, rfl, rfl⟩ fun b o e => k2 b o (k1 b o e)
end
/-! ### enumerate of a tuple -/
theorem turn_enumT {P : Program} {w : World} {K : PySem.W.Frag} {es : List Expr} {kk : Nat} {tp : Pos} {e it l : Addr} (hei : e ≠ it) (hle : l ≠ e) (hli : l ≠ it) :
    Turn P w K (.Tuple es kk tp) (Iet K l) [e, it] e (fun i h => (∃ old, IsEnum h e it i old) ∧ h.IsTupleIter it l i) := by
  refine turn_pairs (by simp) (fun i h st b hb => ?_) (fun i h h2 st k => ?_) (fun X hP hw hK hc i pins s σ H I st hg => ?_) (fun A i s Q E st q => ?_)
  · obtain ⟨⟨old, a⟩, o, c, d1, d2⟩ := st
    rcases List.mem_cons.mp hb with rfl | hq
    · exact ⟨_, a, fun v z => by cases z⟩
    · rw [List.mem_singleton.mp hq]; exact ⟨o, c, fun v z => by rw [d2] at z; cases z⟩
  · obtain ⟨⟨old, a⟩, o, b, r⟩ := st
    exact ⟨⟨old, k e (by simp) _ a⟩, o, k it (by simp) o b, r⟩
  · subst hP hw hK
    have hq : ∃ xs, SqT X.K H l xs := by rcases hg with ⟨xs, _, a, _⟩ | ⟨xs, a, _⟩ <;> exact ⟨xs, a⟩
    obtain ⟨xs, hq⟩ := hq
    obtain ⟨its, rv, p, hz⟩ := I.tuple hq
    have hl := rv.length
    have D : Draws X.prog X.w X.A.in1 it [it, l] its.toArray.size (fun i v => its.toArray[i]? = some v) (fun i h => h.IsTupleIter it l i ∧ h.IsTuple l its.toArray) := drawsT (show X.A.in1.handled = none from I.ok.hd hc) it l hli its.toArray
    have hef : e ∉ [it, l] := fun z => by
      rcases List.mem_cons.mp z with z1 | z1
      · exact hei z1
      · exact hle (List.mem_singleton.mp z1).symm
    refine ⟨_, _, _, _, _, _, WalksT.enumerateD D e hei hef (by simp), ⟨st.1, st.2, p⟩, fun b hb => hb, fun h q => ⟨q.1, q.2.1⟩, fun g => ?_, fun g => ?_⟩
    · obtain ⟨ys, v, hy, hv⟩ := g
      obtain rfl := I.tuple_inj hy hq
      obtain ⟨u, hu, ru⟩ := rv.get hv
      have hlt : i < ys.length := (List.getElem?_eq_some_iff.mp hv).1
      refine ⟨by rw [List.size_toArray, ← hl]; exact hlt, fun vals q => ?_⟩
      obtain ⟨t, x, hx, rfl⟩ := q
      have ex : x = u := by
        have : its[i]? = some x := by simpa using hx
        rw [hu] at this; exact (Option.some.inj this).symm
      subst ex
      exact ⟨[.int i, v], two_line, .cons ⟨t, rfl⟩ (.cons ru .nil), v, rfl, fun zs hzs => by rw [I.tuple_inj hzs hq]; exact hv⟩
    · obtain ⟨ys, hy, e2⟩ := g
      obtain rfl := I.tuple_inj hy hq
      rw [List.size_toArray, ← hl, e2]
  · obtain ⟨⟨old, a⟩, b⟩ := st
    exact wpAny_pyIter_enum a q
/-! ### the rules -/
section
variable {X : Cx} {es : List Expr} {kk : Nat} {tp : Pos}
theorem pi_enum {a : Expr} {ta : TA} {p pos : Pos} (hg : Gl X "enumerate") (hm : X.mg "enumerate" = none) (ha : PA X [a] ta) (hs : starEach [a] X.env = [(false, eval a X.env)] := by rfl) :
    PI X (.Tuple es kk tp) (.Call (.Name "enumerate" p) [a] [] pos) (fun σ H R => ta σ H fun vs H1 => ∃ l, vs = [.ref l] ∧ (((∃ xs, SqL X.K H1 l xs) ∧ R (Iel X.K l) H1) ∨ ((∃ xs, SqT X.K H1 l xs) ∧ R (Iet X.K l) H1))) := by
  intro pins s σ H R I h
  refine Call_ (ld_blt I hg hm boot_enumerate (PyProof.Rows.callWith_type1 (thn (ha pos pins s σ H _ I h) fun us s1 ⟨vs, H1, I1, r1, q1⟩ => ?_) hs rfl))
  obtain ⟨l, e, q⟩ := q1
  subst e
  obtain ⟨u, rfl, ru⟩ := vals1 r1
  cases ru
  have fo : ∀ b ∈ [s1.heap.objs.size + 1, s1.heap.objs.size], FpOk X pins H1 b := fun b hb => by
    have hle : s1.heap.objs.size ≤ b := by
      simp only [List.mem_cons, or_false, List.not_mem_nil] at hb
      rcases hb with rfl | rfl
      · exact Nat.le_succ _
      · exact Nat.le_refl _
    exact I1.fpOk hle (I1.hok.fresh hle)
  rcases q with ⟨⟨xs, hq⟩, q⟩ | ⟨⟨xs, hq⟩, q⟩
  · obtain ⟨its, rv, pl, hz⟩ := I1.list hq
    have hlt : l < s1.heap.objs.size := by obtain ⟨o, n, e, _⟩ := pl; exact Heap.lt_size e
    refine call_enumerate_list pl.isList fun h' he hi hsz hk => wpAny_pyIter_enum he ?_
    exact ⟨s1.heap.objs.size + 1, _, _, _, H1, rfl, I1.kept (t' := s1.toks) hk, turn_enumL (Nat.succ_ne_self _) (Nat.ne_of_lt (Nat.lt_succ_of_lt hlt)) (Nat.ne_of_lt hlt), ⟨⟨_, he⟩, hi⟩, fo, q⟩
  · obtain ⟨its, rv, pl, hz⟩ := I1.tuple hq
    have hlt : l < s1.heap.objs.size := pl.lt
    refine call_enumT (items := its.toArray) pl fun h' he hi hk => wpAny_pyIter_enum he ?_
    exact ⟨s1.heap.objs.size + 1, _, _, _, H1, rfl, I1.kept (t' := s1.toks) hk, turn_enumT (Nat.succ_ne_self _) (Nat.ne_of_lt (Nat.lt_succ_of_lt hlt)) (Nat.ne_of_lt hlt), ⟨⟨_, he⟩, hi⟩, fo, q⟩
theorem pi_zip {a b : Expr} {ta : TA} {p pos : Pos} (hg : Gl X "zip") (hm : X.mg "zip" = none) (ha : PA X [a, b] ta) (hs : starEach [a, b] X.env = [(false, eval a X.env), (false, eval b X.env)] := by rfl) (hs2 : starEach [b] X.env = [(false, eval b X.env)] := by rfl) :
    PI X (.Tuple es kk tp) (.Call (.Name "zip" p) [a, b] [] pos) (fun σ H R => ta σ H fun vs H1 => ∃ l m xs ys, vs = [.ref l, .ref m] ∧ SqL X.K H1 l xs ∧ SqL X.K H1 m ys ∧ R (Izl X.K l m) H1) := by
  intro pins s σ H R I h
  refine Call_ (ld_blt I hg hm boot_zip (PyProof.Rows.callWith_type1 (thn (ha pos pins s σ H _ I h) fun us s1 ⟨vs, H1, I1, r1, q1⟩ => ?_) (by rw [hs, hs2]) (by rw [hs2]; rfl)))
  obtain ⟨l, m, xs, ys, e, hq, hq2, q⟩ := q1
  subst e
  obtain ⟨u, u2, rfl, ru, ru2⟩ := vals2 r1
  cases ru
  cases ru2
  obtain ⟨its, rv, pl, hz⟩ := I1.list hq
  obtain ⟨its2, rv2, pl2, hz2⟩ := I1.list hq2
  have hlt : l < s1.heap.objs.size := by obtain ⟨o, n, e, _⟩ := pl; exact Heap.lt_size e
  have hlt2 : m < s1.heap.objs.size := by obtain ⟨o, n, e, _⟩ := pl2; exact Heap.lt_size e
  refine call_zip_2 pl.isList pl2.isList fun h' hZ hTI hTO hi1 hi2 hsz hk => wpAny_pyIter_zip hZ ?_
  refine ⟨s1.heap.objs.size + 4, _, _, _, H1, rfl, I1.kept (t' := s1.toks) hk, turn_zip (zipApart_new hlt hlt2), ⟨hZ, hTI, ⟨_, _, hTO⟩, hi1, hi2⟩, fun b hb => ?_, q⟩
  have hle : s1.heap.objs.size ≤ b := by
    simp only [List.mem_cons, or_false, List.not_mem_nil] at hb
    rcases hb with rfl | rfl | rfl | rfl | rfl
    · exact Nat.le_add_right _ 4
    · exact Nat.le_add_right _ 2
    · exact Nat.le_add_right _ 3
    · exact Nat.le_refl _
    · exact Nat.le_add_right _ 1
  exact I1.fpOk hle (I1.hok.fresh hle)
/-- what enumerate, zip walk -/
def enumD (ds : List D) : List D := ds.zipIdx.map fun p => .tup [.int (p.2 : Int), p.1]
def zipD (a b : List D) : List D := (a.zip b).map fun p => .tup [p.1, p.2]
theorem enumD_get {ds : List D} {i : Nat} {d : D} (h : (enumD ds)[i]? = some d) : ∃ d0, ds[i]? = some d0 ∧ d = .tup [.int (i : Int), d0] := by
  unfold enumD at h
  rw [List.getElem?_map, List.getElem?_zipIdx] at h
  cases q : ds[i]? with
  | none => rw [q] at h; cases h
  | some d0 =>
    rw [q] at h
    simp at h
    exact ⟨d0, rfl, h.symm⟩
theorem zipD_get {a b : List D} {i : Nat} {d : D} (h : (zipD a b)[i]? = some d) : ∃ x y, a[i]? = some x ∧ b[i]? = some y ∧ d = .tup [x, y] := by
  unfold zipD at h
  rw [List.getElem?_map] at h
  cases q : (a.zip b)[i]? with
  | none => rw [q] at h; cases h
  | some xy =>
    rw [q] at h
    obtain ⟨h1, h2⟩ := List.getElem?_zip_eq_some.mp q
    exact ⟨xy.1, xy.2, h1, h2, (Option.some.inj h).symm⟩
theorem pair_dn {K : PySem.W.Frag} {S : Addr → Prop} {H : Hp} {T : Addr} {x y : V} {dx dy : D} (fr : H T = none) (hx : Dn K S H dx x) (hy : Dn K S H dy y) : Dn K S (upd H T (.tup [x, y])) (.tup [dx, dy]) (.ref T) := by
  simp only [Dn]
  exact ⟨T, [x, y], rfl, .inl (.inl upd_same), Dns.fits (.same (same_upd fr)) _ _ (Dns.cons hx (Dns.one hy))⟩
theorem wlk_enumL {K : PySem.W.Frag} {a : Addr} {ds : List D} : Wlk K (Iel K a) (enumD ds) [(.lst ds, .ref a)] where
  go := fun S H fc hg i d e => by
    have h := hg _ (List.mem_singleton.mpr rfl)
    simp only [Dn] at h
    obtain ⟨b, xs, eb, hb, sb, dn⟩ := h
    injection eb with eb
    subst eb
    obtain ⟨d0, e0, rfl⟩ := enumD_get e
    obtain ⟨v, ev, dv⟩ := dn.get e0
    refine ⟨⟨xs, v, SqL.of hb, ev⟩, fun x H' y => ?_⟩
    obtain ⟨T, vs, rfl, fr, rfl, v', rfl, hy⟩ := y
    have ex := hy xs (SqL.of hb)
    rw [ev] at ex
    cases ex
    exact ⟨same_upd fr, pair_dn fr (by simp only [Dn]) dv⟩
  stop := fun S H hg i hi => by
    have h := hg _ (List.mem_singleton.mpr rfl)
    simp only [Dn] at h
    obtain ⟨b, xs, eb, hb, sb, dn⟩ := h
    injection eb with eb
    subst eb
    exact ⟨xs, SqL.of hb, by rw [← dn.len, ← hi]; simp [enumD]⟩
theorem wlk_enumT {K : PySem.W.Frag} {a : Addr} {ds : List D} : Wlk K (Iet K a) (enumD ds) [(.tup ds, .ref a)] where
  go := fun S H fc hg i d e => by
    have h := hg _ (List.mem_singleton.mpr rfl)
    simp only [Dn] at h
    obtain ⟨b, xs, eb, hb, dn⟩ := h
    injection eb with eb
    subst eb
    obtain ⟨d0, e0, rfl⟩ := enumD_get e
    obtain ⟨v, ev, dv⟩ := dn.get e0
    refine ⟨⟨xs, v, hb, ev⟩, fun x H' y => ?_⟩
    obtain ⟨T, vs, rfl, fr, rfl, v', rfl, hy⟩ := y
    have ex := hy xs hb
    rw [ev] at ex
    cases ex
    exact ⟨same_upd fr, pair_dn fr (by simp only [Dn]) dv⟩
  stop := fun S H hg i hi => by
    have h := hg _ (List.mem_singleton.mpr rfl)
    simp only [Dn] at h
    obtain ⟨b, xs, eb, hb, dn⟩ := h
    injection eb with eb
    subst eb
    exact ⟨xs, hb, by rw [← dn.len, ← hi]; simp [enumD]⟩
theorem wlk_zip {K : PySem.W.Frag} {a c : Addr} {ds es : List D} : Wlk K (Izl K a c) (zipD ds es) [(.lst ds, .ref a), (.lst es, .ref c)] where
  go := fun S H fc hg i d e => by
    have h := hg (.lst ds, .ref a) (by simp)
    have h2 := hg (.lst es, .ref c) (by simp)
    simp only [Dn] at h h2
    obtain ⟨b, xs, eb, hb, sb, dn⟩ := h
    obtain ⟨b2, ys, eb2, hb2, sb2, dn2⟩ := h2
    injection eb with eb
    injection eb2 with eb2
    subst eb eb2
    obtain ⟨x0, y0, e0, e1, rfl⟩ := zipD_get e
    obtain ⟨v, ev, dv⟩ := dn.get e0
    obtain ⟨u, eu, du⟩ := dn2.get e1
    refine ⟨⟨xs, ys, v, u, SqL.of hb, SqL.of hb2, ev, eu⟩, fun x H' y => ?_⟩
    obtain ⟨T, vs, rfl, fr, rfl, v', u', rfl, hy, hy2⟩ := y
    have ex := hy xs (SqL.of hb)
    have ex2 := hy2 ys (SqL.of hb2)
    rw [ev] at ex
    rw [eu] at ex2
    cases ex
    cases ex2
    exact ⟨same_upd fr, pair_dn fr dv du⟩
  stop := fun S H hg i hi => by
    have h := hg (.lst ds, .ref a) (by simp)
    have h2 := hg (.lst es, .ref c) (by simp)
    simp only [Dn] at h h2
    obtain ⟨b, xs, eb, hb, sb, dn⟩ := h
    obtain ⟨b2, ys, eb2, hb2, sb2, dn2⟩ := h2
    injection eb with eb
    injection eb2 with eb2
    subst eb eb2
    exact ⟨xs, ys, SqL.of hb, SqL.of hb2, by rw [← dn.len, ← dn2.len, ← hi]; simp [zipD]⟩
def wEnum (t : WA) : WI := fun ρ Q => t ρ fun ds => match ds with
  | [.lst es] => Q (enumD es)
  | [.tup es] => Q (enumD es)
  | _ => False
def wZip (t : WA) : WI := fun ρ Q => t ρ fun ds => match ds with
  | [.lst a, .lst b] => Q (zipD a b)
  | _ => False
theorem enumerate3 {a : Expr} {t : WA} {p pos : Pos} (hm : X.mg "enumerate" = none) (ha : PA3 X [a] t) (hg : Gl X "enumerate" := by rfl) (hs : starEach [a] X.env = [(false, eval a X.env)] := by rfl) : PI3 X (.Tuple es kk tp) (.Call (.Name "enumerate" p) [a] [] pos) (wEnum t) :=
  impI (pi_enum hg hm ha hs) fun σ H R ⟨S, ρ, Q3, fc, sl, ht, k⟩ => by
    refine ⟨S, ρ, _, fc, sl, ht, fun vs H1 ds s1 d1 q1 => ?_⟩
    split at q1
    · obtain ⟨v, r, rfl, h1, h2⟩ := d1.uncons
      simp only [Dns] at h2
      subst h2
      have h1' := h1
      simp only [Dn] at h1
      obtain ⟨l, xs, rfl, hl, sl', da⟩ := h1
      exact ⟨l, rfl, .inl ⟨⟨xs, SqL.of hl⟩, k _ H1 _ [(_, .ref l)] s1 (fun g hg => by cases List.mem_singleton.mp hg; exact h1') wlk_enumL q1⟩⟩
    · obtain ⟨v, r, rfl, h1, h2⟩ := d1.uncons
      simp only [Dns] at h2
      subst h2
      have h1' := h1
      simp only [Dn] at h1
      obtain ⟨l, xs, rfl, hl, da⟩ := h1
      exact ⟨l, rfl, .inr ⟨⟨xs, hl⟩, k _ H1 _ [(_, .ref l)] s1 (fun g hg => by cases List.mem_singleton.mp hg; exact h1') wlk_enumT q1⟩⟩
    · exact q1.elim
theorem zip3 {a b : Expr} {t : WA} {p pos : Pos} (hm : X.mg "zip" = none) (ha : PA3 X [a, b] t) (hg : Gl X "zip" := by rfl) (hs : starEach [a, b] X.env = [(false, eval a X.env), (false, eval b X.env)] := by rfl) (hs2 : starEach [b] X.env = [(false, eval b X.env)] := by rfl) :
    PI3 X (.Tuple es kk tp) (.Call (.Name "zip" p) [a, b] [] pos) (wZip t) :=
  impI (pi_zip hg hm ha hs hs2) fun σ H R ⟨S, ρ, Q3, fc, sl, ht, k⟩ => by
    refine ⟨S, ρ, _, fc, sl, ht, fun vs H1 ds s1 d1 q1 => ?_⟩
    split at q1
    · obtain ⟨v, r, rfl, h1, h2⟩ := d1.uncons
      obtain ⟨v2, r2, rfl, h3, h4⟩ := h2.uncons
      simp only [Dns] at h4
      subst h4
      have h1' := h1
      have h3' := h3
      simp only [Dn] at h1 h3
      obtain ⟨l, xs, rfl, hl, sl', da⟩ := h1
      obtain ⟨m, ys, rfl, hl2, sl2, da2⟩ := h3
      refine ⟨l, m, xs, ys, rfl, SqL.of hl, SqL.of hl2, k _ H1 _ [(_, .ref l), (_, .ref m)] s1 (fun g hg => ?_) wlk_zip q1⟩
      rcases List.mem_cons.mp hg with rfl | hg
      · exact h1'
      · cases List.mem_singleton.mp hg; exact h3'
    · exact q1.elim
end
end L3

end
section
set_option Elab.async false
set_option linter.all false
set_option maxRecDepth 100000
set_option maxHeartbeats 4100000
namespace L3
open PySem PySem.Spec PyProof.Rows L2
section
variable {X : Cx} {a b : Expr} {pos : Pos} {ta tb : WE}
/-! ### * of great numbers -/
theorem op_mulB : OpR X (binaryOp .Mult) (rI IntMulOk fun i j => .int (i * j)) := opI fun _ _ _ _ _ _ _ hc q => mul_int q hc
def mulBF : F2 := intF IntMulOk fun i j => .int (i * j)
theorem mulB3 (ha : PE3 X a ta) (hb : PE3 X b tb) : PE3 X (.BinOp a .Mult b pos) (wBin mulBF ta tb) := op3 op_mulB o3_int ha hb
end
theorem mulBF_int {i j : Int} {Q : D → Prop} : mulBF (.int i) (.int j) Q = (IntMulOk i j ∧ Q (.int (i * j))) := rfl
theorem isT_int {i : Int} : isT "int" (.int i) = true := by simp [isT, tyD]
theorem isT_bool {i : Int} : isT "bool" (.int i) = false := by simp [isT, tyD]
theorem isT_tup {ds : List D} : isT "tuple" (.tup ds) = true := by simp [isT, tyD]
theorem isT_tupI {i : Int} : isT "tuple" (.int i) = false := by simp [isT, tyD]
theorem mulB_ok {i j : Int} {m n : Nat} (hi : i.natAbs < 2 ^ m) (hj : j.natAbs < 2 ^ n) (h : m + n ≤ 134217728) : IntMulOk i j := by
  exact mulOk_of_bits (intBits_le hi) (intBits_le hj) h
section
variable {X : Cx}
/-! ### the truth of a list, a tuple -/
def wFull (t : WE) : WT := fun ρ Q => t ρ fun d => match d with
  | .lst ds => Q (!ds.isEmpty)
  | .tup ds => Q (!ds.isEmpty)
  | _ => False
theorem Dns.empty {K : PySem.W.Frag} {S : Addr → Prop} {H : Hp} {ds : List D} {xs : List V} (h : Dns K S H ds xs) : ds.isEmpty = xs.isEmpty := by
  have := h.len
  cases ds <;> cases xs <;> simp at this ⊢
theorem full3 {e : Expr} {t : WE} (h : PE3 X e t) (he : ∀ whole, isTrue e X.env whole = (do let v ← whole; standAt e.pos; holding [v] (truthy v)) := by intro _; rfl) : PT3 X e (wFull t) :=
  impT (pt_truth h he) fun σ H Q ⟨S, ρ, Q3, fc, sl, ht, k⟩ => by
    refine ⟨S, ρ, _, fc, sl, ht, fun v H1 d s1 d1 q1 => ?_⟩
    cases d with
    | lst ds =>
      simp only [Dn] at d1
      obtain ⟨a, xs, rfl, ha, sa, da⟩ := d1
      exact ⟨_, .inl ⟨xs, SqL.of ha, by rw [← da.empty]⟩, k _ H1 s1 q1⟩
    | tup ds =>
      simp only [Dn] at d1
      obtain ⟨a, xs, rfl, ha, da⟩ := d1
      exact ⟨_, .inr (.inl ⟨xs, ha, by rw [← da.empty]⟩), k _ H1 s1 q1⟩
    | _ => exact q1.elim
/-! ### sum of ints -/
def rSum : List V → Hp → VK → Prop := fun xs H Q => ∃ (a : Addr) (ns : List Int), xs = [.ref a] ∧ H a = some (.lst (ns.map V.int)) ∧ Q (.int ns.sum) H
theorem call_sum3 (hc : X.calm = true) : CallR X (.builtin "sum") rSum := by
  intro pins s σ H xs us Q I r h
  obtain ⟨a, ns, rfl, ha, q⟩ := h
  obtain ⟨u, rfl, ru⟩ := vals1 r
  cases ru
  obtain ⟨its, rv, p, hz⟩ := I.list (SqL.of ha)
  have hi := intsAre_of rv
  obtain ⟨zs, ez⟩ := hi.allInts.items
  have en : zs.toList.map (·.1) = ns := by
    rw [← nums_intItems, ← ez]
    exact hi.numsOf
  have ev : preSum (numAt zs) zs.size = ns.sum := by rw [preSum_eq, List.take_of_length_le (by simp), en]
  refine sum_intListG (I.ok.hd hc) (ez ▸ p.isList) fun h' tk t' hk => ⟨.int ns.sum, H, I.kept hk, ⟨t', by rw [ev]⟩, q⟩
def sumF : F1
  | [.lst ds], Q => (match intsOf ds with | some ns => Q (.int ns.sum) | none => False)
  | _, _ => False
theorem sumF_ints {ns : List Int} {Q : D → Prop} : sumF [.lst (ns.map D.int)] Q = Q (.int ns.sum) := by
  show (match intsOf (ns.map D.int) with | some ns => Q (.int ns.sum) | none => False) = _
  rw [intsOf_map]
theorem c3_sum {K : PySem.W.Frag} : C3 K rSum sumF := by
  intro S H xs ds Q3 Q fc hd hf k
  match ds, hf with
  | [.lst es], hf =>
    obtain ⟨v, r, rfl, h1, h2⟩ := hd.uncons
    simp only [Dns] at h2
    subst h2
    simp only [Dn] at h1
    obtain ⟨a, ys, rfl, ha, sa, da⟩ := h1
    have hf2 : (match intsOf es with | some ns => Q3 (.int ns.sum) | none => False) := hf
    clear hf
    cases q : intsOf es with
    | none => rw [q] at hf2; exact hf2.elim
    | some ns =>
      rw [q] at hf2
      have e := intsOf_of q
      subst e
      have e2 := Dns.ints.mp da
      subst e2
      exact ⟨a, ns, rfl, ha, k _ H _ (Same.refl H) (by simp only [Dn]) hf2⟩
theorem sum3 {p pos : Pos} {e : Expr} {t : WA} (hc : X.calm = true) (hm : X.mg "sum" = none) (ha : PA3 X [e] t) (hg : Gl X "sum" := by rfl)
    (he : starEach [e] X.env = (false, eval e X.env) :: starEach [] X.env := by rfl) : PE3 X (.Call (.Name "sum" p) [e] [] pos) (wCB sumF t) := callB3 (call_sum3 hc) c3_sum PyProof.Rows.boot_sum hg hm ha (by decide) (by decide) he (by rfl)
/-! ### slices -/
abbrev WO := DEnv → (Option Int → Prop) → Prop
def liftO (K : PySem.W.Frag) (t : WO) : TO := fun σ H Q => ∃ (S : Addr → Prop) (ρ : DEnv) (Q3 : Option Int → Prop), (∀ a, H a = none → S a) ∧ Sl K S H ρ σ ∧ t ρ Q3 ∧ ∀ o H', Same H H' → Q3 o → Q o H'
def PO3 (X : Cx) (e : Option Expr) (t : WO) : Prop := PO X e (liftO X.K t)
def wNoPart : WO := fun _ Q => Q none
def wPart (t : WE) : WO := fun ρ Q => t ρ fun d => match d with
  | .int i => Q (some i)
  | _ => False
theorem po3n : PO3 X none wNoPart := fun pins s σ H Q I ⟨S, ρ, Q3, fc, sl, ht, k⟩ => po_none pins s σ H Q I (k none H (Same.refl H) ht)
theorem po3 {e : Expr} {t : WE} (h : PE3 X e t) : PO3 X (some e) (wPart t) := fun pins s σ H Q I ⟨S, ρ, Q3, fc, sl, ht, k⟩ => by
  refine po_some h pins s σ H Q I ⟨S, ρ, _, fc, sl, ht, fun v H1 d s1 d1 q1 => ?_⟩
  cases d with
  | int i => simp only [Dn] at d1; exact ⟨i, d1, k _ H1 s1 q1⟩
  | _ => exact q1.elim
def cutD (xs : List D) (lo hi : Option Int) : List D := (xs.drop (HT.sIx xs.length 0 lo)).take (HT.sIx xs.length xs.length hi - HT.sIx xs.length 0 lo)
theorem Dns.cut {K : PySem.W.Frag} {S : Addr → Prop} {H : Hp} {ds : List D} {xs : List V} {lo hi : Option Int} (h : Dns K S H ds xs) : Dns K S H (cutD ds lo hi) (cutV xs lo hi) := by
  unfold cutD cutV
  rw [h.len]
  exact (h.drop _).take _
/-- the whole of a tuple is the tuple itself -/
theorem item_all {prog : Program} {w : World} {A : Around} {E : Value → Shared → Prop} {s : Shared} {t sl : Addr} {items : Array Value} {vl vu : Value} {lo hi : Option Int} {Q : Value → Shared → Prop} (ht : IsTup s.heap t items) (hs : s.heap.IsSliceOf sl vl vu .none) (pl : IsPart vl lo) (pu : IsPart vu hi)
    (h0 : HT.sIx items.size 0 lo = 0) (h1 : HT.sIx items.size items.size hi = items.size) (h : Q (.ref t) s) : wpAny (model prog w) A (getItem (.ref t) (.ref sl)) Q E s := by
  have hT : s.TypeIs (.ref sl) "slice" := by obtain ⟨o, a, b, _⟩ := hs; exact ⟨o, a, b⟩
  unfold getItem
  try with_reducible refine wpAny_holding ?_
  first | refine wpAny_bind (wpAny_pure ?_) | skip
  apply wpAny_bind
  refine wpAny_sequenceKey ht.typeIs (by decide) (wpAny_bind (wpAny_callSpecial?_slot ht.typeIs PyProof.Rows.slot_tuple_getitem (wpAny_call_entry PyProof.Rows.slot_tuple_getitem ht.typeIs entry_tuple_getitem ?_ (args_tuple_getitem _ _))))
  refine wpAny_bind (m := Builtin.Tuple.tupleItemsOf _) (tupleItemsOf_ ht (wpAny_bind (wpAny_typeOf hT ?_)))
  rw [if_pos (by decide)]
  refine wpAny_bind (HT.sliceApplied_gen (n := items.size) hs pl pu ?_)
  rw [h0, h1]
  show wpAny _ _ (if ((((0 : Nat) : Int) == 0) && ((1 : Int) == 1) && ((items.size - 0) == items.size)) = true then _ else _) _ _ s
  rw [if_pos (by simp)]
  refine wpAny_bind (m := Builtin.Tuple.tupleIsExact _) (wpAny_bind (wpAny_typeOf ht.typeIs (wpAny_pure ?_)))
  show wpAny _ _ (if true = true then _ else _) _ _ s
  rw [if_pos rfl]
  exact wpAny_bind (wpAny_rule (wpAny_pure ⟨_, rfl, wpAny_pure h⟩))
def rSlW (K : PySem.W.Frag) : V → Option Int → Option Int → Hp → VK → Prop := fun x lo hi H Q => ∃ a xs, x = .ref a ∧ SqT K H a xs ∧ (HT.sIx xs.length 0 lo = 0 ∧ HT.sIx xs.length xs.length hi = xs.length) ∧ Q (.ref a) H
theorem sl_tupW : SlR X (rSlW X.K) := by
  intro pins s σ H x v vl vu lo hi sl Q I rx hs pl pu h
  obtain ⟨a, xs, rfl, hx, hw, q⟩ := h
  cases rx
  obtain ⟨its, r, ht, hz⟩ := I.tuple hx
  have hlen : its.toArray.size = xs.length := by rw [List.size_toArray]; exact r.length.symm
  exact ⟨"tuple", _, PyProof.Rows.slot_tuple_getitem.lookup, ht.typeIs, item_all ht hs pl pu (by rw [hlen]; exact hw.1) (by rw [hlen]; exact hw.2) ⟨.ref a, H, I, rfl, q⟩⟩
def wSl (te : WE) (tl th : WO) : WE := fun ρ Q => te ρ fun d => tl ρ fun lo => th ρ fun hi => match d with
  | .lst ds => Q (.lst (cutD ds lo hi))
  | .tup ds => Q (.tup (cutD ds lo hi))
  | _ => False
theorem sl3 {e : Expr} {lo hi : Option Expr} {p2 pos : Pos} {te : WE} {tl th : WO} (he : PE3 X e te) (hl : PO3 X lo tl) (hh : PO3 X hi th) : PE3 X (.Subscript e (.Slice lo hi none p2) pos) (wSl te tl th) :=
  imp (pe_slice (sl_list.or (sl_tup.or sl_tupW)) he hl hh) fun σ H Q ⟨S, ρ, Q3, fc, sl, ht, k⟩ => by
    refine ⟨S, ρ, _, fc, sl, ht, fun v H1 d s1 d1 q1 => ?_⟩
    refine ⟨S, ρ, _, fc_same fc s1, Sl.fits (.same s1) sl, q1, fun o H2 s2 q2 => ?_⟩
    refine ⟨S, ρ, _, fc_same fc (s1.trans s2), Sl.fits (.same (s1.trans s2)) sl, q2, fun o2 H3 s3 q3 => ?_⟩
    have d3 := Dn.fits (.same (s2.trans s3)) _ _ d1
    have sa := (s1.trans s2).trans s3
    cases d with
    | lst ds =>
      simp only [Dn] at d3
      obtain ⟨a, xs, rfl, ha, sa', da⟩ := d3
      refine .inl ⟨a, xs, rfl, SqL.of ha, fun p hp => k _ _ _ (sa.trans (same_upd hp)) ?_ q3⟩
      simp only [Dn]
      exact ⟨p, _, rfl, upd_same, fc_same fc sa p hp, Dns.fits (.same (same_upd hp)) _ _ da.cut⟩
    | tup ds =>
      simp only [Dn] at d3
      obtain ⟨a, xs, rfl, ha, da⟩ := d3
      have hl := da.len
      by_cases hw : HT.sIx xs.length 0 o = 0 ∧ HT.sIx xs.length xs.length o2 = xs.length
      · refine .inr (.inr ⟨a, xs, rfl, ha, hw, k _ _ _ sa ?_ q3⟩)
        have e : cutD ds o o2 = ds := by
          unfold cutD
          rw [hl, hw.1, hw.2, List.drop_zero, Nat.sub_zero, List.take_of_length_le (Nat.le_of_eq hl)]
        rw [e]
        simp only [Dn]
        exact ⟨a, xs, rfl, ha, da⟩
      · refine .inr (.inl ⟨a, xs, rfl, ha, hw, fun p hp => k _ _ _ (sa.trans (same_upd hp)) ?_ q3⟩)
        simp only [Dn]
        exact ⟨p, _, rfl, .inl (.inl upd_same), Dns.fits (.same (same_upd hp)) _ _ da.cut⟩
    | _ => exact q3.elim
end
/-! ### a comprehension that tells ints -/
theorem comp_ints {α : Type} {g : GE} {te : WE} {ρ : DEnv} (mk : α → D) (f : α → Int) : ∀ (l : List α) (acc : List Int) (Q : D → Prop), (∀ a ∈ l, ∀ Q3 : D → Prop, Q3 (.int (f a)) → g (mk a) ρ fun ρ2 => te ρ2 Q3) → acc.length + l.length ≤ sizeLine →
    Q (.lst ((acc ++ l.map f).map D.int)) → compW g wTrue te ρ (l.map mk) (acc.map D.int) Q
  | [], acc, Q, _, _, q => by rw [List.map_nil, compW]; simpa using q
  | a :: r, acc, Q, h, hz, q => by
    rw [List.map_cons, compW]
    simp only [List.length_cons] at hz
    have e : (fun ρ2 => wTrue ρ2 fun b => if b = true then te ρ2 fun y => (acc.map D.int).length < sizeLine ∧ compW g wTrue te ρ (r.map mk) (acc.map D.int ++ [y]) Q else compW g wTrue te ρ (r.map mk) (acc.map D.int) Q) = fun ρ2 => te ρ2 fun y => (acc.map D.int).length < sizeLine ∧ compW g wTrue te ρ (r.map mk) (acc.map D.int ++ [y]) Q := by
      funext ρ2
      simp [wTrue]
    rw [e]
    refine h a List.mem_cons_self _ ⟨by rw [List.length_map]; omega, ?_⟩
    have := comp_ints mk f r (acc ++ [f a]) Q (fun a' ha => h a' (List.mem_cons_of_mem _ ha)) (by simp; omega) (by simpa using q)
    simpa using this
end L3

end
section
set_option Elab.async false
set_option linter.all false
set_option maxRecDepth 100000
set_option maxHeartbeats 4100000
namespace K24
def fact : Nat → Int
  | 0 => 1
  | k + 1 => fact k * (k + 1)
def ff (x : Int) : Nat → Int
  | 0 => 1
  | k + 1 => ff x k * (x - k)
theorem fact_pos : ∀ k, 0 < fact k
  | 0 => by decide
  | k + 1 => Int.mul_pos (fact_pos k) (by omega)
theorem ff_left (x : Int) : ∀ k, ff (x + 1) (k + 1) = (x + 1) * ff x k
  | 0 => by simp [ff]
  | k + 1 => by
    rw [show ff (x + 1) (k + 1 + 1) = ff (x + 1) (k + 1) * (x + 1 - ((k + 1 : Nat) : Int)) from rfl, ff_left x k, show ff x (k + 1) = ff x k * (x - k) from rfl, Int.mul_assoc]
    congr 2
    omega
theorem ff_step (x : Int) (k : Nat) : ff (x + 1) (k + 1) = ff x (k + 1) + (k + 1) * ff x k := by
  rw [ff_left, show ff x (k + 1) = ff x k * (x - k) from rfl, Int.mul_comm (ff x k), ← Int.add_mul]
  congr 1
  omega
theorem ff_zero : ∀ k, ff 0 (k + 1) = 0
  | 0 => by simp [ff]
  | k + 1 => by rw [show ff 0 (k + 1 + 1) = ff 0 (k + 1) * _ from rfl, ff_zero k, Int.zero_mul]
theorem dvd_ff : ∀ (k : Nat) (x : Int), fact k ∣ ff x k
  | 0, x => by simp [fact, ff]
  | k + 1, x => by
    have st : ∀ y : Int, fact (k + 1) ∣ (k + 1) * ff y k := fun y => by
      obtain ⟨c, e⟩ := dvd_ff k y
      exact ⟨c, by rw [e, show fact (k + 1) = fact k * (k + 1) from rfl, ← Int.mul_assoc, Int.mul_comm (k + 1 : Int)]⟩
    have up : ∀ y : Int, fact (k + 1) ∣ ff y (k + 1) → fact (k + 1) ∣ ff (y + 1) (k + 1) := fun y h => by rw [ff_step]; exact Int.dvd_add h (st y)
    have dn : ∀ y : Int, fact (k + 1) ∣ ff (y + 1) (k + 1) → fact (k + 1) ∣ ff y (k + 1) := fun y h => by rw [ff_step] at h; exact (Int.dvd_add_left (st y)).mp h
    have h0 : fact (k + 1) ∣ ff 0 (k + 1) := by rw [ff_zero]; exact Int.dvd_zero _
    have pos : ∀ n : Nat, fact (k + 1) ∣ ff (n : Int) (k + 1) := fun n => by
      induction n with
      | zero => exact h0
      | succ n ih => exact up _ ih
    have neg : ∀ n : Nat, fact (k + 1) ∣ ff (-(n : Int)) (k + 1) := fun n => by
      induction n with
      | zero => exact h0
      | succ n ih => exact dn _ (by rw [show -((n + 1 : Nat) : Int) + 1 = -(n : Int) by omega]; exact ih)
    rcases Int.le_total 0 x with hx | hx
    · have := pos x.toNat; rwa [show ((x.toNat : Nat) : Int) = x by omega] at this
    · have := neg (-x).toNat; rwa [show -(((-x).toNat : Nat) : Int) = x by omega] at this
/-! ### chosen as a number -/
def C (x : Int) (m : Nat) : Int := ff x m / fact m
theorem C_mul (x : Int) (m : Nat) : C x m * fact m = ff x m := Int.ediv_mul_cancel (dvd_ff m x)
theorem C_of {x c : Int} {m : Nat} (h : c * fact m = ff x m) : c = C x m := Int.eq_of_mul_eq_mul_right (Int.ne_of_gt (fact_pos m)) (h.trans (C_mul x m).symm)
theorem C_zero (x : Int) : C x 0 = 1 := rfl
theorem C_step (x : Int) (m : Nat) : C (x + 1) (m + 1) = C x (m + 1) + C x m := by
  refine (C_of ?_).symm
  rw [Int.add_mul, C_mul, show fact (m + 1) = fact m * (m + 1) from rfl, ← Int.mul_assoc, C_mul, ff_step, Int.mul_comm (ff x m)]
theorem ff_none {x : Nat} : ∀ {m : Nat}, x < m → ff (x : Int) m = 0
  | m + 1, h => by
    show ff (x : Int) m * ((x : Int) - (m : Int)) = 0
    by_cases e : x = m
    · subst e; rw [Int.sub_self, Int.mul_zero]
    · rw [ff_none (by omega), Int.zero_mul]
theorem C_none {x : Int} {m : Nat} (h0 : 0 ≤ x) (h : x < m) : C x m = 0 := by
  refine (C_of ?_).symm
  obtain ⟨n, rfl⟩ : ∃ n : Nat, x = (n : Int) := ⟨x.toNat, by omega⟩
  rw [ff_none (by omega), Int.zero_mul]
theorem C_all : ∀ n : Nat, C (n : Int) n = 1
  | 0 => rfl
  | n + 1 => by
    rw [show ((n + 1 : Nat) : Int) = (n : Int) + 1 from rfl, C_step, C_none (m := n + 1) (by omega) (by omega), C_all n]
    rfl
/-! ### differences -/
def Df (f : Int → Int) : Int → Int := fun x => f (x + 1) - f x
def It (j : Nat) (f : Int → Int) : Int → Int := match j with
  | 0 => f
  | j + 1 => It j (Df f)
theorem same_diff {f g : Int → Int} (h : ∀ x, Df f x = Df g x) (h0 : f 0 = g 0) : ∀ x, f x = g x := by
  have up : ∀ n : Nat, f (n : Int) = g n := fun n => by
    induction n with
    | zero => exact h0
    | succ n ih =>
      have := h n
      unfold Df at this
      rw [show ((n + 1 : Nat) : Int) = (n : Int) + 1 from rfl]
      omega
  have dn : ∀ n : Nat, f (-(n : Int)) = g (-(n : Int)) := fun n => by
    induction n with
    | zero => exact h0
    | succ n ih =>
      have := h (-((n + 1 : Nat) : Int))
      unfold Df at this
      rw [show -((n + 1 : Nat) : Int) + 1 = -(n : Int) by omega] at this
      omega
  intro x
  rcases Int.le_total 0 x with hx | hx
  · have := up x.toNat; rwa [show ((x.toNat : Nat) : Int) = x by omega] at this
  · have := dn (-x).toNat; rwa [show -(((-x).toNat : Nat) : Int) = x by omega] at this
/-- the sum over steps, the first share going with chosen of j -/
def SV (j : Nat) : List Int → Int → Int
  | [], _ => 0
  | s :: l, k => s * C k j + SV (j + 1) l k
theorem SV_diff : ∀ (l : List Int) (j : Nat) (x : Int), Df (SV (j + 1) l) x = SV j l x
  | [], j, x => rfl
  | s :: l, j, x => by
    have ih : SV (j + 2) l (x + 1) - SV (j + 2) l x = SV (j + 1) l x := SV_diff l (j + 1) x
    show s * C (x + 1) (j + 1) + SV (j + 2) l (x + 1) - (s * C x (j + 1) + SV (j + 2) l x) = s * C x j + SV (j + 1) l x
    rw [C_step, Int.mul_add]
    omega
theorem SV_diff0 (s : Int) (l : List Int) (x : Int) : Df (SV 0 (s :: l)) x = SV 0 l x := by
  have : SV 1 l (x + 1) - SV 1 l x = SV 0 l x := SV_diff l 0 x
  show s * C (x + 1) 0 + SV 1 l (x + 1) - (s * C x 0 + SV 1 l x) = _
  rw [C_zero, C_zero]
  omega
theorem SV_at0 : ∀ (l : List Int) (j : Nat), SV (j + 1) l 0 = 0
  | [], j => rfl
  | s :: l, j => by
    show s * C 0 (j + 1) + SV (j + 2) l 0 = 0
    rw [C_none (by omega) (by omega), SV_at0 l (j + 1)]
    omega
theorem SV_first (s : Int) (l : List Int) : SV 0 (s :: l) 0 = s := by
  show s * C 0 0 + SV 1 l 0 = s
  rw [SV_at0, C_zero]
  omega
/-- the differences of neighbours -/
def diffs : List Int → List Int
  | a :: b :: l => (b - a) :: diffs (b :: l)
  | _ => []
theorem diffs_length : ∀ l : List Int, (diffs l).length = l.length - 1
  | [] => rfl
  | [_] => rfl
  | a :: b :: l => by rw [diffs, List.length_cons, diffs_length (b :: l)]; simp
/-- the first ones of the values, of their differences, and so on -/
def fd (l : List Int) : List Int := match l with
  | [] => []
  | a :: r => a :: fd (diffs (a :: r))
termination_by l.length
decreasing_by rw [diffs_length]; simp
theorem fd_nil : fd [] = [] := by rw [fd]
theorem fd_cons (a : Int) (r : List Int) : fd (a :: r) = a :: fd (diffs (a :: r)) := by rw [fd]
/-- f at x, x + 1, .. -/
def vals (f : Int → Int) : Nat → Int → List Int
  | 0, _ => []
  | n + 1, x => f x :: vals f n (x + 1)
theorem diffs_vals (f : Int → Int) : ∀ (n : Nat) (x : Int), diffs (vals f (n + 1) x) = vals (Df f) n x
  | 0, x => rfl
  | n + 1, x => by
    have ih := diffs_vals f n (x + 1)
    show (f (x + 1) - f x) :: diffs (vals f (n + 1) (x + 1)) = (f (x + 1) - f x) :: vals (Df f) n (x + 1)
    rw [ih]
theorem fd_vals (f : Int → Int) (n : Nat) : fd (vals f (n + 1) 0) = f 0 :: fd (vals (Df f) n 0) := by
  show fd (f 0 :: vals f n (0 + 1)) = _
  rw [fd_cons]
  congr 1
  exact congrArg fd (diffs_vals f n 0)
theorem vals_congr {f g : Int → Int} (h : ∀ x, f x = g x) (n : Nat) (x : Int) : vals f n x = vals g n x := by rw [show f = g from funext h]
theorem fd_SV : ∀ s : List Int, fd (vals (SV 0 s) s.length 0) = s
  | [] => fd_nil
  | a :: l => by
    rw [List.length_cons, fd_vals, SV_first, vals_congr (SV_diff0 a l), fd_SV l]
/-- Newton: what is told by its first n + 1 values -/
theorem newton : ∀ (n : Nat) (f : Int → Int), (∀ x, It n f x = 0) → ∀ k, SV 0 (fd (vals f n 0)) k = f k
  | 0, f, h, k => by
    show SV 0 (fd []) k = f k
    rw [fd_nil]
    exact (h k).symm
  | n + 1, f, h, k => by
    rw [fd_vals]
    refine same_diff (fun x => ?_) (SV_first _ _) k
    rw [SV_diff0]
    exact newton n (Df f) h x
/-! ### the sum over descents -/
def DV (n : Nat) (d : Int) : List Int → Int → Int
  | [], _ => 0
  | w :: l, k => w * C (k + n - 1 - d) n + DV n (d + 1) l k
theorem It_add (f g : Int → Int) : ∀ (j : Nat), It j (fun x => f x + g x) = fun x => It j f x + It j g x := by
  intro j
  induction j generalizing f g with
  | zero => rfl
  | succ j ih =>
    show It j (Df fun x => f x + g x) = fun x => It j (Df f) x + It j (Df g) x
    rw [← ih, show (Df fun x => f x + g x) = fun x => Df f x + Df g x from funext fun x => by show f (x + 1) + g (x + 1) - (f x + g x) = f (x + 1) - f x + (g (x + 1) - g x); omega]
theorem It_mul (w : Int) (f : Int → Int) : ∀ (j : Nat), It j (fun x => w * f x) = fun x => w * It j f x := by
  intro j
  induction j generalizing f with
  | zero => rfl
  | succ j ih =>
    show It j (Df fun x => w * f x) = fun x => w * It j (Df f) x
    rw [← ih, show (Df fun x => w * f x) = fun x => w * Df f x from funext fun x => by unfold Df; rw [Int.mul_sub]]
theorem It_zero : ∀ j, It j (fun _ => 0) = fun _ => 0
  | 0 => rfl
  | j + 1 => by
    show It j (Df fun _ => 0) = _
    rw [show (Df fun _ => 0) = fun _ => 0 from rfl, It_zero j]
theorem It_C (a : Int) : ∀ m, It (m + 1) (fun x => C (x + a) m) = fun _ => 0
  | 0 => rfl
  | m + 1 => by
    show It (m + 1) (Df fun x => C (x + a) (m + 1)) = _
    rw [show (Df fun x => C (x + a) (m + 1)) = fun x => C (x + a) m from funext fun x => by
      show C (x + 1 + a) (m + 1) - C (x + a) (m + 1) = C (x + a) m
      rw [show x + 1 + a = (x + a) + 1 by omega, C_step]
      omega]
    exact It_C a m
theorem DV_poly (n : Nat) : ∀ (l : List Int) (d : Int), It (n + 1) (DV n d l) = fun _ => 0
  | [], d => It_zero _
  | w :: l, d => by
    show It (n + 1) (fun k => w * C (k + n - 1 - d) n + DV n (d + 1) l k) = _
    rw [It_add, It_mul, DV_poly n l, show (fun k => C (k + n - 1 - d) n) = fun k => C (k + (n - 1 - d)) n from funext fun k => by rw [show k + (n : Int) - 1 - d = k + (n - 1 - d) by omega], It_C]
    funext x
    simp
/-- the shares that stand behind add nothing at k -/
theorem DV_back {n : Nat} {k : Int} : ∀ (l : List Int) (d : Int), k ≤ d → d + l.length ≤ n + k → DV n d l k = 0
  | [], d, _, _ => rfl
  | w :: l, d, h1, h2 => by
    rw [List.length_cons] at h2
    show w * C (k + n - 1 - d) n + DV n (d + 1) l k = 0
    rw [C_none (by omega) (by omega), DV_back l (d + 1) (by omega) (by omega)]
    omega
theorem DV_append {n : Nat} {k : Int} : ∀ (a b : List Int) (d : Int), DV n d (a ++ b) k = DV n d a k + DV n (d + a.length) b k
  | [], b, d => by simp [DV]
  | w :: a, b, d => by
    show w * C (k + n - 1 - d) n + DV n (d + 1) (a ++ b) k = w * C (k + n - 1 - d) n + DV n (d + 1) a k + DV n (d + (a.length + 1 : Nat)) b k
    rw [DV_append a b (d + 1), show d + 1 + (a.length : Int) = d + (a.length + 1 : Nat) by omega]
    omega
/-- at d + 1: those ahead, and share d itself -/
theorem DV_at {n : Nat} {l : List Int} (hl : l.length = n) (d : Nat) {w : Int} (hw : l[d]? = some w) : DV n 0 l ((d : Int) + 1) = DV n 0 (l.take d) ((d : Int) + 1) + w := by
  have hd : d < n := by have := (List.getElem?_eq_some_iff.mp hw).1; omega
  have e : l = l.take d ++ w :: l.drop (d + 1) := by
    have := (List.getElem?_eq_some_iff.mp hw).2
    rw [← this, List.getElem_cons_drop, List.take_append_drop]
  have hlen : (l.take d).length = d := by rw [List.length_take]; omega
  have h2 : (l.drop (d + 1)).length = n - (d + 1) := by rw [List.length_drop, hl]
  conv => lhs; rw [e]
  rw [DV_append, hlen]
  show _ + (w * C ((d : Int) + 1 + n - 1 - (0 + (d : Int))) n + DV n (0 + (d : Int) + 1) (l.drop (d + 1)) _) = _
  rw [show (d : Int) + 1 + (n : Int) - 1 - (0 + (d : Int)) = (n : Int) by omega, C_all, DV_back (l.drop (d + 1)) (0 + (d : Int) + 1) (by omega) (by rw [h2]; omega)]
  omega
theorem DV_zero {n : Nat} {l : List Int} (hl : l.length = n) : DV n 0 l 0 = 0 := DV_back l 0 (by omega) (by rw [hl]; omega)
/-- what steps_of tells -/
def stepsOf (w : List Int) : List Int := fd (vals (DV w.length 0 w) (w.length + 1) 0)
theorem fd_length : ∀ (n : Nat) (l : List Int), l.length = n → (fd l).length = n
  | 0, l, h => by rw [List.length_eq_zero_iff.mp h, fd_nil]; rfl
  | n + 1, [], h => by simp at h
  | n + 1, a :: r, h => by rw [fd_cons, List.length_cons, fd_length n _ (by rw [diffs_length, h]; rfl)]
theorem vals_length (f : Int → Int) : ∀ n x, (vals f n x).length = n
  | 0, _ => rfl
  | n + 1, x => by rw [vals, List.length_cons, vals_length f n]
theorem steps_length (w : List Int) : (stepsOf w).length = w.length + 1 := fd_length _ _ (vals_length _ _ _)
theorem steps_first (w : List Int) : ∃ r, stepsOf w = 0 :: r := by
  unfold stepsOf
  rw [fd_vals, DV_zero rfl]
  exact ⟨_, rfl⟩
/-- both sums are one, at every k -/
theorem two_sums (w : List Int) (k : Int) : SV 0 (stepsOf w) k = DV w.length 0 w k := newton _ _ (fun x => by rw [DV_poly]) k
/-- what descents_from tells: share by share -/
def Back (s w : List Int) : Prop := s.length = w.length + 1 ∧ ∀ (d : Nat) (x : Int), w[d]? = some x → x = SV 0 s ((d : Int) + 1) - DV w.length 0 (w.take d) ((d : Int) + 1)
theorem Back.sums {s w : List Int} (h : Back s w) {d : Nat} (hd : d < w.length) : DV w.length 0 w ((d : Int) + 1) = SV 0 s ((d : Int) + 1) := by
  rw [DV_at rfl d (w := w[d]) (by simp [hd])]
  have := h.2 d w[d] (by simp [hd])
  omega
theorem vals_eq {f g : Int → Int} : ∀ (n : Nat) (x : Int), (∀ j : Nat, j < n → f (x + j) = g (x + j)) → vals f n x = vals g n x
  | 0, _, _ => rfl
  | n + 1, x, h => by
    have e := h 0 (by omega)
    rw [show x + ((0 : Nat) : Int) = x by omega] at e
    have r : vals f n (x + 1) = vals g n (x + 1) := vals_eq n (x + 1) fun j hj => by
      have := h (j + 1) (by omega)
      rwa [show x + ((j + 1 : Nat) : Int) = x + 1 + (j : Int) by omega] at this
    rw [vals, vals, e, r]
/-- from steps to descents and back -/
theorem Back.steps {r w : List Int} (h : Back (0 :: r) w) : stepsOf w = 0 :: r := by
  have hl := h.1
  have e : vals (DV w.length 0 w) (w.length + 1) 0 = vals (SV 0 (0 :: r)) (w.length + 1) 0 := by
    refine vals_eq _ _ fun j hj => ?_
    rw [Int.zero_add]
    cases j with
    | zero => exact (DV_zero rfl).trans (SV_first 0 r).symm
    | succ j => exact h.sums (by omega)
  unfold stepsOf
  rw [e, ← hl, fd_SV]
/-- from descents to steps and back -/
theorem Back.same {w v : List Int} (h : Back (stepsOf w) v) : v = w := by
  have hl : v.length = w.length := by have := h.1; rw [steps_length] at this; omega
  have key : ∀ d : Nat, d ≤ w.length → v.take d = w.take d := by
    intro d
    induction d with
    | zero => intro _; rfl
    | succ d ih =>
      intro hd
      have ih := ih (by omega)
      rw [List.take_succ, List.take_succ, ih]
      obtain ⟨p, hv⟩ : ∃ p, v[d]? = some p := ⟨_, List.getElem?_eq_getElem (by omega)⟩
      obtain ⟨q, hw⟩ : ∃ q, w[d]? = some q := ⟨_, List.getElem?_eq_getElem (by omega)⟩
      have e1 := h.2 d p hv
      rw [two_sums, hl, ih, DV_at rfl d hw] at e1
      rw [hv, hw, show p = q by omega]
  have := key w.length (Nat.le_refl _)
  rwa [List.take_of_length_le (by omega), List.take_of_length_le (Nat.le_refl _)] at this
/-! ### how great they are -/
def Bg (b : Nat) (x : Int) : Prop := x.natAbs < 2 ^ b
theorem Bg.mono {a b : Nat} {x : Int} (h : Bg a x) (hab : a ≤ b) : Bg b x := Nat.lt_of_lt_of_le h (Nat.pow_le_pow_right (by omega) hab)
theorem Bg.mul {a b : Nat} {x y : Int} (h : Bg a x) (g : Bg b y) : Bg (a + b) (x * y) := by
  unfold Bg at *
  rw [Nat.pow_add, Int.natAbs_mul]
  exact Nat.mul_lt_mul_of_lt_of_lt h g
theorem Bg.add {a : Nat} {x y : Int} (h : Bg a x) (g : Bg a y) : Bg (a + 1) (x + y) := by
  unfold Bg at *
  rw [Nat.pow_succ]
  generalize 2 ^ a = z at *
  omega
theorem Bg.sub {a : Nat} {x y : Int} (h : Bg a x) (g : Bg a y) : Bg (a + 1) (x - y) := by
  unfold Bg at *
  rw [Nat.pow_succ]
  generalize 2 ^ a = z at *
  omega
theorem Bg.zero {a : Nat} : Bg a 0 := Nat.two_pow_pos a
theorem SV_big {a b : Nat} {k : Int} (hC : ∀ j, j < 20 → Bg b (C k j)) : ∀ (l : List Int) (j : Nat), j + l.length ≤ 20 → (∀ x ∈ l, Bg a x) → Bg (a + b + l.length) (SV j l k)
  | [], j, _, _ => Bg.zero
  | s :: l, j, h, hs => by
    rw [List.length_cons] at h ⊢
    have h1 := (hs s List.mem_cons_self).mul (hC j (by omega))
    have h2 := SV_big hC l (j + 1) (by omega) fun x hx => hs x (List.mem_cons_of_mem _ hx)
    exact ((h1.mono (Nat.le_add_right _ l.length)).add h2).mono (by omega)
theorem DV_big {a b n : Nat} {k : Int} (hC : ∀ d : Nat, d < 20 → Bg b (C (k + n - 1 - d) n)) : ∀ (l : List Int) (d : Nat), d + l.length ≤ 20 → (∀ x ∈ l, Bg a x) → Bg (a + b + l.length) (DV n d l k)
  | [], j, _, _ => Bg.zero
  | s :: l, j, h, hs => by
    rw [List.length_cons] at h ⊢
    have h1 := (hs s List.mem_cons_self).mul (hC j (by omega))
    have h2 := DV_big hC l (j + 1) (by omega) fun x hx => hs x (List.mem_cons_of_mem _ hx)
    exact ((h1.mono (Nat.le_add_right _ l.length)).add h2).mono (by omega)
theorem diffs_big {a : Nat} : ∀ l : List Int, (∀ x ∈ l, Bg a x) → ∀ x ∈ diffs l, Bg (a + 1) x
  | [], _, x, hx => nomatch hx
  | [_], _, x, hx => nomatch hx
  | u :: v :: l, h, x, hx => by
    rw [diffs] at hx
    rcases List.mem_cons.mp hx with rfl | hm
    · exact (h v (by simp)).sub (h u (by simp))
    · exact diffs_big (v :: l) (fun y hy => h y (List.mem_cons_of_mem _ hy)) x hm
theorem fd_big : ∀ (n a : Nat) (l : List Int), l.length = n → (∀ x ∈ l, Bg a x) → ∀ x ∈ fd l, Bg (a + n) x
  | 0, a, l, h, hs, x, hx => by rw [List.length_eq_zero_iff.mp h, fd_nil] at hx; nomatch hx
  | n + 1, a, [], h, hs, x, hx => by simp at h
  | n + 1, a, u :: r, h, hs, x, hx => by
    rw [fd_cons] at hx
    rcases List.mem_cons.mp hx with rfl | hm
    · exact (hs x (by simp)).mono (by omega)
    · exact (fd_big n (a + 1) _ (by rw [diffs_length, h]; rfl) (diffs_big _ hs) x hm).mono (by omega)
/-- one turn of the product and the quotient -/
theorem turn {x c : Int} {k : Nat} (h : c * fact k = ff x k) : c * (x - k) / (k + 1) * fact (k + 1) = ff x (k + 1) := by
  obtain ⟨t, e⟩ := dvd_ff (k + 1) x
  have e1 : fact k * (c * (x - k)) = fact k * ((k + 1) * t) := by
    rw [show fact k * ((k + 1) * t) = fact (k + 1) * t by rw [show fact (k + 1) = fact k * (k + 1) from rfl, Int.mul_assoc], ← e, show ff x (k + 1) = ff x k * (x - k) from rfl, ← h]
    rw [← Int.mul_assoc, Int.mul_comm (fact k) c]
  have e2 : c * (x - k) = (k + 1) * t := Int.eq_of_mul_eq_mul_left (by have := fact_pos k; omega) e1
  rw [e2, Int.mul_ediv_cancel_left _ (by omega), e, Int.mul_comm]
theorem ff_abs {x : Int} (h : x.natAbs ≤ 2 ^ 340) : ∀ k, k ≤ 20 → (ff x k).natAbs ≤ 2 ^ (350 * k)
  | 0, _ => by simp [ff]
  | k + 1, hk => by
    have ih := ff_abs h k (by omega)
    have h2 : (x - k).natAbs ≤ 2 ^ 350 := by
      have : (2 : Nat) ^ 350 = 2 ^ 340 * 1024 := by rw [show 350 = 340 + 10 from rfl, Nat.pow_add]
      have h3 : (0 : Nat) < 2 ^ 340 := Nat.two_pow_pos _
      rw [this]
      generalize (2 : Nat) ^ 340 = z at *
      omega
    rw [show ff x (k + 1) = ff x k * (x - k) from rfl, Int.natAbs_mul, show 350 * (k + 1) = 350 * k + 350 by omega, Nat.pow_add]
    exact Nat.mul_le_mul ih h2
open PySem L2 L3
local macro_rules | `(tactic| walk_at "rd") => `(tactic| simp only [wSeq, wIfS, wRet, wNext, wSet, wSetI, wSetX, wPure, wPureR, wDrop, wOwn, wOwnI, vAll, vRd, List.map_cons, List.map_nil, Sv.all, Sv.rd, wVar, List.getElem?_cons_zero, List.getElem?_cons_succ, wC, wBin, wCB, wCons, wNil, wTest, wNotT, wAndT, wOrT, wAnd, wOr, wNot, wIf, wNeg, wChain, wTup, wLst, wIsi, wWalk, wRange, wRange2, gN, g2, hN, h2, wComp, benv, wTrue, wM1, appF, addF_int, addF_lst, addF_tup, catF_lst, subF_int, mulF_int, mulBF_int, isT_int, isT_bool, isT_tup, isT_tupI, wFull, wSl, wPart, wNoPart, wEnum, wZip, modF_int, divF_int, powF_int, ltF_int, leF_int, gtF_int, geF_int, cmpF_int, eqSF_int, neSF_int, eqSF_bl, inF_tup, inF_lst, ixF_lst, ixF_tup, ixF_scr, lenF_lst, lenF_tup, lenF_scr, tupleF_lst, tupleF_tup, listF_lst, listF_tup, sortF_ints, blF_bls, List.set_cons_zero, List.set_cons_succ, List.set_nil, List.length_cons, List.length_nil, List.length_map, decide_eq_true_eq, List.nil_append])
def top (i : Nat) : Stmt := PySem.Challenge.pw_risecount_k24_bases_there_and_back.main.body.getD i (.Pass ⟨0, 0, 0, 0⟩)
section
variable {P : Program} {w : World} {K : PySem.W.Frag} {mg : Str → Option Value} {base : Heap} {f : Addr} {fd : FuncData} {kk : Nat}
abbrev s_l_cell : Stmt := top 12
theorem sc_l_cell : FnScope ["_law_script", "_law_k"] ["_law_script", "_law_k"] (defScope s_l_cell) := ⟨rfl, rfl, rfl, by decide +kernel, rfl, by decide +kernel, by decide +kernel⟩
/-- some int -/
def R_cell : L3.Spec := fun ds Q => ∃ ns k, ds = [.scr ns, .int k] ∧ ∀ c, Q (.int c)
theorem ok_cell (F : Fun K "_law_cell" "_law_cell" s_l_cell f fd) (m_len : mg "len" = none) : FnOk P w K mg base CX0 (kk + 1) f fd ["_law_script", "_law_k"] (sp3 K R_cell) := by
  refine fun3 F sc_l_cell ?_ (fun cdv A outer s H E hr => ?_)
  · rintro ds Q ⟨ns, k, rfl, _⟩; rfl
  refine ⟨_, (seq3 (ifS3 (eqST3 (len3 m_len (cons3 (x3 0) nil3)) i3)
      (last3 (ret3 i3))
      end3)
    (last3 (ret3 (ix3 (x3 0) (mod3 (x3 1) (len3 m_len (cons3 (x3 0) nil3))))))), ?_⟩
  rintro ds Q ⟨ns, k, rfl, q⟩
  rw [show start3 _ _ = [Sv.ro (.scr ns), Sv.ro (.int k)] from rfl]
  walk_at "rd"
  refine ite2 (fun c => q _) (fun c => ?_)
  have hp : (0 : Int) < ns.length := by
    have : (ns.length : Int) ≠ 0 := by simpa using c
    omega
  obtain ⟨x, e, _⟩ := atI_ok (xs := ns) (i := k % (ns.length : Int)) (Int.emod_nonneg _ (by omega)) (Int.emod_lt_of_pos _ hp)
  refine ⟨hp, ?_⟩
  rw [e]
  exact q x
abbrev s_l_mixed : Stmt := top 10
theorem sc_l_mixed : FnScope ["_law_cell_here", "_law_k", "_law_salt", "_law_one", "_law_two"] ["_law_cell_here", "_law_k", "_law_salt"] (defScope s_l_mixed) := ⟨rfl, rfl, rfl, by decide +kernel, rfl, by decide +kernel, by decide +kernel⟩
def R_mixed : L3.Spec := fun ds Q => ∃ c k s, ds = [.int c, .int k, .int s] ∧ 0 ≤ k ∧ k < 100000 ∧ ∀ r, Q (.int r)
theorem ok_mixed (F : Fun K "_law_mixed" "_law_mixed" s_l_mixed f fd) : FnOk P w K mg base CX0 (kk + 1) f fd ["_law_cell_here", "_law_k", "_law_salt"] (sp3 K R_mixed) := by
  refine fun3 F sc_l_mixed ?_ (fun cdv A outer s H E hr => ?_)
  · rintro ds Q ⟨c, k, s, rfl, _⟩; rfl
  have nd := sc_l_mixed.nd
  refine ⟨_, (seq3 (set3 (i := 3) nd (mod3 (mulI3 (add3 (add3 (add3 (x3 0) (mulI3 (mulI3 i3 (x3 1)) (x3 1))) (mulI3 i3 (x3 1))) (x3 2)) i3) i3))
    (seq3 (set3 (i := 4) nd (mod3 (add3 (add3 (mulI3 (x3 3) (add3 (div3 (x3 3) i3) i3)) (mulI3 i3 (x3 1))) (x3 2)) i3))
    (last3 (ret3 (mod3 (mulI3 (x3 4) i3) i3))))), ?_⟩
  rintro ds Q ⟨c, k, salt, rfl, h0, h1, q⟩
  rw [show start3 _ _ = [Sv.ro (.int c), Sv.ro (.int k), Sv.ro (.int salt), Sv.no, Sv.no] from rfl]
  walk_at "rd"
  have sm : ∀ {i : Int} (j : Int), 0 ≤ i → i < 2 ^ 40 → CMul i j := fun j a b => .inl ⟨by omega, by omega⟩
  have sr : ∀ {j : Int} (i : Int), 0 ≤ j → j < 2 ^ 40 → CMul i j := fun j a b => .inr ⟨by omega, by omega⟩
  refine ⟨sr _ h0 (by omega), sr _ h0 (by omega), sr _ h0 (by omega), sr _ (by omega) (by omega), by omega, ⟨by omega, by omega⟩, ?_⟩
  generalize ho : (c + 11 * k * k + 17 * k + salt) * 48271 % 2147483647 = o
  have o0 : 0 ≤ o := by rw [← ho]; exact Int.emod_nonneg _ (by omega)
  have o1 : o < 2147483647 := by rw [← ho]; exact Int.emod_lt_of_pos _ (by omega)
  exact ⟨sm _ o0 (by omega), sr _ h0 (by omega), by omega, sr _ (by omega) (by omega), by omega, q _⟩
abbrev s_l_draws : Stmt := top 11
theorem sc_l_draws : FnScope ["_law_cell_here", "_law_many", "_law_salt", "_law_found", "_law_left", "_law_k"] ["_law_cell_here", "_law_many", "_law_salt"] (defScope s_l_draws) := ⟨rfl, rfl, rfl, by decide +kernel, rfl, by decide +kernel, by decide +kernel⟩
def R_draws : L3.Spec := fun ds Q => ∃ c m s, ds = [.int c, .int m, .int s] ∧ 0 ≤ m ∧ m < 1000 ∧ ∀ xs : List Int, (xs.length : Int) = m → Q (.lst (xs.map D.int))
theorem ok_draws {g : Addr} {gd : FuncData} (F : Fun K "_law_draws" "_law_draws" s_l_draws f fd) (F_l_mixed : FnOk P w K mg base CX0 kk g gd ["_law_cell_here", "_law_k", "_law_salt"] (sp3 K R_mixed)) (m_l_mixed : mg "_law_mixed" = some (.ref g)) (k_l_mixed : PySem.W.keepIn K (.ref g) = true) (b_l_mixed : Binds K gd ["_law_cell_here", "_law_k", "_law_salt"] []) (m_range : mg "range" = none) :
    FnOk P w K mg base CX0 (kk + 1) f fd ["_law_cell_here", "_law_many", "_law_salt"] (sp3 K R_draws) := by
  refine fun3 F sc_l_draws ?_ (fun cdv A outer s H E hr => ?_)
  · rintro ds Q ⟨c, k, s, rfl, _⟩; rfl
  have nd := sc_l_draws.nd
  refine ⟨_, (seq3 (own3 (i := 3) nd (lst3 nil3))
    (seq3 (set3 (i := 4) nd i3)
    (seqM3 (ifS3 (geT3 (x3 0) (pow3 i3 i3))
      (last3 (set3 (i := 4) nd (x3 0)))
      end3)
    (seq3 (for3 rfl PassesOwn.never (range3 m_range (cons3 (x3 1) nil3)) (name3 (i := 5) nd)
      (last3 (ifS3 (gtT3 (x3 4) i3)
        (seq3 (expr3 (app3 (i := 3) (pxr3 (mod3 (x3 4) i3))))
        (last3 (set3 (i := 4) nd (div3 (x3 4) i3))))
        (last3 (expr3 (app3 (i := 3) (pxr3 (call3 F_l_mixed hr m_l_mixed k_l_mixed b_l_mixed (cons3 (x3 0) (cons3 (x3 5) (cons3 (x3 2) nil3)))))))))))
    (last3 (ret3 (x3 3))))))), ?_⟩
  rintro ds Q ⟨c, m, salt, rfl, h0, h1, q⟩
  rw [show start3 _ _ = [Sv.ro (.int c), Sv.ro (.int m), Sv.ro (.int salt), Sv.no, Sv.no, Sv.no] from rfl]
  walk_at "rd"
  refine ⟨Nat.zero_le _, fun ρ => ∃ l : Int, ρ = [Sv.ro (.int c), Sv.ro (.int m), Sv.ro (.int salt), Sv.ow (.lst []), Sv.ro (.int l), Sv.no], ?_, ?_⟩
  · refine ⟨⟨by omega, by omega, by omega⟩, ite2 (fun _ => ⟨c, rfl⟩) (fun _ => ⟨0, rfl⟩)⟩
  rintro _ ⟨l, rfl⟩
  walk_at "rd"
  have em : ((m.toNat : Nat) : Int) = m := by omega
  refine for_rng m.toNat (fun i ρ => ∃ (xs : List Int) (l : Int) (kv : Sv), xs.length = i ∧ ρ = [Sv.ro (.int c), Sv.ro (.int m), Sv.ro (.int salt), Sv.ow (.lst (xs.map D.int)), Sv.ro (.int l), kv]) (by omega)
    (fun Q q => by rw [em] at q; walk_at "rd"; exact q) ⟨[], l, Sv.no, rfl, rfl⟩ ?_ ?_
  · rintro i _ hi ⟨xs, l, kv, hx, rfl⟩
    have hz : xs.length < sizeLine := by rw [sizeLine_eq]; omega
    walk_at "rd"
    refine ite2 (fun hl => ?_) (fun hl => ?_)
    · exact ⟨trivial, by omega, hz, ⟨by omega, by omega⟩, xs ++ [l % 64], _, _, by simp [hx], by rw [List.map_append]; rfl⟩
    · exact ⟨trivial, c, i, salt, rfl, by omega, by omega, fun r => ⟨hz, xs ++ [r], _, _, by simp [hx], by rw [List.map_append]; rfl⟩⟩
  · rintro _ ⟨xs, l, kv, hx, rfl⟩
    walk_at "rd"
    exact q xs (by omega)
/-- x is of at most some hundred figures -/
def Sm (x : Int) : Prop := x.natAbs ≤ 2 ^ 340
abbrev s_chosen : Stmt := top 1
theorem sc_chosen : FnScope ["x", "m", "many", "step"] ["x", "m"] (defScope s_chosen) := ⟨rfl, rfl, rfl, by decide +kernel, rfl, by decide +kernel, by decide +kernel⟩
/-- what is asked of chosen -/
def R_chosen : L3.Spec := fun ds Q => ∃ (x : Int) (m : Nat), ds = [.int x, .int m] ∧ m ≤ 20 ∧ Sm x ∧ Q (.int (C x m))
theorem c_abs {x c : Int} {k : Nat} (h : Sm x) (hk : k ≤ 20) (e : c * fact k = ff x k) : c.natAbs < 2 ^ 7001 := by
  have h1 := ff_abs h k hk
  rw [← e, Int.natAbs_mul] at h1
  have h2 : 1 ≤ (fact k).natAbs := by have := fact_pos k; omega
  have h3 : c.natAbs ≤ c.natAbs * (fact k).natAbs := Nat.le_mul_of_pos_right _ h2
  exact Nat.lt_of_le_of_lt (Nat.le_trans h3 h1) (Nat.pow_lt_pow_right (by decide) (by omega))
theorem t_abs {x : Int} {k : Nat} (h : Sm x) (hk : k ≤ 20) : (ff x k).natAbs < 2 ^ 7001 := Nat.lt_of_le_of_lt (ff_abs h k hk) (Nat.pow_lt_pow_right (by decide) (by omega))
theorem d_abs {x : Int} {k : Nat} (h : Sm x) (hk : k ≤ 20) : (x - k).natAbs < 2 ^ 350 := by
  unfold Sm at h
  have e : (2 : Nat) ^ 350 = 2 ^ 340 * 1024 := by rw [show 350 = 340 + 10 from rfl, Nat.pow_add]
  have h3 : (0 : Nat) < 2 ^ 340 := Nat.two_pow_pos _
  rw [e]
  generalize (2 : Nat) ^ 340 = z at *
  omega
theorem mul_t {x : Int} {k : Nat} (h : Sm x) (hk : k ≤ 20) : PySem.IntMulOk (ff x k) (x - k) := mulB_ok (t_abs h hk) (d_abs h hk) (by decide)
theorem mul_c {x c : Int} {k : Nat} (h : Sm x) (hk : k ≤ 20) (e : c * fact k = ff x k) : PySem.IntMulOk c (x - k) := mulB_ok (c_abs h hk e) (d_abs h hk) (by decide)
theorem ok_chosen (F : Fun K "chosen" "chosen" s_chosen f fd) (m_range : mg "range" = none) : FnOk P w K mg base CX0 (kk + 1) f fd ["x", "m"] (sp3 K R_chosen) := by
  refine fun3 F sc_chosen ?_ (fun cdv A outer s H E hr => ?_)
  · rintro ds Q ⟨x, m, rfl, _⟩; rfl
  have nd := sc_chosen.nd
  refine ⟨_, (seq3 (set3 (i := 2) nd i3)
    (seq3 (for3 rfl PassesOwn.never (range3 m_range (cons3 (x3 1) nil3)) (name3 (i := 3) nd)
      (last3 (set3 (i := 2) nd (div3 (mulB3 (x3 2) (sub3 (x3 0) (x3 3))) (add3 (x3 3) i3)))))
    (last3 (ret3 (x3 2))))), ?_⟩
  rintro ds Q ⟨x, m, rfl, hm, hx, q⟩
  rw [show start3 _ _ = [Sv.ro (.int x), Sv.ro (.int m), Sv.no, Sv.no] from rfl]
  walk_at "rd"
  refine for_rng m (fun i ρ => ∃ (c : Int) (kv : Sv), c * fact i = ff x i ∧ ρ = [Sv.ro (.int x), Sv.ro (.int m), Sv.ro (.int c), kv]) (by omega)
    (fun Q q => by walk_at "rd"; exact q) ⟨1, Sv.no, rfl, rfl⟩ ?_ ?_
  · rintro i _ hi ⟨c, kv, hc, rfl⟩
    walk_at "rd"
    exact ⟨mul_c hx (by omega) hc, ⟨by omega, by omega⟩, _, _, turn hc, rfl⟩
  · rintro _ ⟨c, kv, hc, rfl⟩
    walk_at "rd"
    rw [C_of hc]; exact q
abbrev s_l_great : Stmt := top 13
theorem sc_l_great : FnScope ["_law_cell_here", "_law_most", "_law_salt", "_law_found", "_law_k"] ["_law_cell_here", "_law_most", "_law_salt"] (defScope s_l_great) := ⟨rfl, rfl, rfl, by decide +kernel, rfl, by decide +kernel, by decide +kernel⟩
def R_great : L3.Spec := fun ds Q => ∃ c t s, ds = [.int c, .int t, .int s] ∧ 0 < t ∧ ∀ r, 0 ≤ r → r < t → Q (.int r)
theorem ok_great {g : Addr} {gd : FuncData} (F : Fun K "_law_great" "_law_great" s_l_great f fd) (F_l_mixed : FnOk P w K mg base CX0 kk g gd ["_law_cell_here", "_law_k", "_law_salt"] (sp3 K R_mixed)) (m_l_mixed : mg "_law_mixed" = some (.ref g)) (k_l_mixed : PySem.W.keepIn K (.ref g) = true) (b_l_mixed : Binds K gd ["_law_cell_here", "_law_k", "_law_salt"] []) (m_range : mg "range" = none) :
    FnOk P w K mg base CX0 (kk + 1) f fd ["_law_cell_here", "_law_most", "_law_salt"] (sp3 K R_great) := by
  refine fun3 F sc_l_great ?_ (fun cdv A outer s H E hr => ?_)
  · rintro ds Q ⟨c, t, s, rfl, _⟩; rfl
  have nd := sc_l_great.nd
  refine ⟨_, (seq3 (ifS3 (geT3 (x3 0) (pow3 i3 i3))
      (last3 (ret3 (mod3 (div3 (x3 0) i3) (x3 1))))
      end3)
    (seq3 (set3 (i := 3) nd i3)
    (seq3 (for3 rfl PassesOwn.never (range3 m_range (cons3 i3 nil3)) (name3 (i := 4) nd)
      (last3 (set3 (i := 3) nd (add3 (mulI3 (x3 3) i3) (call3 F_l_mixed hr m_l_mixed k_l_mixed b_l_mixed (cons3 (x3 0) (cons3 (x3 4) (cons3 (x3 2) nil3))))))))
    (last3 (ret3 (mod3 (x3 3) (x3 1))))))), ?_⟩
  rintro ds Q ⟨c, t, salt, rfl, ht, q⟩
  rw [show start3 _ _ = [Sv.ro (.int c), Sv.ro (.int t), Sv.ro (.int salt), Sv.no, Sv.no] from rfl]
  walk_at "rd"
  refine ⟨⟨by omega, by omega, by omega⟩, ite2 (fun _ => ⟨⟨by omega, by omega⟩, ht, q _ (Int.emod_nonneg _ (by omega)) (Int.emod_lt_of_pos _ ht)⟩) (fun _ => ?_)⟩
  refine for_rng 20 (fun i ρ => ∃ (v : Int) (kv : Sv), ρ = [Sv.ro (.int c), Sv.ro (.int t), Sv.ro (.int salt), Sv.ro (.int v), kv]) (by omega)
    (fun Q q => by walk_at "rd"; exact q) ⟨0, Sv.no, rfl⟩ ?_ ?_
  · rintro i _ hi ⟨v, kv, rfl⟩
    walk_at "rd"
    exact ⟨.inr ⟨by omega, by omega⟩, c, i, salt, rfl, by omega, by omega, fun r => ⟨_, _, rfl⟩⟩
  · rintro _ ⟨v, kv, rfl⟩
    walk_at "rd"
    exact ⟨ht, q _ (Int.emod_nonneg _ (by omega)) (Int.emod_lt_of_pos _ ht)⟩
end
/-! ### bounds -/
/-- k is of at most ninety figures -/
def Sk (k : Int) : Prop := k.natAbs ≤ 2 ^ 300
theorem pow_room : 2 ^ 300 + 64 ≤ 2 ^ 340 := by decide +kernel
theorem Sk.near {k y : Int} (h : Sk k) (d : y.natAbs ≤ k.natAbs + 64) : Sm y := Nat.le_trans (Nat.le_trans d (Nat.add_le_add_right h 64)) pow_room
theorem sk_small {k : Int} (h : k.natAbs ≤ 64) : Sk k := Nat.le_trans h (by decide +kernel)
theorem C_big {x : Int} {m : Nat} (h : Sm x) (hm : m ≤ 20) : Bg 7001 (C x m) := c_abs h hm (C_mul x m)
def Bi (x : Int) : Prop := Bg 1000000 x
theorem Bi.mul {w x : Int} {m : Nat} (h : Bi w) (hx : Sm x) (hm : m ≤ 20) : PySem.IntMulOk w (C x m) := mulB_ok h (C_big hx hm) (by decide)
theorem Bi.of {a : Nat} {x : Int} (h : Bg a x) (ha : a ≤ 1000000) : Bi x := h.mono ha
theorem Sk.big {k : Int} (h : Sk k) {n d : Nat} (hn : n ≤ 20) (hd : d ≤ 20) : Bg 7001 (C (k + n - 1 - d) n) := C_big (h.near (by omega)) hn
theorem Sk.bigS {k : Int} (h : Sk k) {j : Nat} (hj : j ≤ 20) : Bg 7001 (C k j) := C_big (h.near (by omega)) hj
/-! ### the sums as lists -/
theorem DV_sum {n : Nat} {k : Int} : ∀ (ws : List Int) (d : Nat), DV n d ws k = ((ws.zipIdx d).map fun p => p.1 * C (k + n - 1 - (p.2 : Int)) n).sum
  | [], d => rfl
  | w :: ws, d => by
    rw [List.zipIdx_cons, List.map_cons, List.sum_cons, ← DV_sum ws (d + 1)]
    rfl
theorem SV_sum {k : Int} : ∀ (ws : List Int) (j : Nat), SV j ws k = ((ws.zipIdx j).map fun p => p.1 * C k p.2).sum
  | [], d => rfl
  | w :: ws, d => by
    rw [List.zipIdx_cons, List.map_cons, List.sum_cons, ← SV_sum ws (d + 1)]
    rfl
theorem range_zip {β : Type} (g : Int → Nat → β) : ∀ (ws : List Int) (d : Nat), (List.range ws.length).map (fun j => g (ws.getD j 0) (d + j)) = (ws.zipIdx d).map fun p => g p.1 p.2
  | [], d => rfl
  | w :: ws, d => by
    rw [List.length_cons, List.range_succ_eq_map, List.map_cons, List.map_map, List.zipIdx_cons, List.map_cons, ← range_zip g ws (d + 1)]
    congr 1
    refine List.map_congr_left fun j _ => ?_
    show g (ws.getD j 0) (d + (j + 1)) = g (ws.getD j 0) (d + 1 + j)
    rw [show d + (j + 1) = d + 1 + j by omega]
theorem zip_mem {ws : List Int} {p : Int × Nat} (h : p ∈ ws.zipIdx) : p.1 ∈ ws ∧ p.2 < ws.length := by
  obtain ⟨i, hi⟩ := List.mem_iff_getElem?.mp h
  rw [List.getElem?_zipIdx] at hi
  cases q : ws[i]? with
  | none => rw [q] at hi; cases hi
  | some w =>
    rw [q] at hi
    have e : (w, 0 + i) = p := Option.some.inj hi
    subst e
    exact ⟨List.mem_of_getElem? q, by have := (List.getElem?_eq_some_iff.mp q).1; simpa using this⟩
theorem enum_ints (ws : List Int) : enumD (ws.map D.int) = ws.zipIdx.map fun p => D.tup [.int (p.2 : Int), .int p.1] := by
  unfold enumD
  rw [List.zipIdx_map, List.map_map]
  rfl
theorem rng_map (n : Nat) : (rngI 0 n).map D.int = (List.range n).map fun j : Nat => D.int (j : Int) := by
  unfold rngI
  rw [List.map_map]
  refine List.map_congr_left fun j _ => ?_
  show D.int (0 + (j : Int)) = _
  rw [Int.zero_add]
theorem at_ints {ws : List Int} {j : Nat} (h : j < ws.length) : atI (ws.map D.int) (j : Int) = some (.int (ws.getD j 0)) := by
  rw [atI_map]
  obtain ⟨x, e, e2⟩ := atI_ok (xs := ws) (i := (j : Int)) (by omega) (by omega)
  rw [e]
  have : ws[j]? = some x := by simpa using e2
  rw [List.getD_eq_getElem?_getD, this]
  rfl
end K24

end
section
set_option Elab.async false
set_option linter.all false
set_option maxRecDepth 100000
set_option maxHeartbeats 4100000
namespace K24
open PySem L2 L3
local macro_rules | `(tactic| walk_at "rd") => `(tactic| simp only [wSeq, wIfS, wRet, wNext, wSet, wSetI, wSetX, wPure, wPureR, wDrop, wOwn, wOwnI, vAll, vRd, List.map_cons, List.map_nil, Sv.all, Sv.rd, wVar, List.getElem?_cons_zero, List.getElem?_cons_succ, wC, wBin, wCB, wCons, wNil, wTest, wNotT, wAndT, wOrT, wAnd, wOr, wNot, wIf, wNeg, wChain, wTup, wLst, wIsi, wWalk, wRange, wRange2, gN, g2, hN, h2, wComp, wTrue, wM1, appF, addF_int, addF_lst, addF_tup, catF_lst, subF_int, mulF_int, mulBF_int, isT_int, isT_bool, isT_tup, isT_tupI, wFull, wSl, wPart, wNoPart, wEnum, wZip, modF_int, divF_int, powF_int, ltF_int, leF_int, gtF_int, geF_int, cmpF_int, eqSF_int, neSF_int, eqSF_bl, inF_tup, inF_lst, ixF_lst, ixF_tup, ixF_scr, lenF_lst, lenF_tup, lenF_scr, tupleF_lst, tupleF_tup, listF_lst, listF_tup, sortF_ints, blF_bls, List.set_cons_zero, List.set_cons_succ, List.set_nil, List.length_cons, List.length_nil, List.length_map, decide_eq_true_eq, List.nil_append])
section
variable {P : Program} {w : World} {K : PySem.W.Frag} {mg : Str → Option Value} {base : Heap} {f : Addr} {fd : FuncData} {kk : Nat}
/-- a tuple or a list of ints -/
def Seq (d : D) (ws : List Int) : Prop := d = .tup (ws.map D.int) ∨ d = .lst (ws.map D.int)
abbrev s_sumd : Stmt := top 2
theorem sc_sumd : FnScope ["shares", "n", "k"] ["shares", "n", "k"] (defScope s_sumd) := ⟨rfl, rfl, rfl, by decide +kernel, rfl, by decide +kernel, by decide +kernel⟩
def R_sumd : L3.Spec := fun ds Q => ∃ (d : D) (ws : List Int) (n : Nat) (k : Int), ds = [d, .int n, .int k] ∧ Seq d ws ∧ ws.length ≤ 20 ∧ n ≤ 20 ∧ (∀ x ∈ ws, Bi x) ∧ Sk k ∧ Q (.int (DV n 0 ws k))
theorem line20 {α : Type} {l : List α} (h : l.length ≤ 100) : ([] : List Int).length + l.length ≤ sizeLine := by rw [sizeLine_eq]; simp; omega
theorem ok_sumd {g : Addr} {gd : FuncData} (F : Fun K "sum_over_descents" "sum_over_descents" s_sumd f fd) (F_chosen : FnOk P w K mg base CX0 kk g gd ["x", "m"] (sp3 K R_chosen)) (m_chosen : mg "chosen" = some (.ref g)) (k_chosen : PySem.W.keepIn K (.ref g) = true) (b_chosen : Binds K gd ["x", "m"] []) (m_sum : mg "sum" = none) (m_enumerate : mg "enumerate" = none) :
    FnOk P w K mg base CX0 (kk + 1) f fd ["shares", "n", "k"] (sp3 K R_sumd) := by
  refine fun3 F sc_sumd ?_ (fun cdv A outer s H E hr => ?_)
  · rintro ds Q ⟨d, ws, n, k, rfl, _⟩; rfl
  refine ⟨_, (last3 (ret3 (sum3 rfl m_sum (cons3 (PF3.pe (comp3 (ls := ["d", "share"]) (fs := ["n", "k"]) (fr := [1, 2]) rfl (enumerate3 m_enumerate (cons3 (x3 0) nil3)) (fun _ _ _ _ _ _ nd => bpair (i := 0) (j := 1) rfl nd (by decide) (by decide)) (fun _ _ _ _ _ _ => noif) (fun _ _ _ _ _ _ => (mulB3 (x3 1) (call3 F_chosen hr m_chosen k_chosen b_chosen (cons3 (sub3 (sub3 (add3 (x3 3) (x3 2)) i3) (x3 0)) (cons3 (x3 2) nil3))))))) nil3)))), ?_⟩
  rintro ds Q ⟨d, ws, n, k, rfl, hd, hl, hn, hb, hk, q⟩
  rw [show start3 _ _ = [Sv.ro d, Sv.ro (.int n), Sv.ro (.int k)] from rfl]
  rcases hd with rfl | rfl <;>
  · walk_at "rd"
    rw [show benv 2 [1, 2] _ = [none, none, some (.int (n : Int)), some (.int k)] from rfl, enum_ints]
    refine comp_ints (fun p : Int × Nat => D.tup [.int (p.2 : Int), .int p.1]) (fun p => p.1 * C (k + n - 1 - (p.2 : Int)) n) ws.zipIdx [] _ (fun p hp Q3 q3 => ?_) (line20 (by simp; omega)) ?_
    · obtain ⟨h1, h2'⟩ := zip_mem hp
      walk_at "rd"
      exact ⟨_, n, rfl, hn, hk.near (by omega), (hb _ h1).mul (hk.near (by omega)) hn, q3⟩
    · show sumF [.lst ((ws.zipIdx.map fun p => p.1 * C (k + n - 1 - (p.2 : Int)) n).map D.int)] _
      rw [sumF_ints, ← DV_sum ws 0]
      exact q
abbrev s_vod : Stmt := top 5
theorem sc_vod : FnScope ["shares", "k"] ["shares", "k"] (defScope s_vod) := ⟨rfl, rfl, rfl, by decide +kernel, rfl, by decide +kernel, by decide +kernel⟩
def R_vod : L3.Spec := fun ds Q => ∃ (ws : List Int) (k : Int), ds = [.tup (ws.map D.int), .int k] ∧ ws.length ≤ 12 ∧ (∀ x ∈ ws, Bi x) ∧ Sk k ∧ Q (.int (DV ws.length 0 ws k))
theorem ok_vod {g : Addr} {gd : FuncData} (F : Fun K "value_of_descents" "value_of_descents" s_vod f fd) (F_sumd : FnOk P w K mg base CX0 kk g gd ["shares", "n", "k"] (sp3 K R_sumd)) (m_sumd : mg "sum_over_descents" = some (.ref g)) (k_sumd : PySem.W.keepIn K (.ref g) = true) (b_sumd : Binds K gd ["shares", "n", "k"] []) (m_len : mg "len" = none) :
    FnOk P w K mg base CX0 (kk + 1) f fd ["shares", "k"] (sp3 K R_vod) := by
  refine fun3 F sc_vod ?_ (fun cdv A outer s H E hr => ?_)
  · rintro ds Q ⟨ws, k, rfl, _⟩; rfl
  refine ⟨_, (last3 (ret3 (call3 F_sumd hr m_sumd k_sumd b_sumd (cons3 (x3 0) (cons3 (len3 m_len (cons3 (x3 0) nil3)) (cons3 (x3 1) nil3)))))), ?_⟩
  rintro ds Q ⟨ws, k, rfl, hl, hb, hk, q⟩
  rw [show start3 _ _ = [Sv.ro (.tup (ws.map D.int)), Sv.ro (.int k)] from rfl]
  walk_at "rd"
  exact ⟨_, ws, ws.length, k, rfl, .inl rfl, by omega, by omega, hb, hk, q⟩
abbrev s_vos : Stmt := top 6
theorem sc_vos : FnScope ["shares", "k"] ["shares", "k"] (defScope s_vos) := ⟨rfl, rfl, rfl, by decide +kernel, rfl, by decide +kernel, by decide +kernel⟩
def R_vos : L3.Spec := fun ds Q => ∃ (ws : List Int) (k : Int), ds = [.tup (ws.map D.int), .int k] ∧ ws.length ≤ 12 ∧ (∀ x ∈ ws, Bi x) ∧ Sk k ∧ Q (.int (SV 0 ws k))
theorem ok_vos {g : Addr} {gd : FuncData} (F : Fun K "value_of_steps" "value_of_steps" s_vos f fd) (F_chosen : FnOk P w K mg base CX0 kk g gd ["x", "m"] (sp3 K R_chosen)) (m_chosen : mg "chosen" = some (.ref g)) (k_chosen : PySem.W.keepIn K (.ref g) = true) (b_chosen : Binds K gd ["x", "m"] []) (m_sum : mg "sum" = none) (m_enumerate : mg "enumerate" = none) :
    FnOk P w K mg base CX0 (kk + 1) f fd ["shares", "k"] (sp3 K R_vos) := by
  refine fun3 F sc_vos ?_ (fun cdv A outer s H E hr => ?_)
  · rintro ds Q ⟨ws, k, rfl, _⟩; rfl
  refine ⟨_, (last3 (ret3 (sum3 rfl m_sum (cons3 (PF3.pe (comp3 (ls := ["j", "share"]) (fs := ["k"]) (fr := [1]) rfl (enumerate3 m_enumerate (cons3 (x3 0) nil3)) (fun _ _ _ _ _ _ nd => bpair (i := 0) (j := 1) rfl nd (by decide) (by decide)) (fun _ _ _ _ _ _ => noif) (fun _ _ _ _ _ _ => (mulB3 (x3 1) (call3 F_chosen hr m_chosen k_chosen b_chosen (cons3 (x3 2) (cons3 (x3 0) nil3))))))) nil3)))), ?_⟩
  rintro ds Q ⟨ws, k, rfl, hl, hb, hk, q⟩
  rw [show start3 _ _ = [Sv.ro (.tup (ws.map D.int)), Sv.ro (.int k)] from rfl]
  walk_at "rd"
  rw [show benv 2 [1] _ = [none, none, some (.int k)] from rfl, enum_ints]
  refine comp_ints (fun p : Int × Nat => D.tup [.int (p.2 : Int), .int p.1]) (fun p => p.1 * C k p.2) ws.zipIdx [] _ (fun p hp Q3 q3 => ?_) (line20 (by simp; omega)) ?_
  · obtain ⟨h1, h2'⟩ := zip_mem hp
    walk_at "rd"
    exact ⟨_, p.2, rfl, by omega, hk.near (by omega), (hb _ h1).mul (hk.near (by omega)) (by omega), q3⟩
  · show sumF [.lst ((ws.zipIdx.map fun p => p.1 * C k p.2).map D.int)] _
    rw [sumF_ints, ← SV_sum ws 0]
    exact q
/-! ### first differences -/
theorem zip_diffs : ∀ l : List Int, ((l.zip (l.drop 1)).map fun p => p.2 - p.1) = diffs l
  | [] => rfl
  | [_] => rfl
  | a :: b :: l => by
    have ih := zip_diffs (b :: l)
    show (b - a) :: (((b :: l).zip l).map fun p => p.2 - p.1) = (b - a) :: diffs (b :: l)
    rw [← ih]
    rfl
theorem zip_ints (a b : List Int) : zipD (a.map D.int) (b.map D.int) = (a.zip b).map fun p => D.tup [.int p.1, .int p.2] := by
  unfold zipD
  rw [List.zip_map, List.map_map]
  rfl
theorem cut_one (l : List Int) : cutD (l.map D.int) (some 1) none = (l.drop 1).map D.int := by
  unfold cutD
  rw [List.length_map]
  have e1 : HT.sIx l.length 0 (some 1) = min 1 l.length := by simp [HT.sIx]
  have e2 : HT.sIx l.length l.length none = l.length := by simp [HT.sIx]
  rw [e1, e2, List.map_drop, List.take_of_length_le (by rw [List.length_drop, List.length_map]; omega)]
  cases l with
  | nil => rfl
  | cons a l => rw [show min 1 (a :: l).length = 1 by simp]
abbrev s_fd : Stmt := top 3
theorem sc_fd : FnScope ["values", "firsts", "row"] ["values"] (defScope s_fd) := ⟨rfl, rfl, rfl, by decide +kernel, rfl, by decide +kernel, by decide +kernel⟩
def R_fd : L3.Spec := fun ds Q => ∃ vs : List Int, ds = [.lst (vs.map D.int)] ∧ vs.length ≤ 100 ∧ Q (.tup ((K24.fd vs).map D.int))
def rowLen (ρ : SEnv) : Nat := match ρ[2]? with
  | some (Sv.ro (D.lst ds)) => ds.length
  | _ => 0
theorem ok_fd (F : Fun K "first_differences" "first_differences" s_fd f fd) (m_zip : mg "zip" = none) (m_tuple : mg "tuple" = none) : FnOk P w K mg base CX0 (kk + 1) f fd ["values"] (sp3 K R_fd) := by
  refine fun3 F sc_fd ?_ (fun cdv A outer s H E hr => ?_)
  · rintro ds Q ⟨vs, rfl, _⟩; rfl
  have nd := sc_fd.nd
  refine ⟨_, (seq3 (own3 (i := 1) nd (lst3 nil3))
    (seq3 (set3 (i := 2) nd (x3 0))
    (seq3 (while3 PassesOwn.never (full3 (x3 2))
      (seq3 (expr3 (app3 (i := 1) (pxr3 (ix3 (x3 2) i3))))
      (last3 (setCompR3 (i := 2) (ls := ["a", "b"]) (fs := []) (fr := []) nd rfl (zip3 m_zip (cons3 (x3 2) (cons3 (sl3 (x3 2) (po3 i3) po3n) nil3))) (fun _ _ _ _ _ _ nd => bpair (i := 0) (j := 1) rfl nd (by decide) (by decide)) (fun _ _ _ _ _ _ => noif) (fun _ _ _ _ _ _ => (sub3 (x3 1) (x3 0)))))))
    (last3 (ret3 (tuple3 m_tuple PyProof.Rows.boot_tuple (cons3 (x3 1) nil3))))))), ?_⟩
  rintro ds Q ⟨vs, rfl, hl, q⟩
  rw [show start3 _ _ = [Sv.ro (.lst (vs.map D.int)), Sv.no, Sv.no] from rfl]
  walk_at "rd"
  refine ⟨Nat.zero_le _, fun ρ => ∃ fs row : List Int, fs ++ K24.fd row = K24.fd vs ∧ fs.length + row.length = vs.length ∧ ρ = [Sv.ro (.lst (vs.map D.int)), Sv.ow (.lst (fs.map D.int)), Sv.ro (.lst (row.map D.int))], rowLen, ⟨[], vs, rfl, by simp, rfl⟩, ?_⟩
  rintro _ ⟨fs, row, he, hn, rfl⟩
  walk_at "rd"
  cases row with
  | nil =>
    rw [if_neg (by simp)]
    rw [fd_nil, List.append_nil] at he
    rw [he]
    exact q
  | cons a r =>
    rw [if_pos (by simp)]
    have h0 : atI ((a :: r).map D.int) 0 = some (.int a) := at_ints (ws := a :: r) (j := 0) (by simp)
    rw [List.length_cons] at hn
    walk_at "rd"
    rw [← List.map_cons (f := D.int), h0]
    refine ⟨trivial, by rw [sizeLine_eq]; omega, ?_⟩
    rw [cut_one, zip_ints]
    refine comp_ints (fun p : Int × Int => D.tup [.int p.1, .int p.2]) (fun p => p.2 - p.1) _ [] _ (fun p hp Q3 q3 => ?_) (line20 (by simp; omega)) ?_
    · walk_at "rd"
      exact q3
    · rw [List.nil_append, zip_diffs]
      refine ⟨⟨fs ++ [a], diffs (a :: r), ?_, ?_, ?_⟩, ?_⟩
      · rw [← he, fd_cons, List.append_assoc]; rfl
      · rw [diffs_length]; simp; omega
      · rw [List.map_append]; rfl
      · show ((diffs (a :: r)).map D.int).length < ((a :: r).map D.int).length
        rw [List.length_map, List.length_map, diffs_length]; simp
end
end K24

end
section
set_option Elab.async false
set_option linter.all false
set_option maxRecDepth 100000
set_option maxHeartbeats 4100000
namespace K24
open PySem L2 L3
local macro_rules | `(tactic| walk_at "rd") => `(tactic| simp only [wSeq, wIfS, wRet, wNext, wSet, wSetI, wSetX, wPure, wPureR, wDrop, wOwn, wOwnI, vAll, vRd, List.map_cons, List.map_nil, Sv.all, Sv.rd, wVar, List.getElem?_cons_zero, List.getElem?_cons_succ, wC, wBin, wCB, wCons, wNil, wTest, wNotT, wAndT, wOrT, wAnd, wOr, wNot, wIf, wNeg, wChain, wTup, wLst, wIsi, wWalk, wRange, wRange2, gN, g2, hN, h2, wComp, wTrue, wM1, appF, addF_int, addF_lst, addF_tup, catF_lst, subF_int, mulF_int, mulBF_int, isT_int, isT_bool, isT_tup, isT_tupI, wFull, wSl, wPart, wNoPart, wEnum, wZip, modF_int, divF_int, powF_int, ltF_int, leF_int, gtF_int, geF_int, cmpF_int, eqSF_int, neSF_int, eqSF_bl, inF_tup, inF_lst, ixF_lst, ixF_tup, ixF_scr, lenF_lst, lenF_tup, lenF_scr, tupleF_lst, tupleF_tup, listF_lst, listF_tup, sortF_ints, blF_bls, List.set_cons_zero, List.set_cons_succ, List.set_nil, List.length_cons, List.length_nil, List.length_map, decide_eq_true_eq, List.nil_append])
section
variable {P : Program} {w : World} {K : PySem.W.Frag} {mg : Str → Option Value} {base : Heap} {f : Addr} {fd : FuncData} {kk : Nat}
theorem vals_range (g : Int → Int) : ∀ (n : Nat) (x : Int), vals g n x = (List.range n).map fun j : Nat => g (x + j)
  | 0, _ => rfl
  | n + 1, x => by
    rw [vals, vals_range g n, List.range_succ_eq_map, List.map_cons, List.map_map]
    congr 1
    · show g x = g (x + ((0 : Nat) : Int)); congr 1; omega
    · refine List.map_congr_left fun j _ => ?_
      show g (x + 1 + (j : Int)) = g (x + ((j + 1 : Nat) : Int))
      congr 1
      omega
theorem vals_zero (g : Int → Int) (n : Nat) : ((List.range n).map fun j : Nat => g (j : Int)) = vals g n 0 := by
  rw [vals_range]
  refine List.map_congr_left fun j _ => ?_
  show g (j : Int) = g (0 + (j : Int))
  congr 1
  omega
abbrev s_steps : Stmt := top 7
theorem sc_steps : FnScope ["shares"] ["shares"] (defScope s_steps) := ⟨rfl, rfl, rfl, by decide +kernel, rfl, by decide +kernel, by decide +kernel⟩
def R_steps : L3.Spec := fun ds Q => ∃ ws : List Int, ds = [.tup (ws.map D.int)] ∧ ws.length ≤ 10 ∧ (∀ x ∈ ws, Bi x) ∧ Q (.tup ((stepsOf ws).map D.int))
theorem ok_steps {g g2 : Addr} {gd gd2 : FuncData} (F : Fun K "steps_of" "steps_of" s_steps f fd) (F_fd : FnOk P w K mg base CX0 kk g gd ["values"] (sp3 K R_fd)) (m_fd : mg "first_differences" = some (.ref g)) (k_fd : PySem.W.keepIn K (.ref g) = true) (b_fd : Binds K gd ["values"] [])
    (F_vod : FnOk P w K mg base CX0 kk g2 gd2 ["shares", "k"] (sp3 K R_vod)) (m_vod : mg "value_of_descents" = some (.ref g2)) (k_vod : PySem.W.keepIn K (.ref g2) = true) (b_vod : Binds K gd2 ["shares", "k"] []) (m_len : mg "len" = none) (m_range : mg "range" = none) :
    FnOk P w K mg base CX0 (kk + 1) f fd ["shares"] (sp3 K R_steps) := by
  refine fun3 F sc_steps ?_ (fun cdv A outer s H E hr => ?_)
  · rintro ds Q ⟨ws, rfl, _⟩; rfl
  refine ⟨_, (last3 (ret3 (call3 F_fd hr m_fd k_fd b_fd (cons3 (PF3.pe (comp3 (ls := ["k"]) (fs := ["shares"]) (fr := [0]) rfl (range3 m_range (cons3 (add3 (len3 m_len (cons3 (x3 0) nil3)) i3) nil3)) (fun _ _ _ _ _ _ nd => bname (i := 0) nd (by decide)) (fun _ _ _ _ _ _ => noif) (fun _ _ _ _ _ _ => (call3 F_vod hr m_vod k_vod b_vod (cons3 (x3 1) (cons3 (x3 0) nil3)))))) nil3)))), ?_⟩
  rintro ds Q ⟨ws, rfl, hl, hb, q⟩
  rw [show start3 _ _ = [Sv.ro (.tup (ws.map D.int))] from rfl]
  walk_at "rd"
  refine ⟨⟨by omega, by omega⟩, ?_⟩
  rw [show benv 1 [0] _ = [none, some (.tup (ws.map D.int))] from rfl, show ((ws.length : Int) + 1).toNat = ws.length + 1 by omega, rng_map]
  refine comp_ints (fun j : Nat => D.int (j : Int)) (fun j => DV ws.length 0 ws (j : Int)) (List.range (ws.length + 1)) [] _ (fun j hj Q3 q3 => ?_) (line20 (by simp; omega)) ?_
  · have hj := List.mem_range.mp hj
    walk_at "rd"
    exact ⟨ws, _, rfl, by omega, hb, sk_small (by omega), q3⟩
  · rw [List.nil_append, vals_zero (DV ws.length 0 ws)]
    exact ⟨_, rfl, by rw [vals_length]; omega, q⟩
abbrev s_df : Stmt := top 8
theorem sc_df : FnScope ["shares", "n", "found", "d"] ["shares"] (defScope s_df) := ⟨rfl, rfl, rfl, by decide +kernel, rfl, by decide +kernel, by decide +kernel⟩
def R_df : L3.Spec := fun ds Q => ∃ (s : List Int) (n : Nat), ds = [.tup (s.map D.int)] ∧ s.length = n + 1 ∧ n ≤ 9 ∧ (∀ x ∈ s, Bg 10000 x) ∧ ∀ ws : List Int, ws.length = n → Back s ws → (∀ x ∈ ws, Bg 90000 x) → Q (.tup (ws.map D.int))
theorem ok_df {g g2 : Addr} {gd gd2 : FuncData} (F : Fun K "descents_from" "descents_from" s_df f fd) (F_vos : FnOk P w K mg base CX0 kk g gd ["shares", "k"] (sp3 K R_vos)) (m_vos : mg "value_of_steps" = some (.ref g)) (k_vos : PySem.W.keepIn K (.ref g) = true) (b_vos : Binds K gd ["shares", "k"] [])
    (F_sumd : FnOk P w K mg base CX0 kk g2 gd2 ["shares", "n", "k"] (sp3 K R_sumd)) (m_sumd : mg "sum_over_descents" = some (.ref g2)) (k_sumd : PySem.W.keepIn K (.ref g2) = true) (b_sumd : Binds K gd2 ["shares", "n", "k"] []) (m_len : mg "len" = none) (m_range : mg "range" = none) (m_tuple : mg "tuple" = none) :
    FnOk P w K mg base CX0 (kk + 1) f fd ["shares"] (sp3 K R_df) := by
  refine fun3 F sc_df ?_ (fun cdv A outer s H E hr => ?_)
  · rintro ds Q ⟨s, n, rfl, _⟩; rfl
  have nd := sc_df.nd
  refine ⟨_, (seq3 (set3 (i := 1) nd (sub3 (len3 m_len (cons3 (x3 0) nil3)) i3))
    (seq3 (own3 (i := 2) nd (lst3 nil3))
    (seq3 (for3 rfl PassesOwn.never (range3 m_range (cons3 (x3 1) nil3)) (name3 (i := 3) nd)
      (last3 (expr3 (app3 (i := 2) (px3 (sub3 (call3 F_vos hr m_vos k_vos b_vos (cons3 (x3 0) (cons3 (add3 (x3 3) i3) nil3))) (call3 F_sumd hr m_sumd k_sumd b_sumd (cons3 (x3 2) (cons3 (x3 1) (cons3 (add3 (x3 3) i3) nil3))))))))))
    (last3 (ret3 (tuple3 m_tuple PyProof.Rows.boot_tuple (cons3 (x3 2) nil3))))))), ?_⟩
  rintro ds Q ⟨s, n, rfl, hs, hn, hb, q⟩
  rw [show start3 _ _ = [Sv.ro (.tup (s.map D.int)), Sv.no, Sv.no, Sv.no] from rfl]
  walk_at "rd"
  rw [show (s.length : Int) - 1 = (n : Int) by omega]
  refine ⟨Nat.zero_le _, ?_⟩
  refine for_rng n (fun i ρ => ∃ (ws : List Int) (dv : Sv), ws.length = i ∧ (∀ (d : Nat) (x : Int), ws[d]? = some x → x = SV 0 s ((d : Int) + 1) - DV n 0 (ws.take d) ((d : Int) + 1)) ∧ (∀ x ∈ ws, Bg (17100 + 7100 * i) x) ∧
      ρ = [Sv.ro (.tup (s.map D.int)), Sv.ro (.int n), Sv.ow (.lst (ws.map D.int)), dv]) (by omega)
    (fun Q q => by walk_at "rd"; exact q) ⟨[], Sv.no, rfl, fun d x e => by simp at e, fun x hx => (nomatch hx), rfl⟩ ?_ ?_
  · rintro i _ hi ⟨ws, dv, hl, hw, hg, rfl⟩
    have ki : Sk ((i : Int) + 1) := sk_small (by omega)
    walk_at "rd"
    refine ⟨trivial, s, (i : Int) + 1, rfl, by omega, fun x hx => .of (hb x hx) (by omega), ki, ?_⟩
    refine ⟨_, ws, n, (i : Int) + 1, rfl, .inr rfl, by omega, by omega, fun x hx => .of (hg x hx) (by omega), ki, ?_⟩
    walk_at "rd"
    have b1 : Bg (17100 + 7100 * i + 7050) (SV 0 s ((i : Int) + 1)) := (SV_big (a := 10000) (b := 7001) (fun j hj => ki.bigS (by omega)) s 0 (by omega) hb).mono (by omega)
    have b2 : Bg (17100 + 7100 * i + 7050) (DV n ((0 : Nat) : Int) ws ((i : Int) + 1)) := (DV_big (a := 17100 + 7100 * i) (b := 7001) (fun d hd => ki.big (by omega) (by omega)) ws 0 (by omega) hg).mono (by omega)
    refine ⟨rfl, by rw [sizeLine_eq]; omega, ws ++ [SV 0 s ((i : Int) + 1) - DV n 0 ws ((i : Int) + 1)], _, by simp [hl], fun d x e => ?_, fun x hx => ?_, by rw [List.map_append]; rfl⟩
    · by_cases hd : d < ws.length
      · rw [List.getElem?_append_left hd] at e
        rw [List.take_append_of_le_length (by omega)]
        exact hw d x e
      · have ed : d = ws.length := by
          have := (List.getElem?_eq_some_iff.mp e).1
          simp at this
          omega
        subst ed
        rw [List.getElem?_append_right (Nat.le_refl _), Nat.sub_self] at e
        have e : SV 0 s ((i : Int) + 1) - DV n 0 ws ((i : Int) + 1) = x := by simpa using e
        rw [List.take_append_of_le_length (Nat.le_refl _), List.take_of_length_le (Nat.le_refl _), hl]
        exact e.symm
    · rcases List.mem_append.mp hx with hx | hx
      · exact (hg x hx).mono (by omega)
      · rw [List.mem_singleton.mp hx]
        exact (b1.sub b2).mono (by omega)
  · rintro _ ⟨ws, dv, hl, hw, hg, rfl⟩
    walk_at "rd"
    exact q ws hl ⟨by omega, fun d x e => by rw [hl]; exact hw d x e⟩ fun x hx => (hg x hx).mono (by omega)
/-! ### the law's own defs -/
theorem pick3 {a b c : D} {h : Int} {R : D → Prop} (ha : R a) (hb : R b) (hc : R c) : (match atI [a, b, c] (h % 3) with | some d => R d | none => False) := by
  have : h % 3 = 0 ∨ h % 3 = 1 ∨ h % 3 = 2 := by omega
  rcases this with e | e | e <;> rw [e]
  · exact ha
  · exact hb
  · exact hc
theorem sk_of {r t : Int} (h0 : 0 ≤ r) (h1 : r < t) (ht : t.natAbs ≤ 2 ^ 300) {k : Int} (hk : k = 1 ∨ k = -1) : Sk (r * k) := by
  unfold Sk
  refine Nat.le_trans ?_ ht
  rcases hk with rfl | rfl
  · rw [Int.mul_one]; omega
  · rw [Int.mul_neg, Int.mul_one]; omega
theorem bg_of {r t : Int} {b : Nat} (h0 : 0 ≤ r) (h1 : r < t) (ht : t.natAbs ≤ 2 ^ b) {k : Int} (hk : k = 1 ∨ k = -1) : Bg b (r * k) := by
  unfold Bg
  refine Nat.lt_of_lt_of_le ?_ ht
  rcases hk with rfl | rfl
  · rw [Int.mul_one]; omega
  · rw [Int.mul_neg, Int.mul_one]; omega
abbrev s_l_any_k : Stmt := top 14
theorem sc_l_any_k : FnScope ["_law_script", "_law_at", "_law_salt", "_law_head", "_law_far"] ["_law_script", "_law_at", "_law_salt"] (defScope s_l_any_k) := ⟨rfl, rfl, rfl, by decide +kernel, rfl, by decide +kernel, by decide +kernel⟩
def R_any : L3.Spec := fun ds Q => ∃ (ns : List Int) (i t : Int), ds = [.scr ns, .int i, .int t] ∧ ∀ r, Sk r → Q (.int r)
theorem ok_any {g1 g2 g3 : Addr} {d1 d2 d3 : FuncData} (F : Fun K "_law_any_k" "_law_any_k" s_l_any_k f fd)
    (F_l_draws : FnOk P w K mg base CX0 kk g1 d1 ["_law_cell_here", "_law_many", "_law_salt"] (sp3 K R_draws)) (m_l_draws : mg "_law_draws" = some (.ref g1)) (k_l_draws : PySem.W.keepIn K (.ref g1) = true) (b_l_draws : Binds K d1 ["_law_cell_here", "_law_many", "_law_salt"] [])
    (F_l_cell : FnOk P w K mg base CX0 kk g2 d2 ["_law_script", "_law_k"] (sp3 K R_cell)) (m_l_cell : mg "_law_cell" = some (.ref g2)) (k_l_cell : PySem.W.keepIn K (.ref g2) = true) (b_l_cell : Binds K d2 ["_law_script", "_law_k"] [])
    (F_l_great : FnOk P w K mg base CX0 kk g3 d3 ["_law_cell_here", "_law_most", "_law_salt"] (sp3 K R_great)) (m_l_great : mg "_law_great" = some (.ref g3)) (k_l_great : PySem.W.keepIn K (.ref g3) = true) (b_l_great : Binds K d3 ["_law_cell_here", "_law_most", "_law_salt"] []) :
    FnOk P w K mg base CX0 (kk + 1) f fd ["_law_script", "_law_at", "_law_salt"] (sp3 K R_any) := by
  refine fun3 F sc_l_any_k ?_ (fun cdv A outer s H E hr => ?_)
  · rintro ds Q ⟨ns, i, t, rfl, _⟩; rfl
  have nd := sc_l_any_k.nd
  refine ⟨_, (seq3 (set3 (i := 3) nd (call3 F_l_draws hr m_l_draws k_l_draws b_l_draws (cons3 (call3 F_l_cell hr m_l_cell k_l_cell b_l_cell (cons3 (x3 0) (cons3 (x3 1) nil3))) (cons3 i3 (cons3 (x3 2) nil3)))))
    (seq3 (ifS3 (eqST3 (mod3 (ix3 (x3 3) i3) i3) i3)
      (last3 (ret3 (sub3 (mod3 (ix3 (x3 3) i3) i3) i3)))
      end3)
    (seq3 (set3 (i := 4) nd (call3 F_l_great hr m_l_great k_l_great b_l_great (cons3 (call3 F_l_cell hr m_l_cell k_l_cell b_l_cell (cons3 (x3 0) (cons3 (add3 (x3 1) i3) nil3))) (cons3 (ix3 (PF3.pe (lst3 (cons3 (pow3 i3 i3) (cons3 (pow3 i3 i3) (cons3 (pow3 i3 i3) nil3))))) (mod3 (ix3 (x3 3) i3) i3)) (cons3 (add3 (x3 2) i3) nil3)))))
    (last3 (ret3 (mulI3 (x3 4) (sub3 i3 (mulI3 i3 (mod3 (ix3 (x3 3) i3) i3))))))))), ?_⟩
  rintro ds Q ⟨ns, i, t, rfl, q⟩
  rw [show start3 _ _ = [Sv.ro (.scr ns), Sv.ro (.int i), Sv.ro (.int t), Sv.no, Sv.no] from rfl]
  walk_at "rd"
  refine ⟨ns, i, rfl, fun c0 => ⟨c0, 3, t, rfl, by omega, by omega, fun xs hx => ?_⟩⟩
  match xs, hx with
  | [a, b, c], _ =>
  have h0 : atI [D.int a, D.int b, D.int c] 0 = some (D.int a) := rfl
  have h1 : atI [D.int a, D.int b, D.int c] 1 = some (D.int b) := rfl
  have h2 : atI [D.int a, D.int b, D.int c] 2 = some (D.int c) := rfl
  walk_at "rd"
  rw [h0]; dsimp only
  rw [modF_int]
  refine ⟨by omega, ?_⟩
  walk_at "rd"
  refine ite2 (fun _ => ?_) (fun _ => ?_)
  · rw [h1]; dsimp only
    rw [modF_int]
    refine ⟨by omega, ?_⟩
    exact q _ (sk_small (by omega))
  · refine ⟨ns, i + 1, rfl, fun c1 => ?_⟩
    walk_at "rd"
    have fin : ∀ T : Int, 0 < T → T.natAbs ≤ 2 ^ 300 → R_great [.int c1, .int T, .int (t + 70001)] fun d => (match atI [D.int a, D.int b, D.int c] 2 with | some d_1 => modF d_1 (.int 2) fun d_2 => mulF (.int 2) d_2 fun d_3 => subF (.int 1) d_3 fun d_4 => mulF d d_4 Q | none => False) := by
      intro T h1 h2'
      refine ⟨c1, T, _, rfl, h1, fun r r0 r1 => ?_⟩
      rw [h2]
      walk_at "rd"
      refine ⟨by omega, .inl ⟨by omega, by omega⟩, .inr ⟨by omega, by omega⟩, q _ (sk_of r0 r1 h2' (by omega))⟩
    refine ⟨⟨by omega, by omega, by omega⟩, ⟨by omega, by omega, by omega⟩, ⟨by omega, by omega, by omega⟩, by rw [sizeLine_eq]; decide, ?_⟩
    rw [h1]; dsimp only
    rw [modF_int]
    refine ⟨by omega, ?_⟩
    rw [ixF_lst]
    exact pick3 (R := fun d => R_great [D.int c1, d, D.int (t + 70001)] _) (fin _ (by decide +kernel) (by decide +kernel)) (fin _ (by decide +kernel) (by decide +kernel)) (fin _ (by decide +kernel) (by decide +kernel))
end
end K24

end
section
set_option Elab.async false
set_option linter.all false
set_option maxRecDepth 100000
set_option maxHeartbeats 4100000
namespace K24
open PySem L2 L3
section
open PySem.Spec PyProof.Rows
def CPowB (i j : Int) : Prop := 0 ≤ j ∧ ∃ b : Nat, i.natAbs < 2 ^ b ∧ (b : Int) * j ≤ 2 ^ 27
theorem op_powB {X : Cx} : OpR X (binaryOp .Pow) (rI CPowB fun i j => .int (i ^ j.toNat)) := opI fun _ _ _ _ _ _ _ hc q => by
  obtain ⟨h0, b, hb, hz⟩ := hc
  refine PyProof.Rows.pow_int h0 (Int.le_trans (Int.mul_le_mul_of_nonneg_right ?_ h0) hz) q
  have := intBits_le hb
  omega
def powBF : F2 := intF CPowB fun i j => .int (i ^ j.toNat)
theorem powB3 {X : Cx} {a b : Expr} {pos : Pos} {ta tb : WE} (ha : PE3 X a ta) (hb : PE3 X b tb) : PE3 X (.BinOp a .Pow b pos) (wBin powBF ta tb) := op3 op_powB o3_int ha hb
theorem powBF_int {i j : Int} {Q : D → Prop} : powBF (.int i) (.int j) Q = (CPowB i j ∧ Q (.int (i ^ j.toNat))) := rfl
end
local macro_rules | `(tactic| walk_at "rd") => `(tactic| simp only [wSeq, wIfS, wRet, wNext, wSet, wSetI, wSetX, wPure, wPureR, wDrop, wOwn, wOwnI, vAll, vRd, List.map_cons, List.map_nil, Sv.all, Sv.rd, wVar, List.getElem?_cons_zero, List.getElem?_cons_succ, wC, wBin, wCB, wCons, wNil, wTest, wNotT, wAndT, wOrT, wAnd, wOr, wNot, wIf, wNeg, wChain, wTup, wLst, wIsi, wWalk, wRange, wRange2, gN, g2, hN, h2, wComp, wTrue, wM1, appF, addF_int, addF_lst, addF_tup, catF_lst, subF_int, mulF_int, mulBF_int, powBF_int, isT_int, isT_bool, isT_tup, isT_tupI, wFull, wSl, wPart, wNoPart, wEnum, wZip, modF_int, divF_int, powF_int, ltF_int, leF_int, gtF_int, geF_int, cmpF_int, eqSF_int, neSF_int, eqSF_bl, inF_tup, inF_lst, ixF_lst, ixF_tup, ixF_scr, lenF_lst, lenF_tup, lenF_scr, tupleF_lst, tupleF_tup, listF_lst, listF_tup, sortF_ints, blF_bls, List.set_cons_zero, List.set_cons_succ, List.set_nil, List.length_cons, List.length_nil, List.length_map, decide_eq_true_eq, List.nil_append])
section
variable {P : Program} {w : World} {K : PySem.W.Frag} {mg : Str → Option Value} {base : Heap} {f : Addr} {fd : FuncData} {kk : Nat}
abbrev s_l_shares : Stmt := top 15
theorem sc_l_shares : FnScope ["_law_script", "_law_at", "_law_many", "_law_salt", "_law_found", "_law_j", "_law_head", "_law_part", "_law_most", "_law_far"] ["_law_script", "_law_at", "_law_many", "_law_salt"] (defScope s_l_shares) := ⟨rfl, rfl, rfl, by decide +kernel, rfl, by decide +kernel, by decide +kernel⟩
def R_shares : L3.Spec := fun ds Q => ∃ (ns : List Int) (i : Int) (m : Nat) (t : Int), ds = [.scr ns, .int i, .int m, .int t] ∧ m ≤ 9 ∧ ∀ xs : List Int, xs.length = m → (∀ x ∈ xs, Bg 2000 x) → Q (.tup (xs.map D.int))
theorem ok_shares {g1 g2 g3 : Addr} {d1 d2 d3 : FuncData} (F : Fun K "_law_shares" "_law_shares" s_l_shares f fd)
    (F_l_draws : FnOk P w K mg base CX0 kk g1 d1 ["_law_cell_here", "_law_many", "_law_salt"] (sp3 K R_draws)) (m_l_draws : mg "_law_draws" = some (.ref g1)) (k_l_draws : PySem.W.keepIn K (.ref g1) = true) (b_l_draws : Binds K d1 ["_law_cell_here", "_law_many", "_law_salt"] [])
    (F_l_cell : FnOk P w K mg base CX0 kk g2 d2 ["_law_script", "_law_k"] (sp3 K R_cell)) (m_l_cell : mg "_law_cell" = some (.ref g2)) (k_l_cell : PySem.W.keepIn K (.ref g2) = true) (b_l_cell : Binds K d2 ["_law_script", "_law_k"] [])
    (F_l_great : FnOk P w K mg base CX0 kk g3 d3 ["_law_cell_here", "_law_most", "_law_salt"] (sp3 K R_great)) (m_l_great : mg "_law_great" = some (.ref g3)) (k_l_great : PySem.W.keepIn K (.ref g3) = true) (b_l_great : Binds K d3 ["_law_cell_here", "_law_most", "_law_salt"] []) (m_range : mg "range" = none) (m_tuple : mg "tuple" = none) :
    FnOk P w K mg base CX0 (kk + 1) f fd ["_law_script", "_law_at", "_law_many", "_law_salt"] (sp3 K R_shares) := by
  refine fun3 F sc_l_shares ?_ (fun cdv A outer s H E hr => ?_)
  · rintro ds Q ⟨ns, i, m, t, rfl, _⟩; rfl
  have nd := sc_l_shares.nd
  refine ⟨_, (seq3 (own3 (i := 4) nd (lst3 nil3))
    (seq3 (for3 rfl PassesOwn.never (range3 m_range (cons3 (x3 2) nil3)) (name3 (i := 5) nd)
      (seq3 (set3 (i := 6) nd (call3 F_l_draws hr m_l_draws k_l_draws b_l_draws (cons3 (call3 F_l_cell hr m_l_cell k_l_cell b_l_cell (cons3 (x3 0) (cons3 (add3 (x3 1) (x3 5)) nil3))) (cons3 i3 (cons3 (add3 (x3 3) (mulI3 i3 (x3 5))) nil3)))))
      (seq3 (set3 (i := 7) nd (sub3 (mod3 (ix3 (x3 6) i3) i3) i3))
      (seqM3 (ifS3 (gtT3 (mod3 (ix3 (x3 6) i3) i3) i3)
        (seq3 (set3 (i := 8) nd (ix3 (PF3.pe (lst3 (cons3 (pow3 i3 i3) (cons3 (pow3 i3 i3) (cons3 (mulB3 (powB3 (pow3 i3 i3) i3) (pow3 i3 i3)) nil3))))) (mod3 (ix3 (x3 6) i3) i3)))
        (seq3 (set3 (i := 9) nd (call3 F_l_great hr m_l_great k_l_great b_l_great (cons3 (call3 F_l_cell hr m_l_cell k_l_cell b_l_cell (cons3 (x3 0) (cons3 (add3 (add3 (x3 1) i3) (x3 5)) nil3))) (cons3 (x3 8) (cons3 (add3 (add3 (x3 3) (mulI3 i3 (x3 5))) i3) nil3)))))
        (last3 (set3 (i := 7) nd (mulI3 (x3 9) (sub3 i3 (mulI3 i3 (mod3 (ix3 (x3 6) i3) i3))))))))
        end3)
      (last3 (expr3 (app3 (i := 4) (pxr3 (x3 7)))))))))
    (last3 (ret3 (tuple3 m_tuple PyProof.Rows.boot_tuple (cons3 (x3 4) nil3)))))), ?_⟩
  rintro ds Q ⟨ns, at0, m, salt, rfl, hm, q⟩
  rw [show start3 _ _ = [Sv.ro (.scr ns), Sv.ro (.int at0), Sv.ro (.int m), Sv.ro (.int salt), Sv.no, Sv.no, Sv.no, Sv.no, Sv.no, Sv.no] from rfl]
  walk_at "rd"
  refine ⟨Nat.zero_le _, ?_⟩
  refine for_rng m (fun i ρ => ∃ (xs : List Int) (a b c e g : Sv), xs.length = i ∧ (∀ x ∈ xs, Bg 2000 x) ∧ ρ = [Sv.ro (.scr ns), Sv.ro (.int at0), Sv.ro (.int m), Sv.ro (.int salt), Sv.ow (.lst (xs.map D.int)), a, b, c, e, g]) (by omega)
    (fun Q q => by walk_at "rd"; exact q) ⟨[], Sv.no, Sv.no, Sv.no, Sv.no, Sv.no, rfl, fun x hx => (nomatch hx), rfl⟩ ?_ ?_
  · rintro i _ hi ⟨xs, v5, v6, v7, v8, v9, hl, hb, rfl⟩
    walk_at "rd"
    refine ⟨ns, _, rfl, fun c0 => ⟨.inl ⟨by omega, by omega⟩, c0, 3, _, rfl, by omega, by omega, fun ys hy => ?_⟩⟩
    match ys, hy with
    | [a, b, c], _ =>
    have h0 : atI [D.int a, D.int b, D.int c] 0 = some (D.int a) := rfl
    have h1 : atI [D.int a, D.int b, D.int c] 1 = some (D.int b) := rfl
    have h2 : atI [D.int a, D.int b, D.int c] 2 = some (D.int c) := rfl
    walk_at "rd"
    rw [h1]; dsimp only
    rw [modF_int]
    refine ⟨by omega, ?_⟩
    walk_at "rd"
    refine ⟨fun ρ => ∃ (r : Int) (e g : Sv), Bg 2000 r ∧ ρ = [Sv.ro (.scr ns), Sv.ro (.int at0), Sv.ro (.int m), Sv.ro (.int salt), Sv.ow (.lst (xs.map D.int)), Sv.ro (.int i), Sv.ro (.lst [.int a, .int b, .int c]), Sv.ro (.int r), e, g], ?_, ?_⟩
    · walk_at "rd"
      rw [h0]; dsimp only
      rw [modF_int]
      refine ⟨by omega, ?_⟩
      walk_at "rd"
      refine ite2 (fun _ => ?_) (fun _ => ⟨_, _, _, Nat.lt_of_lt_of_le (show (b % 9 - 4).natAbs < 2 ^ 3 by omega) (Nat.pow_le_pow_right (by omega) (by omega)), rfl⟩)
      have fin : ∀ T : Int, 0 < T → T.natAbs ≤ 2 ^ 2000 → R_cell [D.scr ns, D.int (at0 + 20 + i)] fun d_1 => CMul 50021 (i : Int) ∧ R_great [d_1, D.int T, D.int (salt + 50021 * i + 7)] fun d_2 =>
          (match atI [D.int a, D.int b, D.int c] 2 with
            | some x => modF x (D.int 2) fun y => mulF (D.int 2) y fun y => subF (D.int 1) y fun y => mulF d_2 y fun d_3 => ∃ (r : Int) (e g : Sv), Bg 2000 r ∧ [Sv.ro (.scr ns), Sv.ro (.int at0), Sv.ro (.int m), Sv.ro (.int salt), Sv.ow (.lst (xs.map D.int)), Sv.ro (.int i), Sv.ro (.lst [.int a, .int b, .int c]), Sv.ro d_3, Sv.ro (.int T), Sv.ro d_2] = [Sv.ro (.scr ns), Sv.ro (.int at0), Sv.ro (.int m), Sv.ro (.int salt), Sv.ow (.lst (xs.map D.int)), Sv.ro (.int i), Sv.ro (.lst [.int a, .int b, .int c]), Sv.ro (.int r), e, g]
            | none => False) := by
        intro T t0 tb
        refine ⟨ns, _, rfl, fun c1 => ⟨.inl ⟨by omega, by omega⟩, c1, T, _, rfl, t0, fun r r0 r1 => ?_⟩⟩
        rw [h2]
        walk_at "rd"
        exact ⟨by omega, .inl ⟨by omega, by omega⟩, .inr ⟨by omega, by omega⟩, _, _, _, bg_of r0 r1 tb (by omega), rfl⟩
      refine ⟨⟨by omega, by omega, by omega⟩, ⟨by omega, by omega, by omega⟩, ⟨by omega, by omega, by omega⟩, ⟨by omega, 200, by decide +kernel, by omega⟩, ⟨by omega, by omega, by omega⟩, mulB_ok (m := 1900) (n := 200) (by decide +kernel) (by decide +kernel) (by decide), by rw [sizeLine_eq]; decide, ?_⟩
      rw [h1]; dsimp only
      rw [modF_int]
      refine ⟨by omega, ?_⟩
      rw [ixF_lst]
      exact pick3 (R := fun d => R_cell [D.scr ns, D.int (at0 + 20 + i)] fun d_1 => CMul 50021 (i : Int) ∧ R_great [d_1, d, D.int (salt + 50021 * i + 7)] _) (fin _ (by decide +kernel) (by decide +kernel)) (fin _ (by decide +kernel) (by decide +kernel)) (fin _ (by decide +kernel) (by decide +kernel))
    rintro _ ⟨r, v8', v9', hr', rfl⟩
    walk_at "rd"
    refine ⟨trivial, by rw [sizeLine_eq]; omega, xs ++ [r], _, _, _, _, _, by simp [hl], fun x hx => ?_, by rw [List.map_append]; rfl⟩
    rcases List.mem_append.mp hx with hx1 | hx2
    · exact hb x hx1
    · rw [List.mem_singleton.mp hx2]; exact hr'
  · rintro _ ⟨xs, v5, v6, v7, v8, v9, hl, hb, rfl⟩
    walk_at "rd"
    exact q xs hl hb
abbrev s_l_tuple : Stmt := top 16
theorem sc_l_tuple : FnScope ["_law_found", "_law_many"] ["_law_found", "_law_many"] (defScope s_l_tuple) := ⟨rfl, rfl, rfl, by decide +kernel, rfl, by decide +kernel, by decide +kernel⟩
def R_ltuple : L3.Spec := fun ds Q => ∃ xs : List Int, ds = [.tup (xs.map D.int), .int xs.length] ∧ xs.length ≤ 100 ∧ Q (.bl true)
theorem all_true {α : Type} (l : List α) : ((l.map fun _ => true).all id) = true := by simp
theorem comp_true {α : Type} {g : GE} {te : WE} {ρ : DEnv} (mk : α → D) (l : List α) (Q : D → Prop) (h : ∀ a ∈ l, ∀ Q3 : D → Prop, Q3 (.bl true) → g (mk a) ρ fun ρ2 => te ρ2 Q3) (hz : l.length ≤ sizeLine) (q : Q (.lst ((l.map fun _ => true).map D.bl))) : compW g wTrue te ρ (l.map mk) [] Q := by
  have key : ∀ (l : List α) (acc : List D) (Q : D → Prop), (∀ a ∈ l, ∀ Q3 : D → Prop, Q3 (.bl true) → g (mk a) ρ fun ρ2 => te ρ2 Q3) → acc.length + l.length ≤ sizeLine → Q (.lst (acc ++ (l.map fun _ => true).map D.bl)) → compW g wTrue te ρ (l.map mk) acc Q := by
    intro l
    induction l with
    | nil => intro acc Q _ _ q; rw [List.map_nil, compW]; simpa using q
    | cons a r ih =>
      intro acc Q h hz q
      rw [List.map_cons, compW]
      simp only [List.length_cons] at hz
      have e : (fun ρ2 => wTrue ρ2 fun b => if b = true then te ρ2 fun y => acc.length < sizeLine ∧ compW g wTrue te ρ (r.map mk) (acc ++ [y]) Q else compW g wTrue te ρ (r.map mk) acc Q) = fun ρ2 => te ρ2 fun y => acc.length < sizeLine ∧ compW g wTrue te ρ (r.map mk) (acc ++ [y]) Q := by
        funext ρ2
        simp [wTrue]
      rw [e]
      exact h a List.mem_cons_self _ ⟨by omega, ih (acc ++ [.bl true]) Q (fun a' ha => h a' (List.mem_cons_of_mem _ ha)) (by simp; omega) (by simpa using q)⟩
  exact key l [] Q h (by simpa using hz) (by simpa using q)
theorem ok_ltuple (F : Fun K "_law_tuple" "_law_tuple" s_l_tuple f fd) (m_len : mg "len" = none) (m_isi : mg "isinstance" = none) (m_int : mg "int" = none) (m_bool : mg "bool" = none) (m_tuple : mg "tuple" = none) (m_all : mg "all" = none) : FnOk P w K mg base CX0 (kk + 1) f fd ["_law_found", "_law_many"] (sp3 K R_ltuple) := by
  refine fun3 F sc_l_tuple ?_ (fun cdv A outer s H E hr => ?_)
  · rintro ds Q ⟨xs, rfl, _⟩; rfl
  refine ⟨_, (seq3 (ifS3 (PW3.pt (orT3 (notT3 (val3 (isi3 Ty4.t m_isi m_tuple PyProof.Rows.boot_tuple (x3 0)))) (or1 (neST3 (len3 m_len (cons3 (x3 0) nil3)) (x3 1)))))
      (last3 (ret3 b3))
      end3)
    (last3 (ret3 (all3 rfl m_all (cons3 (PF3.pe (comp3 (ls := ["_law_part"]) (fs := []) (fr := []) rfl (walk3 (x3 0)) (fun _ _ _ _ _ _ nd => bname (i := 0) nd (by decide)) (fun _ _ _ _ _ _ => noif) (fun _ _ _ _ _ _ => (and3 (isi3 Ty4.i m_isi m_int PyProof.Rows.boot_int (x3 0)) (one3 (not3 (isi3 Ty4.b m_isi m_bool PyProof.Rows.boot_bool (x3 0)))))))) nil3))))), ?_⟩
  rintro ds Q ⟨xs, rfl, hl, q⟩
  rw [show start3 _ _ = [Sv.ro (.tup (xs.map D.int)), Sv.ro (.int xs.length)] from rfl]
  walk_at "rd"
  rw [if_neg (by simp)]
  refine comp_true D.int xs _ (fun x hx Q3 q3 => ?_) (by rw [sizeLine_eq]; omega) ?_
  · walk_at "rd"
    exact q3
  · rw [blF_bls, all_true]
    exact q
abbrev s_l_chosen : Stmt := top 17
theorem sc_l_chosen : FnScope ["_law_x", "_law_m", "_law_top", "_law_low", "_law_k"] ["_law_x", "_law_m"] (defScope s_l_chosen) := ⟨rfl, rfl, rfl, by decide +kernel, rfl, by decide +kernel, by decide +kernel⟩
theorem fact_mono (m : Nat) : ∀ k, fact m ≤ fact (m + k)
  | 0 => Int.le_refl _
  | k + 1 => by
    have h := fact_mono m k
    have p := fact_pos (m + k)
    rw [show fact (m + (k + 1)) = fact (m + k) * (((m + k : Nat) : Int) + 1) from rfl, Int.mul_add, Int.mul_one]
    have z : 0 ≤ fact (m + k) * ((m + k : Nat) : Int) := Int.mul_nonneg (by omega) (by omega)
    omega
theorem fact_le (m : Nat) (h : m ≤ 12) : fact m < 1073741824 := by
  have a := fact_mono m (12 - m)
  rw [show m + (12 - m) = 12 by omega, show fact 12 = 479001600 by simp [fact]] at a
  omega
def R_lchosen : L3.Spec := fun ds Q => ∃ (x : Int) (m : Nat), ds = [.int x, .int m] ∧ m ≤ 12 ∧ Sm x ∧ Q (.int (C x m))
theorem ok_lchosen (F : Fun K "_law_chosen" "_law_chosen" s_l_chosen f fd) (m_range : mg "range" = none) : FnOk P w K mg base CX0 (kk + 1) f fd ["_law_x", "_law_m"] (sp3 K R_lchosen) := by
  refine fun3 F sc_l_chosen ?_ (fun cdv A outer s H E hr => ?_)
  · rintro ds Q ⟨x, m, rfl, _⟩; rfl
  have nd := sc_l_chosen.nd
  refine ⟨_, (seq3 (set3 (i := 2) nd i3)
    (seq3 (set3 (i := 3) nd i3)
    (seqM3 (for3 rfl PassesOwn.never (range3 m_range (cons3 (x3 1) nil3)) (name3 (i := 4) nd)
      (seq3 (set3 (i := 2) nd (mulB3 (x3 2) (sub3 (x3 0) (x3 4))))
      (last3 (set3 (i := 3) nd (mulI3 (x3 3) (add3 (x3 4) i3))))))
    (last3 (ret3 (div3 (x3 2) (x3 3))))))), ?_⟩
  rintro ds Q ⟨x, m, rfl, hm, hx, q⟩
  rw [show start3 _ _ = [Sv.ro (.int x), Sv.ro (.int m), Sv.no, Sv.no, Sv.no] from rfl]
  walk_at "rd"
  have q2 : Q (.int (ff x m / fact m)) := q
  have g0 : ff x 0 = 1 := rfl
  have gs : ∀ k : Nat, ff x (k + 1) = ff x k * (x - k) := fun _ => rfl
  have gm : ∀ k : Nat, k ≤ 20 → PySem.IntMulOk (ff x k) (x - k) := fun k hk => mul_t hx hk
  clear q
  generalize ff x = g at *
  refine ⟨fun ρ => ∃ kv : Sv, ρ = [Sv.ro (.int x), Sv.ro (.int m), Sv.ro (.int (g m)), Sv.ro (.int (fact m)), kv], ?_, ?_⟩
  · refine for_rng m (fun i ρ => ∃ kv : Sv, ρ = [Sv.ro (.int x), Sv.ro (.int m), Sv.ro (.int (g i)), Sv.ro (.int (fact i)), kv]) (by omega)
      (fun Q q => by walk_at "rd"; exact q) ⟨Sv.no, by rw [g0]; rfl⟩ ?_ fun _ h => h
    rintro i _ hi ⟨kv, rfl⟩
    exact show PySem.IntMulOk (g i) (x - i) ∧ CMul (fact i) ((i : Int) + 1) ∧ ∃ kv : Sv, [Sv.ro (.int x), Sv.ro (.int m), Sv.ro (.int (g i * (x - i))), Sv.ro (.int (fact i * ((i : Int) + 1))), Sv.ro (.int i)] = [Sv.ro (.int x), Sv.ro (.int m), Sv.ro (.int (g (i + 1))), Sv.ro (.int (fact (i + 1))), kv] from
      ⟨gm i (by omega), .inr ⟨by omega, by omega⟩, _, by rw [gs]; rfl⟩
  · rintro _ ⟨kv, rfl⟩
    walk_at "rd"
    have p := fact_pos m
    have l := fact_le m hm
    exact ⟨⟨p, l⟩, q2⟩
abbrev s_l_by_steps : Stmt := top 18
theorem sc_l_by_steps : FnScope ["_law_shares_here", "_law_k"] ["_law_shares_here", "_law_k"] (defScope s_l_by_steps) := ⟨rfl, rfl, rfl, by decide +kernel, rfl, by decide +kernel, by decide +kernel⟩
theorem ok_lsteps {g : Addr} {gd : FuncData} (F : Fun K "_law_by_steps" "_law_by_steps" s_l_by_steps f fd) (F_l_chosen : FnOk P w K mg base CX0 kk g gd ["_law_x", "_law_m"] (sp3 K R_lchosen)) (m_l_chosen : mg "_law_chosen" = some (.ref g)) (k_l_chosen : PySem.W.keepIn K (.ref g) = true) (b_l_chosen : Binds K gd ["_law_x", "_law_m"] []) (m_sum : mg "sum" = none) (m_range : mg "range" = none) (m_len : mg "len" = none) :
    FnOk P w K mg base CX0 (kk + 1) f fd ["_law_shares_here", "_law_k"] (sp3 K R_vos) := by
  refine fun3 F sc_l_by_steps ?_ (fun cdv A outer s H E hr => ?_)
  · rintro ds Q ⟨ws, k, rfl, _⟩; rfl
  refine ⟨_, (last3 (ret3 (sum3 rfl m_sum (cons3 (PF3.pe (comp3 (ls := ["_law_j"]) (fs := ["_law_shares_here", "_law_k"]) (fr := [0, 1]) rfl (range3 m_range (cons3 (len3 m_len (cons3 (x3 0) nil3)) nil3)) (fun _ _ _ _ _ _ nd => bname (i := 0) nd (by decide)) (fun _ _ _ _ _ _ => noif) (fun _ _ _ _ _ _ => (mulB3 (ix3 (x3 1) (x3 0)) (call3 F_l_chosen hr m_l_chosen k_l_chosen b_l_chosen (cons3 (x3 2) (cons3 (x3 0) nil3))))))) nil3)))), ?_⟩
  rintro ds Q ⟨ws, k, rfl, hl, hb, hk, q⟩
  rw [show start3 _ _ = [Sv.ro (.tup (ws.map D.int)), Sv.ro (.int k)] from rfl]
  walk_at "rd"
  refine ⟨⟨by omega, by omega⟩, ?_⟩
  rw [show benv 1 [0, 1] _ = [none, some (.tup (ws.map D.int)), some (.int k)] from rfl, show ((ws.length : Int)).toNat = ws.length by omega, rng_map]
  refine comp_ints (fun j : Nat => D.int (j : Int)) (fun j => ws.getD j 0 * C k (0 + j)) (List.range ws.length) [] _ (fun j hj Q3 q3 => ?_) (line20 (by simp; omega)) ?_
  · have hj := List.mem_range.mp hj
    walk_at "rd"
    rw [at_ints hj]
    have hm : ws.getD j 0 ∈ ws := by rw [List.getD_eq_getElem?_getD, List.getElem?_eq_getElem hj]; exact List.getElem_mem hj
    rw [Nat.zero_add] at q3
    exact ⟨_, j, rfl, by omega, hk.near (by omega), (hb _ hm).mul (hk.near (by omega)) (by omega), q3⟩
  · rw [List.nil_append, range_zip (fun x j => x * C k j) ws 0]
    show sumF [.lst ((ws.zipIdx.map fun p => p.1 * C k p.2).map D.int)] _
    rw [sumF_ints, ← SV_sum ws 0]
    exact q
abbrev s_l_by_descents : Stmt := top 19
theorem sc_l_by_descents : FnScope ["_law_shares_here", "_law_k", "_law_many"] ["_law_shares_here", "_law_k"] (defScope s_l_by_descents) := ⟨rfl, rfl, rfl, by decide +kernel, rfl, by decide +kernel, by decide +kernel⟩
theorem ok_ldesc {g : Addr} {gd : FuncData} (F : Fun K "_law_by_descents" "_law_by_descents" s_l_by_descents f fd) (F_l_chosen : FnOk P w K mg base CX0 kk g gd ["_law_x", "_law_m"] (sp3 K R_lchosen)) (m_l_chosen : mg "_law_chosen" = some (.ref g)) (k_l_chosen : PySem.W.keepIn K (.ref g) = true) (b_l_chosen : Binds K gd ["_law_x", "_law_m"] []) (m_sum : mg "sum" = none) (m_range : mg "range" = none) (m_len : mg "len" = none) :
    FnOk P w K mg base CX0 (kk + 1) f fd ["_law_shares_here", "_law_k"] (sp3 K R_vod) := by
  refine fun3 F sc_l_by_descents ?_ (fun cdv A outer s H E hr => ?_)
  · rintro ds Q ⟨ws, k, rfl, _⟩; rfl
  have nd := sc_l_by_descents.nd
  refine ⟨_, (seq3 (set3 (i := 2) nd (len3 m_len (cons3 (x3 0) nil3)))
    (last3 (ret3 (sum3 rfl m_sum (cons3 (PF3.pe (comp3 (ls := ["_law_d"]) (fs := ["_law_shares_here", "_law_many", "_law_k"]) (fr := [0, 2, 1]) rfl (range3 m_range (cons3 (x3 2) nil3)) (fun _ _ _ _ _ _ nd => bname (i := 0) nd (by decide)) (fun _ _ _ _ _ _ => noif) (fun _ _ _ _ _ _ => (mulB3 (ix3 (x3 1) (x3 0)) (call3 F_l_chosen hr m_l_chosen k_l_chosen b_l_chosen (cons3 (sub3 (sub3 (add3 (x3 3) (x3 2)) i3) (x3 0)) (cons3 (x3 2) nil3))))))) nil3))))), ?_⟩
  rintro ds Q ⟨ws, k, rfl, hl, hb, hk, q⟩
  rw [show start3 _ _ = [Sv.ro (.tup (ws.map D.int)), Sv.ro (.int k), Sv.no] from rfl]
  walk_at "rd"
  refine ⟨⟨by omega, by omega⟩, ?_⟩
  rw [show benv 1 [0, 2, 1] _ = [none, some (.tup (ws.map D.int)), some (.int (ws.length : Int)), some (.int k)] from rfl, show ((ws.length : Int)).toNat = ws.length by omega, rng_map]
  refine comp_ints (fun j : Nat => D.int (j : Int)) (fun j => ws.getD j 0 * C (k + ws.length - 1 - ((0 + j : Nat) : Int)) ws.length) (List.range ws.length) [] _ (fun j hj Q3 q3 => ?_) (line20 (by simp; omega)) ?_
  · have hj := List.mem_range.mp hj
    walk_at "rd"
    rw [at_ints hj]
    have hm : ws.getD j 0 ∈ ws := by rw [List.getD_eq_getElem?_getD, List.getElem?_eq_getElem hj]; exact List.getElem_mem hj
    rw [Nat.zero_add] at q3
    exact ⟨_, ws.length, rfl, hl, hk.near (by omega), (hb _ hm).mul (hk.near (by omega)) (by omega), q3⟩
  · rw [List.nil_append, range_zip (fun x j => x * C (k + ws.length - 1 - (j : Int)) ws.length) ws 0]
    show sumF [.lst ((ws.zipIdx.map fun p => p.1 * C (k + ws.length - 1 - (p.2 : Int)) ws.length).map D.int)] _
    rw [sumF_ints, ← DV_sum ws 0]
    exact q
abbrev s_l_same : Stmt := top 20
theorem sc_l_same : FnScope ["_law_found", "_law_due"] ["_law_found", "_law_due"] (defScope s_l_same) := ⟨rfl, rfl, rfl, by decide +kernel, rfl, by decide +kernel, by decide +kernel⟩
def R_same (R : L3.Spec) : L3.Spec := fun ds Q => (∃ a : Int, ds = [.int a, .int a] ∧ Q (.bl true)) ∨ ∃ xs : List Int, ds = [.tup (xs.map D.int), .tup (xs.map D.int)] ∧ xs.length ≤ 100 ∧ (∀ (a : Int) (Q' : D → Prop), Q' (.bl true) → R [.int a, .int a] Q') ∧ Q (.bl true)
theorem ok_same {R : L3.Spec} {g : Addr} {gd : FuncData} (F : Fun K "_law_same" "_law_same" s_l_same f fd) (F_l_same : FnOk P w K mg base CX0 kk g gd ["_law_found", "_law_due"] (sp3 K R)) (m_l_same : mg "_law_same" = some (.ref g)) (k_l_same : PySem.W.keepIn K (.ref g) = true) (b_l_same : Binds K gd ["_law_found", "_law_due"] [])
    (m_len : mg "len" = none) (m_isi : mg "isinstance" = none) (m_int : mg "int" = none) (m_bool : mg "bool" = none) (m_str : mg "str" = none) (m_tuple : mg "tuple" = none) (m_all : mg "all" = none) (m_range : mg "range" = none) : FnOk P w K mg base CX0 (kk + 1) f fd ["_law_found", "_law_due"] (sp3 K (R_same R)) := by
  refine fun3 F sc_l_same ?_ (fun cdv A outer s H E hr => ?_)
  · rintro ds Q (⟨a, rfl, _⟩ | ⟨xs, rfl, _⟩) <;> rfl
  refine ⟨_, (seq3 (ifS3 (val3 (isi3 Ty4.t m_isi m_tuple PyProof.Rows.boot_tuple (x3 1)))
      (seq3 (ifS3 (PW3.pt (orT3 (notT3 (val3 (isi3 Ty4.t m_isi m_tuple PyProof.Rows.boot_tuple (x3 0)))) (or1 (neST3 (len3 m_len (cons3 (x3 0) nil3)) (len3 m_len (cons3 (x3 1) nil3))))))
        (last3 (ret3 b3))
        end3)
      (last3 (ret3 (all3 rfl m_all (cons3 (PF3.pe (comp3 (ls := ["_law_k"]) (fs := ["_law_found", "_law_due"]) (fr := [0, 1]) rfl (range3 m_range (cons3 (len3 m_len (cons3 (x3 1) nil3)) nil3)) (fun _ _ _ _ _ _ nd => bname (i := 0) nd (by decide)) (fun _ _ _ _ _ _ => noif) (fun _ _ _ _ _ _ => (call3 F_l_same hr m_l_same k_l_same b_l_same (cons3 (ix3 (x3 1) (x3 0)) (cons3 (ix3 (x3 2) (x3 0)) nil3)))))) nil3)))))
      end3)
    (seq3 (ifS3 (isNT3 (x3 1) n3)
      (last3 (ret3 (isN3 (x3 0) n3)))
      end3)
    (seq3 (ifS3 (val3 (isi3 Ty4.b m_isi m_bool PyProof.Rows.boot_bool (x3 1)))
      (last3 (ret3 (and3 (isi3 Ty4.b m_isi m_bool PyProof.Rows.boot_bool (x3 0)) (one3 (eqS3 (x3 0) (x3 1))))))
      end3)
    (seq3 (ifS3 (val3 (isi3 Ty4.i m_isi m_int PyProof.Rows.boot_int (x3 1)))
      (last3 (ret3 (and3 (isi3 Ty4.i m_isi m_int PyProof.Rows.boot_int (x3 0)) (and3 (not3 (isi3 Ty4.b m_isi m_bool PyProof.Rows.boot_bool (x3 0))) (one3 (eqS3 (x3 0) (x3 1)))))))
      end3)
    (last3 (ret3 (and3 (isi3 Ty4.s m_isi m_str PyProof.Rows.boot_str (x3 0)) (one3 (eqS3 (x3 0) (x3 1)))))))))), ?_⟩
  rintro ds Q (⟨a, rfl, q⟩ | ⟨xs, rfl, hl, hR, q⟩)
  · rw [show start3 _ _ = [Sv.ro (.int a), Sv.ro (.int a)] from rfl]
    try walk_at "rd"
    rw [if_neg (by decide)]
    try walk_at "rd"
    refine ⟨rfl, ?_⟩
    rw [show isD (.int a) = false from rfl]
    rw [if_neg (by decide)]
    try walk_at "rd"
    rw [if_neg (by decide)]
    try walk_at "rd"
    rw [if_pos (by decide)]
    try walk_at "rd"
    exact q
  · rw [show start3 _ _ = [Sv.ro (.tup (xs.map D.int)), Sv.ro (.tup (xs.map D.int))] from rfl]
    try walk_at "rd"
    rw [if_pos (by decide)]
    try walk_at "rd"
    rw [if_neg (by simp)]
    try walk_at "rd"
    refine ⟨⟨by omega, by omega⟩, ?_⟩
    rw [show benv 1 [0, 1] _ = [none, some (.tup (xs.map D.int)), some (.tup (xs.map D.int))] from rfl, show ((xs.length : Int)).toNat = xs.length by omega, rng_map]
    refine comp_true (fun j : Nat => D.int (j : Int)) (List.range xs.length) _ (fun j hj Q3 q3 => ?_) (by rw [sizeLine_eq, List.length_range]; omega) ?_
    · have hj := List.mem_range.mp hj
      try walk_at "rd"
      rw [at_ints hj]
      exact hR _ _ q3
    · rw [blF_bls, all_true]
      exact q
theorem ok_none {g : Addr} {gd : FuncData} {ps : List Str} {k : Nat} : FnOk P w K mg base CX0 k g gd ps (sp3 K fun _ _ => False) :=
  ⟨fun vs H Q E ⟨_, _, _, _, _, z, _⟩ => z.elim, fun A outer s H args us vs Q E _ _ _ _ ⟨_, _, _, _, _, z, _⟩ => z.elim⟩
end
end K24

end
section
set_option Elab.async false
set_option linter.all false
set_option maxRecDepth 100000
set_option maxHeartbeats 4100000
namespace K24
open PySem L2 L3
local macro_rules | `(tactic| walk_at "rd") => `(tactic| simp only [wSeq, wIfS, wRet, wNext, wSet, wSetI, wSetX, wPure, wPureR, wDrop, wOwn, wOwnI, vAll, vRd, List.map_cons, List.map_nil, Sv.all, Sv.rd, wVar, List.getElem?_cons_zero, List.getElem?_cons_succ, wC, wBin, wCB, wCons, wNil, wTest, wNotT, wAndT, wOrT, wAnd, wOr, wNot, wIf, wNeg, wChain, wTup, wLst, wIsi, wWalk, wRange, wRange2, gN, g2, hN, h2, wComp, wTrue, wM1, appF, addF_int, addF_lst, addF_tup, catF_lst, subF_int, mulF_int, mulBF_int, isT_int, isT_bool, isT_tup, isT_tupI, wFull, wListR, wSl, wPart, wNoPart, wEnum, wZip, modF_int, divF_int, powF_int, ltF_int, leF_int, gtF_int, geF_int, cmpF_int, eqSF_int, neSF_int, eqSF_bl, inF_tup, inF_lst, ixF_lst, ixF_tup, ixF_scr, lenF_lst, lenF_tup, lenF_scr, tupleF_lst, tupleF_tup, listF_lst, listF_tup, sortF_ints, blF_bls, List.set_cons_zero, List.set_cons_succ, List.set_nil, List.length_cons, List.length_nil, List.length_map, decide_eq_true_eq, List.nil_append])
section
variable {P : Program} {w : World} {K : PySem.W.Frag} {mg : Str → Option Value} {base : Heap} {f : Addr} {fd : FuncData} {kk : Nat}
def R_sameT : L3.Spec := R_same (R_same fun _ _ => False)
theorem same_int {a b : Int} {Q : D → Prop} (h : a = b) (q : Q (.bl true)) : R_sameT [.int a, .int b] Q := .inl ⟨a, by rw [h], q⟩
theorem same_tup {xs ys : List Int} {Q : D → Prop} (h : xs = ys) (hl : xs.length ≤ 100) (q : Q (.bl true)) : R_sameT [.tup (xs.map D.int), .tup (ys.map D.int)] Q := .inr ⟨xs, by rw [h], hl, fun a Q' q' => .inl ⟨a, rfl, q'⟩, q⟩
theorem at_last {ws : List Int} (h : 1 ≤ ws.length) : ∃ x ∈ ws, atI (ws.map D.int) (-1) = some (.int x) := by
  have hl : ws.length - 1 < ws.length := by omega
  refine ⟨ws[ws.length - 1], List.getElem_mem hl, ?_⟩
  have e : ixN ws.length (-1) = some (ws.length - 1) := by
    unfold ixN
    rw [if_neg (by decide), if_pos (by omega), show (-1 + (ws.length : Int)).toNat = ws.length - 1 by omega]
  rw [atI_map]
  unfold atI
  rw [e]
  simp [hl]
theorem cut_first (a : Int) (l : List Int) : cutD ((a :: l).map D.int) none (some 1) = [a].map D.int := by
  unfold cutD
  have e1 : HT.sIx ((a :: l).map D.int).length 0 none = 0 := by simp [HT.sIx]
  have e2 : HT.sIx ((a :: l).map D.int).length ((a :: l).map D.int).length (some 1) = 1 := by simp [HT.sIx]; try omega
  rw [e1, e2]
  rfl
abbrev s_law : Stmt := top 21
theorem sc_law : FnScope ["_law_script", "_law_many", "_law_far", "_law_falls", "_law_told", "_law_k", "_law_due", "_law_steps", "_law_back", "_law_free", "_law_shares_here"] ["_law_script"] (defScope s_law) := ⟨rfl, rfl, rfl, by decide +kernel, rfl, by decide +kernel, by decide +kernel⟩
def R_law : L3.Spec := fun ds Q => ∃ ns : List Int, ds = [.scr ns] ∧ Q (.bl true)
theorem ok_law {g1 g2 g3 g4 g5 g6 g7 g8 g9 g10 g11 g12 : Addr} {d1 d2 d3 d4 d5 d6 d7 d8 d9 d10 d11 d12 : FuncData} (F : Fun K "law" "law" s_law f fd)
    (F_l_draws : FnOk P w K mg base CX0 kk g1 d1 ["_law_cell_here", "_law_many", "_law_salt"] (sp3 K R_draws)) (m_l_draws : mg "_law_draws" = some (.ref g1)) (k_l_draws : PySem.W.keepIn K (.ref g1) = true) (b_l_draws : Binds K d1 ["_law_cell_here", "_law_many", "_law_salt"] [])
    (F_l_cell : FnOk P w K mg base CX0 kk g2 d2 ["_law_script", "_law_k"] (sp3 K R_cell)) (m_l_cell : mg "_law_cell" = some (.ref g2)) (k_l_cell : PySem.W.keepIn K (.ref g2) = true) (b_l_cell : Binds K d2 ["_law_script", "_law_k"] [])
    (F_l_any_k : FnOk P w K mg base CX0 kk g3 d3 ["_law_script", "_law_at", "_law_salt"] (sp3 K R_any)) (m_l_any_k : mg "_law_any_k" = some (.ref g3)) (k_l_any_k : PySem.W.keepIn K (.ref g3) = true) (b_l_any_k : Binds K d3 ["_law_script", "_law_at", "_law_salt"] [])
    (F_l_shares : FnOk P w K mg base CX0 kk g4 d4 ["_law_script", "_law_at", "_law_many", "_law_salt"] (sp3 K R_shares)) (m_l_shares : mg "_law_shares" = some (.ref g4)) (k_l_shares : PySem.W.keepIn K (.ref g4) = true) (b_l_shares : Binds K d4 ["_law_script", "_law_at", "_law_many", "_law_salt"] [])
    (F_steps_of : FnOk P w K mg base CX0 kk g5 d5 ["shares"] (sp3 K R_steps)) (m_steps_of : mg "steps_of" = some (.ref g5)) (k_steps_of : PySem.W.keepIn K (.ref g5) = true) (b_steps_of : Binds K d5 ["shares"] [])
    (F_l_tuple : FnOk P w K mg base CX0 kk g6 d6 ["_law_found", "_law_many"] (sp3 K R_ltuple)) (m_l_tuple : mg "_law_tuple" = some (.ref g6)) (k_l_tuple : PySem.W.keepIn K (.ref g6) = true) (b_l_tuple : Binds K d6 ["_law_found", "_law_many"] [])
    (F_l_by_steps : FnOk P w K mg base CX0 kk g7 d7 ["_law_shares_here", "_law_k"] (sp3 K R_vos)) (m_l_by_steps : mg "_law_by_steps" = some (.ref g7)) (k_l_by_steps : PySem.W.keepIn K (.ref g7) = true) (b_l_by_steps : Binds K d7 ["_law_shares_here", "_law_k"] [])
    (F_l_by_descents : FnOk P w K mg base CX0 kk g8 d8 ["_law_shares_here", "_law_k"] (sp3 K R_vod)) (m_l_by_descents : mg "_law_by_descents" = some (.ref g8)) (k_l_by_descents : PySem.W.keepIn K (.ref g8) = true) (b_l_by_descents : Binds K d8 ["_law_shares_here", "_law_k"] [])
    (F_value_of_descents : FnOk P w K mg base CX0 kk g9 d9 ["shares", "k"] (sp3 K R_vod)) (m_value_of_descents : mg "value_of_descents" = some (.ref g9)) (k_value_of_descents : PySem.W.keepIn K (.ref g9) = true) (b_value_of_descents : Binds K d9 ["shares", "k"] [])
    (F_value_of_steps : FnOk P w K mg base CX0 kk g10 d10 ["shares", "k"] (sp3 K R_vos)) (m_value_of_steps : mg "value_of_steps" = some (.ref g10)) (k_value_of_steps : PySem.W.keepIn K (.ref g10) = true) (b_value_of_steps : Binds K d10 ["shares", "k"] [])
    (F_descents_from : FnOk P w K mg base CX0 kk g11 d11 ["shares"] (sp3 K R_df)) (m_descents_from : mg "descents_from" = some (.ref g11)) (k_descents_from : PySem.W.keepIn K (.ref g11) = true) (b_descents_from : Binds K d11 ["shares"] [])
    (F_l_same : FnOk P w K mg base CX0 kk g12 d12 ["_law_found", "_law_due"] (sp3 K R_sameT)) (m_l_same : mg "_law_same" = some (.ref g12)) (k_l_same : PySem.W.keepIn K (.ref g12) = true) (b_l_same : Binds K d12 ["_law_found", "_law_due"] [])
    (m_list : mg "list" = none) (m_range : mg "range" = none) : FnOk P w K mg base CX0 (kk + 1) f fd ["_law_script"] (sp3 K R_law) := by
  refine fun3 F sc_law ?_ (fun cdv A outer s H E hr => ?_)
  · rintro ds Q ⟨ns, rfl, _⟩; rfl
  have nd := sc_law.nd
  refine ⟨_, (seq3 (set3 (i := 1) nd (add3 i3 (mod3 (ix3 (call3 F_l_draws hr m_l_draws k_l_draws b_l_draws (cons3 (call3 F_l_cell hr m_l_cell k_l_cell b_l_cell (cons3 (x3 0) (cons3 i3 nil3))) (cons3 i3 (cons3 i3 nil3)))) i3) i3)))
    (seq3 (set3 (i := 2) nd (call3 F_l_any_k hr m_l_any_k k_l_any_k b_l_any_k (cons3 (x3 0) (cons3 i3 (cons3 i3 nil3)))))
    (seq3 (set3 (i := 3) nd (call3 F_l_shares hr m_l_shares k_l_shares b_l_shares (cons3 (x3 0) (cons3 i3 (cons3 (x3 1) (cons3 i3 nil3))))))
    (seq3 (set3 (i := 4) nd (call3 F_steps_of hr m_steps_of k_steps_of b_steps_of (cons3 (x3 3) nil3)))
    (seq3 (ifS3 (PW3.pt (orT3 (notT3 (val3 (call3 F_l_tuple hr m_l_tuple k_l_tuple b_l_tuple (cons3 (x3 4) (cons3 (add3 (x3 1) i3) nil3))))) (or1 (neST3 (ix3 (x3 4) i3) i3))))
      (last3 (ret3 b3))
      end3)
    (seqM3 (for3 rfl PassesOwn.never (walk3 (add3 (PF3.pe (listRange3 rfl m_list m_range (cons3 (add3 (x3 1) i3) nil3))) (PF3.pe (lst3 (cons3 (x3 2) nil3))))) (name3 (i := 5) nd)
      (last3 (ifS3 (neST3 (call3 F_l_by_steps hr m_l_by_steps k_l_by_steps b_l_by_steps (cons3 (x3 4) (cons3 (x3 5) nil3))) (call3 F_l_by_descents hr m_l_by_descents k_l_by_descents b_l_by_descents (cons3 (x3 3) (cons3 (x3 5) nil3))))
        (last3 (ret3 b3))
        end3)))
    (seq3 (set3 (i := 6) nd (call3 F_l_by_descents hr m_l_by_descents k_l_by_descents b_l_by_descents (cons3 (x3 3) (cons3 (x3 2) nil3))))
    (seq3 (ifS3 (PW3.pt (orT3 (notT3 (val3 (call3 F_l_same hr m_l_same k_l_same b_l_same (cons3 (call3 F_value_of_descents hr m_value_of_descents k_value_of_descents b_value_of_descents (cons3 (x3 3) (cons3 (x3 2) nil3))) (cons3 (x3 6) nil3))))) (or1 (notT3 (val3 (call3 F_l_same hr m_l_same k_l_same b_l_same (cons3 (call3 F_value_of_steps hr m_value_of_steps k_value_of_steps b_value_of_steps (cons3 (x3 4) (cons3 (x3 2) nil3))) (cons3 (x3 6) nil3))))))))
      (last3 (ret3 b3))
      end3)
    (seq3 (ifS3 (notT3 (val3 (call3 F_l_same hr m_l_same k_l_same b_l_same (cons3 (call3 F_descents_from hr m_descents_from k_descents_from b_descents_from (cons3 (x3 4) nil3)) (cons3 (x3 3) nil3)))))
      (last3 (ret3 b3))
      end3)
    (seq3 (set3 (i := 7) nd (add3 (tup3 (cons3 i3 nil3)) (call3 F_l_shares hr m_l_shares k_l_shares b_l_shares (cons3 (x3 0) (cons3 i3 (cons3 (x3 1) (cons3 i3 nil3)))))))
    (seq3 (set3 (i := 8) nd (call3 F_descents_from hr m_descents_from k_descents_from b_descents_from (cons3 (x3 7) nil3)))
    (seq3 (ifS3 (PW3.pt (orT3 (notT3 (val3 (call3 F_l_tuple hr m_l_tuple k_l_tuple b_l_tuple (cons3 (x3 8) (cons3 (x3 1) nil3))))) (or1 (notT3 (val3 (call3 F_l_same hr m_l_same k_l_same b_l_same (cons3 (call3 F_steps_of hr m_steps_of k_steps_of b_steps_of (cons3 (x3 8) nil3)) (cons3 (x3 7) nil3))))))))
      (last3 (ret3 b3))
      end3)
    (seq3 (set3 (i := 9) nd (add3 (tup3 (cons3 (add3 (ix3 (x3 3) (neg3 i3)) i3) nil3)) (sl3 (x3 7) (po3 i3) po3n)))
    (seqM3 (for3 rfl PassesOwn.never (walk3 (tup3 (cons3 (x3 7) (cons3 (x3 9) nil3)))) (name3 (i := 10) nd)
      (last3 (ifS3 (notT3 (val3 (call3 F_l_same hr m_l_same k_l_same b_l_same (cons3 (call3 F_value_of_steps hr m_value_of_steps k_value_of_steps b_value_of_steps (cons3 (x3 10) (cons3 (x3 2) nil3))) (cons3 (call3 F_l_by_steps hr m_l_by_steps k_l_by_steps b_l_by_steps (cons3 (x3 10) (cons3 (x3 2) nil3))) nil3)))))
        (last3 (ret3 b3))
        end3)))
    (last3 (ret3 (and3 (call3 F_l_same hr m_l_same k_l_same b_l_same (cons3 (call3 F_value_of_steps hr m_value_of_steps k_value_of_steps b_value_of_steps (cons3 (sl3 (x3 3) po3n (po3 i3)) (cons3 (x3 2) nil3))) (cons3 (ix3 (x3 3) i3) nil3))) (one3 (call3 F_l_same hr m_l_same k_l_same b_l_same (cons3 (call3 F_steps_of hr m_steps_of k_steps_of b_steps_of (cons3 (x3 3) nil3)) (cons3 (x3 4) nil3))))))))))))))))))))), ?_⟩
  rintro ds Q ⟨ns, rfl, q⟩
  rw [show start3 _ _ = [Sv.ro (.scr ns), Sv.no, Sv.no, Sv.no, Sv.no, Sv.no, Sv.no, Sv.no, Sv.no, Sv.no, Sv.no] from rfl]
  walk_at "rd"
  refine ⟨ns, 0, rfl, fun c0 => ⟨c0, 1, 100003, rfl, by omega, by omega, fun xs hx => ?_⟩⟩
  match xs, hx with
  | [a], _ =>
  have h0 : atI [D.int a] 0 = some (D.int a) := rfl
  walk_at "rd"
  rw [h0]; dsimp only
  rw [modF_int]
  refine ⟨by omega, ?_⟩
  walk_at "rd"
  obtain ⟨n, en, hn0, hn⟩ : ∃ n : Nat, 1 + a % 9 = (n : Int) ∧ 1 ≤ n ∧ n ≤ 9 := ⟨(1 + a % 9).toNat, by omega, by omega, by omega⟩
  rw [en]
  refine ⟨ns, 1, 200017, rfl, fun far hfar => ?_⟩
  refine ⟨ns, 3, n, 300007, rfl, hn, fun ws hw hbw => ?_⟩
  subst hw
  have bw : ∀ x ∈ ws, Bi x := fun x hx => .of (hbw x hx) (by omega)
  have st := steps_length ws
  obtain ⟨tr, et⟩ := steps_first ws
  have bt : ∀ x ∈ stepsOf ws, Bg 10000 x := by
    unfold stepsOf
    intro x hx
    refine (fd_big (ws.length + 1) 9030 _ (vals_length _ _ _) (fun y hy => ?_) x hx).mono (by omega)
    rw [vals_range] at hy
    obtain ⟨j, hj, rfl⟩ := List.mem_map.mp hy
    have hj := List.mem_range.mp hj
    have kj : Sk (0 + (j : Int)) := sk_small (by omega)
    exact (DV_big (a := 2000) (b := 7001) (fun d hd => kj.big (by omega) (by omega)) ws 0 (by omega) hbw).mono (by omega)
  have bt2 : ∀ x ∈ stepsOf ws, Bi x := fun x hx => .of (bt x hx) (by omega)
  refine ⟨ws, rfl, by omega, bw, ?_⟩
  walk_at "rd"
  have es : ((ws.length : Int) + 1) = ((stepsOf ws).length : Int) := by omega
  rw [es]
  refine ⟨stepsOf ws, rfl, by omega, ?_⟩
  have t0 : atI ((stepsOf ws).map D.int) 0 = some (.int 0) := by rw [et]; exact at_ints (ws := 0 :: tr) (j := 0) (by simp)
  dsimp only
  rw [if_neg (by decide), t0]
  dsimp only
  rw [neSF_int]
  walk_at "rd"
  rw [if_neg (by decide)]
  refine ⟨fun ρ => ∃ kv : Sv, ρ = [Sv.ro (.scr ns), Sv.ro (.int ws.length), Sv.ro (.int far), Sv.ro (.tup (ws.map D.int)), Sv.ro (.tup ((stepsOf ws).map D.int)), kv, Sv.no, Sv.no, Sv.no, Sv.no, Sv.no], ?_, ?_⟩
  · refine for_intro ((rngI 0 (ws.length + 1)).map D.int ++ [.int far]) (fun _ ρ => ∃ kv : Sv, ρ = [Sv.ro (.scr ns), Sv.ro (.int ws.length), Sv.ro (.int far), Sv.ro (.tup (ws.map D.int)), Sv.ro (.tup ((stepsOf ws).map D.int)), kv, Sv.no, Sv.no, Sv.no, Sv.no, Sv.no]) (fun Q q => ?_) ⟨_, rfl⟩ ?_ fun _ h => h
    · walk_at "rd"
      refine ⟨⟨by omega, by omega⟩, by rw [sizeLine_eq]; decide, by rw [sizeLine_eq, rngI_length]; simp; omega, ?_⟩
      rw [show ((ws.length : Int) + 1).toNat = ws.length + 1 by omega]
      exact q
    rintro i d _ hd ⟨kv, rfl⟩
    obtain ⟨k, rfl, hk⟩ : ∃ k, d = .int k ∧ Sk k := by
      rcases List.mem_append.mp (List.mem_of_getElem? hd) with hm1 | hm2
      · obtain ⟨k, hk1, rfl⟩ := List.mem_map.mp hm1
        unfold rngI at hk1
        obtain ⟨j, hj, rfl⟩ := List.mem_map.mp hk1
        have hj2 := List.mem_range.mp hj
        exact ⟨_, rfl, sk_small (by omega)⟩
      · rw [List.mem_singleton.mp hm2]; exact ⟨far, rfl, hfar⟩
    walk_at "rd"
    refine ⟨stepsOf ws, k, rfl, by omega, bt2, hk, ?_⟩
    refine ⟨ws, k, rfl, by omega, bw, hk, ?_⟩
    rw [two_sums]
    walk_at "rd"
    rw [if_neg (by simp)]
    exact ⟨_, rfl⟩
  rintro _ ⟨kv, rfl⟩
  walk_at "rd"
  refine ⟨ws, far, rfl, by omega, bw, hfar, ?_⟩
  refine ⟨ws, far, rfl, by omega, bw, hfar, ?_⟩
  refine same_int rfl ?_
  dsimp only
  rw [if_neg (by decide)]
  refine ⟨stepsOf ws, far, rfl, by omega, bt2, hfar, ?_⟩
  refine same_int (two_sums ws far) ?_
  dsimp only
  rw [if_neg (by decide)]
  refine ⟨stepsOf ws, ws.length, rfl, st, hn, bt, fun vs hv hB hb2 => ?_⟩
  refine same_tup hB.same (by omega) ?_
  dsimp only
  rw [if_neg (by decide)]
  refine ⟨by rw [sizeLine_eq]; decide, ns, 33, ws.length, 900001, rfl, hn, fun xs hx hbx => ?_⟩
  dsimp only
  rw [addF_tup]
  refine ⟨by rw [sizeLine_eq]; simp; omega, ?_⟩
  rw [show [D.int 0] ++ xs.map D.int = (0 :: xs).map D.int from rfl]
  have b0 : ∀ x ∈ 0 :: xs, Bg 10000 x := fun x hx1 => by
    rcases List.mem_cons.mp hx1 with rfl | hx2
    · exact Bg.zero
    · exact (hbx x hx2).mono (by omega)
  refine ⟨0 :: xs, ws.length, rfl, by simp [hx], hn, b0, fun vs' hv' hB' hb2' => ?_⟩
  refine ⟨vs', by rw [hv'], by omega, ?_⟩
  dsimp only
  rw [if_neg (by decide)]
  refine ⟨vs', rfl, by omega, fun x hx1 => .of (hb2' x hx1) (by omega), ?_⟩
  rw [hB'.steps]
  refine same_tup rfl (by simp; omega) ?_
  dsimp only
  rw [if_neg (by decide)]
  obtain ⟨la, hla, ela⟩ := at_last (ws := ws) (by omega)
  rw [ela]
  dsimp only
  rw [addF_int, cut_one]
  refine ⟨by rw [sizeLine_eq]; decide, by rw [sizeLine_eq]; simp; omega, ?_⟩
  rw [show [D.int (la + 1)] ++ ((0 :: xs).drop 1).map D.int = ((la + 1) :: xs).map D.int from rfl]
  have bs : ∀ ys : List Int, (ys = 0 :: xs ∨ ys = (la + 1) :: xs) → ys.length ≤ 12 ∧ ∀ x ∈ ys, Bi x := by
    rintro ys (rfl | rfl)
    · exact ⟨by simp; omega, fun x h => .of (b0 x h) (by omega)⟩
    · refine ⟨by simp; omega, fun x h => ?_⟩
      rcases List.mem_cons.mp h with rfl | h2
      · exact .of ((hbw la hla).add (Bg.mono (a := 1) (b := 2000) (x := 1) (by unfold Bg; decide) (by omega))) (by omega)
      · exact .of (hbx x h2) (by omega)
  refine ⟨fun ρ => ∃ v : Sv, ρ = [Sv.ro (.scr ns), Sv.ro (.int ws.length), Sv.ro (.int far), Sv.ro (.tup (ws.map D.int)), Sv.ro (.tup ((stepsOf ws).map D.int)), kv, Sv.ro (.int (DV ws.length 0 ws far)), Sv.ro (.tup ((0 :: xs).map D.int)), Sv.ro (.tup (vs'.map D.int)), Sv.ro (.tup (((la + 1) :: xs).map D.int)), v], ?_, ?_⟩
  · refine for_intro [.tup ((0 :: xs).map D.int), .tup (((la + 1) :: xs).map D.int)] (fun _ ρ => ∃ v : Sv, ρ = [Sv.ro (.scr ns), Sv.ro (.int ws.length), Sv.ro (.int far), Sv.ro (.tup (ws.map D.int)), Sv.ro (.tup ((stepsOf ws).map D.int)), kv, Sv.ro (.int (DV ws.length 0 ws far)), Sv.ro (.tup ((0 :: xs).map D.int)), Sv.ro (.tup (vs'.map D.int)), Sv.ro (.tup (((la + 1) :: xs).map D.int)), v]) (fun Q q => ?_) ⟨_, rfl⟩ ?_ fun _ h => h
    · walk_at "rd"
      exact ⟨by rw [sizeLine_eq]; decide, q⟩
    rintro i d _ hd ⟨v, rfl⟩
    obtain ⟨ys, rfl, h1, h2⟩ : ∃ ys : List Int, d = .tup (ys.map D.int) ∧ ys.length ≤ 12 ∧ ∀ x ∈ ys, Bi x := by
      rcases List.mem_cons.mp (List.mem_of_getElem? hd) with e | e
      · exact ⟨_, e, bs _ (.inl rfl)⟩
      · exact ⟨_, List.mem_singleton.mp e, bs _ (.inr rfl)⟩
    walk_at "rd"
    refine ⟨ys, far, rfl, h1, h2, hfar, ⟨ys, far, rfl, h1, h2, hfar, ?_⟩⟩
    refine same_int rfl ?_
    dsimp only
    rw [if_neg (by decide)]
    exact ⟨_, rfl⟩
  rintro _ ⟨v, rfl⟩
  walk_at "rd"
  obtain ⟨w0, wr, ew⟩ : ∃ w0 wr, ws = w0 :: wr := by
    cases ws with
    | nil => simp at hn0
    | cons a l => exact ⟨a, l, rfl⟩
  have e0 : atI (ws.map D.int) 0 = some (.int w0) := by rw [ew]; exact at_ints (ws := w0 :: wr) (j := 0) (by simp)
  rw [e0, show cutD (ws.map D.int) none (some 1) = [w0].map D.int by rw [ew]; exact cut_first w0 wr]
  dsimp only
  refine ⟨[w0], far, rfl, by simp, fun x hx1 => bw x (by rw [List.mem_singleton.mp hx1, ew]; exact List.mem_cons_self), hfar, ?_⟩
  refine same_int (show w0 * C far 0 + 0 = w0 by rw [C_zero]; omega) ?_
  dsimp only
  refine ⟨ws, rfl, by omega, bw, ?_⟩
  exact same_tup rfl (by omega) q
end
end K24

end
section
set_option Elab.async false
set_option linter.all false
set_option maxRecDepth 100000
set_option maxHeartbeats 4100000

namespace K24
open PySem L2 L3
theorem all_mk {l : PySem.W.OpenLaw} {w : World} {K : PySem.W.Frag} {h : Heap} {mg : Str → Option Value} {fa f1 f2 f3 f4 f5 f6 f7 f8 f9 f10 f11 f12 f13 f14 f15 f16 f17 f18 f19 : Addr} (X : K.In h) (G : h.Ns mainGlobals mg) (hfa : mg "law" = some (.ref fa))
    {od1 an1 od2 an2 od3 an3 od4 an4 od5 an5 od6 an6 od7 an7 od8 an8 od9 an9 od10 an10 od11 an11 od12 an12 od13 an13 od14 an14 od15 an15 od16 an16 od17 an17 od18 an18 od19 an19 : Option Addr} {sl1 sl2 sl3 sl4 sl5 sl6 sl7 sl8 sl9 sl10 sl11 sl12 sl13 sl14 sl15 sl16 sl17 sl18 sl19 : Array (Option Value)}
    {oc1 kV1 dc1 pm1 cd1 ct1 oc2 kV2 dc2 pm2 cd2 ct2 oc3 kV3 dc3 pm3 cd3 ct3 oc4 kV4 dc4 pm4 cd4 ct4 oc5 kV5 dc5 pm5 cd5 ct5 oc6 kV6 dc6 pm6 cd6 ct6 oc7 kV7 dc7 pm7 cd7 ct7 oc8 kV8 dc8 pm8 cd8 ct8 oc9 kV9 dc9 pm9 cd9 ct9 oc10 kV10 dc10 pm10 cd10 ct10 oc11 kV11 dc11 pm11 cd11 ct11 oc12 kV12 dc12 pm12 cd12 ct12 oc13 kV13 dc13 pm13 cd13 ct13 oc14 kV14 dc14 pm14 cd14 ct14 oc15 kV15 dc15 pm15 cd15 ct15 oc16 kV16 dc16 pm16 cd16 ct16 oc17 kV17 dc17 pm17 cd17 ct17 oc18 kV18 dc18 pm18 cd18 ct18 oc19 kV19 dc19 pm19 cd19 ct19 : Value}
    (a1 : PySem.W.nsIn K mainGlobals "chosen" = some (some (.ref f1))) (l1 : K.lookup f1 = some ⟨oc1, od1, .func (PySem.W.fnOf "chosen" "chosen" (defArgs s_chosen) (defBody s_chosen) (defScope s_chosen) .none kV1 dc1 pm1 an1 cd1 ct1), sl1⟩) (c1 : PySem.W.codeIn K cd1 "chosen" = true) (k1 : PySem.W.keepIn K (.ref f1) = true)
    (a2 : PySem.W.nsIn K mainGlobals "sum_over_descents" = some (some (.ref f2))) (l2 : K.lookup f2 = some ⟨oc2, od2, .func (PySem.W.fnOf "sum_over_descents" "sum_over_descents" (defArgs s_sumd) (defBody s_sumd) (defScope s_sumd) .none kV2 dc2 pm2 an2 cd2 ct2), sl2⟩) (c2 : PySem.W.codeIn K cd2 "sum_over_descents" = true) (k2 : PySem.W.keepIn K (.ref f2) = true)
    (a3 : PySem.W.nsIn K mainGlobals "first_differences" = some (some (.ref f3))) (l3 : K.lookup f3 = some ⟨oc3, od3, .func (PySem.W.fnOf "first_differences" "first_differences" (defArgs s_fd) (defBody s_fd) (defScope s_fd) .none kV3 dc3 pm3 an3 cd3 ct3), sl3⟩) (c3 : PySem.W.codeIn K cd3 "first_differences" = true) (k3 : PySem.W.keepIn K (.ref f3) = true)
    (a4 : PySem.W.nsIn K mainGlobals "value_of_descents" = some (some (.ref f4))) (l4 : K.lookup f4 = some ⟨oc4, od4, .func (PySem.W.fnOf "value_of_descents" "value_of_descents" (defArgs s_vod) (defBody s_vod) (defScope s_vod) .none kV4 dc4 pm4 an4 cd4 ct4), sl4⟩) (c4 : PySem.W.codeIn K cd4 "value_of_descents" = true) (k4 : PySem.W.keepIn K (.ref f4) = true)
    (a5 : PySem.W.nsIn K mainGlobals "value_of_steps" = some (some (.ref f5))) (l5 : K.lookup f5 = some ⟨oc5, od5, .func (PySem.W.fnOf "value_of_steps" "value_of_steps" (defArgs s_vos) (defBody s_vos) (defScope s_vos) .none kV5 dc5 pm5 an5 cd5 ct5), sl5⟩) (c5 : PySem.W.codeIn K cd5 "value_of_steps" = true) (k5 : PySem.W.keepIn K (.ref f5) = true)
    (a6 : PySem.W.nsIn K mainGlobals "steps_of" = some (some (.ref f6))) (l6 : K.lookup f6 = some ⟨oc6, od6, .func (PySem.W.fnOf "steps_of" "steps_of" (defArgs s_steps) (defBody s_steps) (defScope s_steps) .none kV6 dc6 pm6 an6 cd6 ct6), sl6⟩) (c6 : PySem.W.codeIn K cd6 "steps_of" = true) (k6 : PySem.W.keepIn K (.ref f6) = true)
    (a7 : PySem.W.nsIn K mainGlobals "descents_from" = some (some (.ref f7))) (l7 : K.lookup f7 = some ⟨oc7, od7, .func (PySem.W.fnOf "descents_from" "descents_from" (defArgs s_df) (defBody s_df) (defScope s_df) .none kV7 dc7 pm7 an7 cd7 ct7), sl7⟩) (c7 : PySem.W.codeIn K cd7 "descents_from" = true) (k7 : PySem.W.keepIn K (.ref f7) = true)
    (a8 : PySem.W.nsIn K mainGlobals "_law_mixed" = some (some (.ref f8))) (l8 : K.lookup f8 = some ⟨oc8, od8, .func (PySem.W.fnOf "_law_mixed" "_law_mixed" (defArgs s_l_mixed) (defBody s_l_mixed) (defScope s_l_mixed) .none kV8 dc8 pm8 an8 cd8 ct8), sl8⟩) (c8 : PySem.W.codeIn K cd8 "_law_mixed" = true) (k8 : PySem.W.keepIn K (.ref f8) = true)
    (a9 : PySem.W.nsIn K mainGlobals "_law_draws" = some (some (.ref f9))) (l9 : K.lookup f9 = some ⟨oc9, od9, .func (PySem.W.fnOf "_law_draws" "_law_draws" (defArgs s_l_draws) (defBody s_l_draws) (defScope s_l_draws) .none kV9 dc9 pm9 an9 cd9 ct9), sl9⟩) (c9 : PySem.W.codeIn K cd9 "_law_draws" = true) (k9 : PySem.W.keepIn K (.ref f9) = true)
    (a10 : PySem.W.nsIn K mainGlobals "_law_cell" = some (some (.ref f10))) (l10 : K.lookup f10 = some ⟨oc10, od10, .func (PySem.W.fnOf "_law_cell" "_law_cell" (defArgs s_l_cell) (defBody s_l_cell) (defScope s_l_cell) .none kV10 dc10 pm10 an10 cd10 ct10), sl10⟩) (c10 : PySem.W.codeIn K cd10 "_law_cell" = true) (k10 : PySem.W.keepIn K (.ref f10) = true)
    (a11 : PySem.W.nsIn K mainGlobals "_law_great" = some (some (.ref f11))) (l11 : K.lookup f11 = some ⟨oc11, od11, .func (PySem.W.fnOf "_law_great" "_law_great" (defArgs s_l_great) (defBody s_l_great) (defScope s_l_great) .none kV11 dc11 pm11 an11 cd11 ct11), sl11⟩) (c11 : PySem.W.codeIn K cd11 "_law_great" = true) (k11 : PySem.W.keepIn K (.ref f11) = true)
    (a12 : PySem.W.nsIn K mainGlobals "_law_any_k" = some (some (.ref f12))) (l12 : K.lookup f12 = some ⟨oc12, od12, .func (PySem.W.fnOf "_law_any_k" "_law_any_k" (defArgs s_l_any_k) (defBody s_l_any_k) (defScope s_l_any_k) .none kV12 dc12 pm12 an12 cd12 ct12), sl12⟩) (c12 : PySem.W.codeIn K cd12 "_law_any_k" = true) (k12 : PySem.W.keepIn K (.ref f12) = true)
    (a13 : PySem.W.nsIn K mainGlobals "_law_shares" = some (some (.ref f13))) (l13 : K.lookup f13 = some ⟨oc13, od13, .func (PySem.W.fnOf "_law_shares" "_law_shares" (defArgs s_l_shares) (defBody s_l_shares) (defScope s_l_shares) .none kV13 dc13 pm13 an13 cd13 ct13), sl13⟩) (c13 : PySem.W.codeIn K cd13 "_law_shares" = true) (k13 : PySem.W.keepIn K (.ref f13) = true)
    (a14 : PySem.W.nsIn K mainGlobals "_law_tuple" = some (some (.ref f14))) (l14 : K.lookup f14 = some ⟨oc14, od14, .func (PySem.W.fnOf "_law_tuple" "_law_tuple" (defArgs s_l_tuple) (defBody s_l_tuple) (defScope s_l_tuple) .none kV14 dc14 pm14 an14 cd14 ct14), sl14⟩) (c14 : PySem.W.codeIn K cd14 "_law_tuple" = true) (k14 : PySem.W.keepIn K (.ref f14) = true)
    (a15 : PySem.W.nsIn K mainGlobals "_law_chosen" = some (some (.ref f15))) (l15 : K.lookup f15 = some ⟨oc15, od15, .func (PySem.W.fnOf "_law_chosen" "_law_chosen" (defArgs s_l_chosen) (defBody s_l_chosen) (defScope s_l_chosen) .none kV15 dc15 pm15 an15 cd15 ct15), sl15⟩) (c15 : PySem.W.codeIn K cd15 "_law_chosen" = true) (k15 : PySem.W.keepIn K (.ref f15) = true)
    (a16 : PySem.W.nsIn K mainGlobals "_law_by_steps" = some (some (.ref f16))) (l16 : K.lookup f16 = some ⟨oc16, od16, .func (PySem.W.fnOf "_law_by_steps" "_law_by_steps" (defArgs s_l_by_steps) (defBody s_l_by_steps) (defScope s_l_by_steps) .none kV16 dc16 pm16 an16 cd16 ct16), sl16⟩) (c16 : PySem.W.codeIn K cd16 "_law_by_steps" = true) (k16 : PySem.W.keepIn K (.ref f16) = true)
    (a17 : PySem.W.nsIn K mainGlobals "_law_by_descents" = some (some (.ref f17))) (l17 : K.lookup f17 = some ⟨oc17, od17, .func (PySem.W.fnOf "_law_by_descents" "_law_by_descents" (defArgs s_l_by_descents) (defBody s_l_by_descents) (defScope s_l_by_descents) .none kV17 dc17 pm17 an17 cd17 ct17), sl17⟩) (c17 : PySem.W.codeIn K cd17 "_law_by_descents" = true) (k17 : PySem.W.keepIn K (.ref f17) = true)
    (a18 : PySem.W.nsIn K mainGlobals "_law_same" = some (some (.ref f18))) (l18 : K.lookup f18 = some ⟨oc18, od18, .func (PySem.W.fnOf "_law_same" "_law_same" (defArgs s_l_same) (defBody s_l_same) (defScope s_l_same) .none kV18 dc18 pm18 an18 cd18 ct18), sl18⟩) (c18 : PySem.W.codeIn K cd18 "_law_same" = true) (k18 : PySem.W.keepIn K (.ref f18) = true)
    (a19 : PySem.W.nsIn K mainGlobals "law" = some (some (.ref f19))) (l19 : K.lookup f19 = some ⟨oc19, od19, .func (PySem.W.fnOf "law" "law" (defArgs s_law) (defBody s_law) (defScope s_law) .none kV19 dc19 pm19 an19 cd19 ct19), sl19⟩) (c19 : PySem.W.codeIn K cd19 "law" = true) (k19 : PySem.W.keepIn K (.ref f19) = true)
    (z1 : PySem.W.nsIn K mainGlobals "len" = some none) (z2 : PySem.W.nsIn K mainGlobals "range" = some none) (z3 : PySem.W.nsIn K mainGlobals "isinstance" = some none) (z4 : PySem.W.nsIn K mainGlobals "int" = some none) (z5 : PySem.W.nsIn K mainGlobals "bool" = some none) (z6 : PySem.W.nsIn K mainGlobals "str" = some none) (z7 : PySem.W.nsIn K mainGlobals "tuple" = some none) (z8 : PySem.W.nsIn K mainGlobals "list" = some none) (z9 : PySem.W.nsIn K mainGlobals "sum" = some none) (z10 : PySem.W.nsIn K mainGlobals "enumerate" = some none) (z11 : PySem.W.nsIn K mainGlobals "zip" = some none) (z12 : PySem.W.nsIn K mainGlobals "all" = some none) :
    ∃ fd : FuncData, (∀ (s : Shared) (v : Value), BindsTo s fd ⟨[v], []⟩ [("_law_script", v)]) ∧ ∀ base : Heap, K.In base → base.Ns mainGlobals mg → FnOk l.prog w K mg base CX0 9 fa fd ["_law_script"] (sp3 K R_law) := by
  have e := hfa.symm.trans (PySem.W.mg_of X G a19)
  cases e
  have F1 := fun_mk (st := s_chosen) l1 c1 k1
  have F2 := fun_mk (st := s_sumd) l2 c2 k2
  have F3 := fun_mk (st := s_fd) l3 c3 k3
  have F4 := fun_mk (st := s_vod) l4 c4 k4
  have F5 := fun_mk (st := s_vos) l5 c5 k5
  have F6 := fun_mk (st := s_steps) l6 c6 k6
  have F7 := fun_mk (st := s_df) l7 c7 k7
  have F8 := fun_mk (st := s_l_mixed) l8 c8 k8
  have F9 := fun_mk (st := s_l_draws) l9 c9 k9
  have F10 := fun_mk (st := s_l_cell) l10 c10 k10
  have F11 := fun_mk (st := s_l_great) l11 c11 k11
  have F12 := fun_mk (st := s_l_any_k) l12 c12 k12
  have F13 := fun_mk (st := s_l_shares) l13 c13 k13
  have F14 := fun_mk (st := s_l_tuple) l14 c14 k14
  have F15 := fun_mk (st := s_l_chosen) l15 c15 k15
  have F16 := fun_mk (st := s_l_by_steps) l16 c16 k16
  have F17 := fun_mk (st := s_l_by_descents) l17 c17 k17
  have F18 := fun_mk (st := s_l_same) l18 c18 k18
  have F19 := fun_mk (st := s_law) l19 c19 k19
  have b1 := F1.binds (ps := ["x", "m"]) fun _ _ _ _ _ _ us hl => match us, hl with | [_, _], _ => rfl
  have g1 := PySem.W.mg_of X G a1
  have b2 := F2.binds (ps := ["shares", "n", "k"]) fun _ _ _ _ _ _ us hl => match us, hl with | [_, _, _], _ => rfl
  have g2 := PySem.W.mg_of X G a2
  have b3 := F3.binds (ps := ["values"]) fun _ _ _ _ _ _ us hl => match us, hl with | [_], _ => rfl
  have g3 := PySem.W.mg_of X G a3
  have b4 := F4.binds (ps := ["shares", "k"]) fun _ _ _ _ _ _ us hl => match us, hl with | [_, _], _ => rfl
  have g4 := PySem.W.mg_of X G a4
  have b5 := F5.binds (ps := ["shares", "k"]) fun _ _ _ _ _ _ us hl => match us, hl with | [_, _], _ => rfl
  have g5 := PySem.W.mg_of X G a5
  have b6 := F6.binds (ps := ["shares"]) fun _ _ _ _ _ _ us hl => match us, hl with | [_], _ => rfl
  have g6 := PySem.W.mg_of X G a6
  have b7 := F7.binds (ps := ["shares"]) fun _ _ _ _ _ _ us hl => match us, hl with | [_], _ => rfl
  have g7 := PySem.W.mg_of X G a7
  have b8 := F8.binds (ps := ["_law_cell_here", "_law_k", "_law_salt"]) fun _ _ _ _ _ _ us hl => match us, hl with | [_, _, _], _ => rfl
  have g8 := PySem.W.mg_of X G a8
  have b9 := F9.binds (ps := ["_law_cell_here", "_law_many", "_law_salt"]) fun _ _ _ _ _ _ us hl => match us, hl with | [_, _, _], _ => rfl
  have g9 := PySem.W.mg_of X G a9
  have b10 := F10.binds (ps := ["_law_script", "_law_k"]) fun _ _ _ _ _ _ us hl => match us, hl with | [_, _], _ => rfl
  have g10 := PySem.W.mg_of X G a10
  have b11 := F11.binds (ps := ["_law_cell_here", "_law_most", "_law_salt"]) fun _ _ _ _ _ _ us hl => match us, hl with | [_, _, _], _ => rfl
  have g11 := PySem.W.mg_of X G a11
  have b12 := F12.binds (ps := ["_law_script", "_law_at", "_law_salt"]) fun _ _ _ _ _ _ us hl => match us, hl with | [_, _, _], _ => rfl
  have g12 := PySem.W.mg_of X G a12
  have b13 := F13.binds (ps := ["_law_script", "_law_at", "_law_many", "_law_salt"]) fun _ _ _ _ _ _ us hl => match us, hl with | [_, _, _, _], _ => rfl
  have g13 := PySem.W.mg_of X G a13
  have b14 := F14.binds (ps := ["_law_found", "_law_many"]) fun _ _ _ _ _ _ us hl => match us, hl with | [_, _], _ => rfl
  have g14 := PySem.W.mg_of X G a14
  have b15 := F15.binds (ps := ["_law_x", "_law_m"]) fun _ _ _ _ _ _ us hl => match us, hl with | [_, _], _ => rfl
  have g15 := PySem.W.mg_of X G a15
  have b16 := F16.binds (ps := ["_law_shares_here", "_law_k"]) fun _ _ _ _ _ _ us hl => match us, hl with | [_, _], _ => rfl
  have g16 := PySem.W.mg_of X G a16
  have b17 := F17.binds (ps := ["_law_shares_here", "_law_k"]) fun _ _ _ _ _ _ us hl => match us, hl with | [_, _], _ => rfl
  have g17 := PySem.W.mg_of X G a17
  have b18 := F18.binds (ps := ["_law_found", "_law_due"]) fun _ _ _ _ _ _ us hl => match us, hl with | [_, _], _ => rfl
  have g18 := PySem.W.mg_of X G a18
  have m_len := PySem.W.mg_none_of X G z1
  have m_range := PySem.W.mg_none_of X G z2
  have m_isinstance := PySem.W.mg_none_of X G z3
  have m_int := PySem.W.mg_none_of X G z4
  have m_bool := PySem.W.mg_none_of X G z5
  have m_str := PySem.W.mg_none_of X G z6
  have m_tuple := PySem.W.mg_none_of X G z7
  have m_list := PySem.W.mg_none_of X G z8
  have m_sum := PySem.W.mg_none_of X G z9
  have m_enumerate := PySem.W.mg_none_of X G z10
  have m_zip := PySem.W.mg_none_of X G z11
  have m_all := PySem.W.mg_none_of X G z12
  refine ⟨PySem.W.fnOf "law" "law" (defArgs s_law) (defBody s_law) (defScope s_law) .none kV19 dc19 pm19 an19 cd19 ct19, fun s v => .of_eq rfl, fun base _ _ => ?_⟩
  have o1 : FnOk l.prog w K mg base CX0 5 f1 _ _ (sp3 K R_chosen) := ok_chosen (kk := 4) F1 m_range
  have o2 : FnOk l.prog w K mg base CX0 6 f2 _ _ (sp3 K R_sumd) := ok_sumd (kk := 5) F2 o1 g1 k1 b1 m_sum m_enumerate
  have o3 : FnOk l.prog w K mg base CX0 7 f3 _ _ (sp3 K R_fd) := ok_fd (kk := 6) F3 m_zip m_tuple
  have o4a : FnOk l.prog w K mg base CX0 7 f4 _ _ (sp3 K R_vod) := ok_vod (kk := 6) F4 o2 g2 k2 b2 m_len
  have o4 := o4a.mono (show 7 ≤ 8 by decide)
  have o5 : FnOk l.prog w K mg base CX0 6 f5 _ _ (sp3 K R_vos) := ok_vos (kk := 5) F5 o1 g1 k1 b1 m_sum m_enumerate
  have o6 : FnOk l.prog w K mg base CX0 8 f6 _ _ (sp3 K R_steps) := ok_steps (kk := 7) F6 o3 g3 k3 b3 o4a g4 k4 b4 m_len m_range
  have o7 : FnOk l.prog w K mg base CX0 7 f7 _ _ (sp3 K R_df) := ok_df (kk := 6) F7 o5 g5 k5 b5 o2 g2 k2 b2 m_len m_range m_tuple
  have o8 : FnOk l.prog w K mg base CX0 5 f8 _ _ (sp3 K R_mixed) := ok_mixed (kk := 4) F8
  have o9 : FnOk l.prog w K mg base CX0 6 f9 _ _ (sp3 K R_draws) := ok_draws (kk := 5) F9 o8 g8 k8 b8 m_range
  have o10 : FnOk l.prog w K mg base CX0 6 f10 _ _ (sp3 K R_cell) := ok_cell (kk := 5) F10 m_len
  have o11 : FnOk l.prog w K mg base CX0 6 f11 _ _ (sp3 K R_great) := ok_great (kk := 5) F11 o8 g8 k8 b8 m_range
  have o12 : FnOk l.prog w K mg base CX0 7 f12 _ _ (sp3 K R_any) := ok_any (kk := 6) F12 o9 g9 k9 b9 o10 g10 k10 b10 o11 g11 k11 b11
  have o13 : FnOk l.prog w K mg base CX0 7 f13 _ _ (sp3 K R_shares) := ok_shares (kk := 6) F13 o9 g9 k9 b9 o10 g10 k10 b10 o11 g11 k11 b11 m_range m_tuple
  have o14 : FnOk l.prog w K mg base CX0 7 f14 _ _ (sp3 K R_ltuple) := ok_ltuple (kk := 6) F14 m_len m_isinstance m_int m_bool m_tuple m_all
  have o15 : FnOk l.prog w K mg base CX0 5 f15 _ _ (sp3 K R_lchosen) := ok_lchosen (kk := 4) F15 m_range
  have o16 : FnOk l.prog w K mg base CX0 6 f16 _ _ (sp3 K R_vos) := ok_lsteps (kk := 5) F16 o15 g15 k15 b15 m_sum m_range m_len
  have o17 : FnOk l.prog w K mg base CX0 6 f17 _ _ (sp3 K R_vod) := ok_ldesc (kk := 5) F17 o15 g15 k15 b15 m_sum m_range m_len
  have s1 : FnOk l.prog w K mg base CX0 6 f18 _ _ (sp3 K (R_same fun _ _ => False)) := ok_same (kk := 5) F18 ok_none g18 k18 b18 m_len m_isinstance m_int m_bool m_str m_tuple m_all m_range
  have o18 : FnOk l.prog w K mg base CX0 7 f18 _ _ (sp3 K R_sameT) := ok_same (kk := 6) F18 s1 g18 k18 b18 m_len m_isinstance m_int m_bool m_str m_tuple m_all m_range
  exact ok_law (kk := 8) F19 (o9.mono (by decide)) g9 k9 b9 (o10.mono (by decide)) g10 k10 b10 (o12.mono (by decide)) g12 k12 b12 (o13.mono (by decide)) g13 k13 b13 (o6.mono (by decide)) g6 k6 b6 (o14.mono (by decide)) g14 k14 b14 (o16.mono (by decide)) g16 k16 b16 (o17.mono (by decide)) g17 k17 b17 (o4.mono (by decide)) g4 k4 b4 (o5.mono (by decide)) g5 k5 b5 (o7.mono (by decide)) g7 k7 b7 (o18.mono (by decide)) g18 k18 b18 m_list m_range
theorem scr_of {K : PySem.W.Frag} {H : Hp} {a : Addr} {ns : List Int} (o : Only H) (h : SqL K H a (ns.map V.int)) : Scr K H a ns := by
  rcases h with h | h
  · rcases h with h | ⟨b, h⟩
    · rcases o a with z | ⟨_, _, z⟩ <;> rw [z] at h <;> cases h
    · exact .inl ⟨b, h⟩
  · exact .inr (.inr h)
theorem walk {l : PySem.W.OpenLaw} {q : Program} {loose : List Str} {XP : (Str → Option Value) → Heap → Prop} {YP : World → Heap → Prop} {d : DefRec} {K : Params → PySem.W.Frag} (hn : l.most = some 63) (hdf : d.params.defaults = [])
    (hY : ∀ (w : World) (h : Heap), YP w h → (K w.params).In h)
    (F : ∀ (w : World) (mg : Str → Option Value) (fa : Addr) (h : Heap), (K w.params).In h → h.Ns mainGlobals mg → mg d.name = some (.ref fa) →
      ∃ fd : FuncData, (∀ (s : Shared) (u : Value), BindsTo s fd ⟨[u], []⟩ [("_law_script", u)]) ∧ ∀ base : Heap, (K w.params).In base → base.Ns mainGlobals mg → FnOk l.prog w (K w.params) mg base CX0 9 fa fd ["_law_script"] (sp3 (K w.params) R_law)) :
    PySem.W.WalkO q loose XP YP l.row.toRowW d [] (fun f vs => PySem.call f vs) :=
  L2.walk_of (n := 63) (k := 9) (x := "_law_script") (CX := fun _ => CX0) (sp := fun w => sp3 (K w.params) R_law) hn (by decide) hdf ⟨rfl, by decide, by decide⟩ hY F
    (fun _ H a ns hl o hS => ⟨fun a => H a = none, [.scr ns], fun d => d = .bl true, fun _ h => h, ⟨_, _, rfl, ⟨a, rfl, scr_of o hS⟩, rfl⟩, ⟨ns, rfl, rfl⟩, fun v H' d _ hd e => by subst e; exact hd⟩) fun _ _ _ _ _ z => z
end K24
open PySem PySem.W PyProof.Rows
set_option maxRecDepth 100000 in
set_option maxHeartbeats 0 in
theorem PySem.Challenge.cw_risecount_k24_bases_there_and_back_holds : PySem.Challenge.rw_risecount_k24_bases_there_and_back.Holds := by
  w_on; o_law; k_head; (case hw => w_witness2)
  k_fill
  refine K24.walk (l := PySem.Challenge.rw_risecount_k24_bases_there_and_back) rfl rfl (fun w h Y => PySem.W.kIn_of Y) ?F
  case F =>
    intro w mg fa h KX G hmg
    refine' K24.all_mk KX G hmg ?a1 ?l1 ?c1 ?k1 ?a2 ?l2 ?c2 ?k2 ?a3 ?l3 ?c3 ?k3 ?a4 ?l4 ?c4 ?k4 ?a5 ?l5 ?c5 ?k5 ?a6 ?l6 ?c6 ?k6 ?a7 ?l7 ?c7 ?k7 ?a8 ?l8 ?c8 ?k8 ?a9 ?l9 ?c9 ?k9 ?a10 ?l10 ?c10 ?k10 ?a11 ?l11 ?c11 ?k11 ?a12 ?l12 ?c12 ?k12 ?a13 ?l13 ?c13 ?k13 ?a14 ?l14 ?c14 ?k14 ?a15 ?l15 ?c15 ?k15 ?a16 ?l16 ?c16 ?k16 ?a17 ?l17 ?c17 ?k17 ?a18 ?l18 ?c18 ?k18 ?a19 ?l19 ?c19 ?k19 ?z1 ?z2 ?z3 ?z4 ?z5 ?z6 ?z7 ?z8 ?z9 ?z10 ?z11 ?z12
    (case a1 => k_is); (case l1 => k_is); (case c1 => k_is); (case k1 => k_is)
    (case a2 => k_is); (case l2 => k_is); (case c2 => k_is); (case k2 => k_is)
    (case a3 => k_is); (case l3 => k_is); (case c3 => k_is); (case k3 => k_is)
    (case a4 => k_is); (case l4 => k_is); (case c4 => k_is); (case k4 => k_is)
    (case a5 => k_is); (case l5 => k_is); (case c5 => k_is); (case k5 => k_is)
    (case a6 => k_is); (case l6 => k_is); (case c6 => k_is); (case k6 => k_is)
    (case a7 => k_is); (case l7 => k_is); (case c7 => k_is); (case k7 => k_is)
    (case a8 => k_is); (case l8 => k_is); (case c8 => k_is); (case k8 => k_is)
    (case a9 => k_is); (case l9 => k_is); (case c9 => k_is); (case k9 => k_is)
    (case a10 => k_is); (case l10 => k_is); (case c10 => k_is); (case k10 => k_is)
    (case a11 => k_is); (case l11 => k_is); (case c11 => k_is); (case k11 => k_is)
    (case a12 => k_is); (case l12 => k_is); (case c12 => k_is); (case k12 => k_is)
    (case a13 => k_is); (case l13 => k_is); (case c13 => k_is); (case k13 => k_is)
    (case a14 => k_is); (case l14 => k_is); (case c14 => k_is); (case k14 => k_is)
    (case a15 => k_is); (case l15 => k_is); (case c15 => k_is); (case k15 => k_is)
    (case a16 => k_is); (case l16 => k_is); (case c16 => k_is); (case k16 => k_is)
    (case a17 => k_is); (case l17 => k_is); (case c17 => k_is); (case k17 => k_is)
    (case a18 => k_is); (case l18 => k_is); (case c18 => k_is); (case k18 => k_is)
    (case a19 => k_is); (case l19 => k_is); (case c19 => k_is); (case k19 => k_is)
    (case z1 => k_is)
    (case z2 => k_is)
    (case z3 => k_is)
    (case z4 => k_is)
    (case z5 => k_is)
    (case z6 => k_is)
    (case z7 => k_is)
    (case z8 => k_is)
    (case z9 => k_is)
    (case z10 => k_is)
    (case z11 => k_is)
    (case z12 => k_is)
#print axioms PySem.Challenge.cw_risecount_k24_bases_there_and_back_holds

end
