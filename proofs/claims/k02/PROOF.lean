import PyProof.Rows.All
import Wide.All
import OpenK.AllK
import Wide.FinOn
import Lean
import PyProof.EqAt
import PyProof.EqKinds
import PyProof.TupleCall
import PyProof.Draws
import PyProof.EnumMake
import PyProof.EnumFor
import PyProof.ListMulRoad
import PyProof.NeData
import PySem.Challenge.RW_sharetrail_k02_loads_and_deeds
section
set_option Elab.async false
set_option linter.all false
set_option maxRecDepth 100000
/-! THE HAND LAYER, for ints, bools, texts, own classes, LISTS and tuples (index, slices, in, append, pop ..), calls, loops. Paste it whole ahead of your own text; what your proof does not reach may be deleted. -/
namespace L2
open PySem PySem.Spec PyProof.Rows

/-- a key: an int or a str -/
abbrev Key := Sum Int Str
def keyIs : Key → Value → Bool
  | .inl k, v => Value.isInt k v
  | .inr x, v => Value.isStrOf x v
def keyH (w : World) : Key → Int
  | .inl k => hashInt k
  | .inr x => hashStr w x
theorem keyIs_shape : ∀ {k : Key} {v : Value}, keyIs k v = true → (∃ i t, k = Sum.inl i ∧ v = Value.int i t) ∨ (∃ x t, k = Sum.inr x ∧ v = Value.str x t)
  | .inl i, v, h => by
    obtain ⟨t, e⟩ := Value.isInt_shape (k := i) (v := v) h
    exact .inl ⟨i, t, rfl, e⟩
  | .inr x, v, h => by
    obtain ⟨t, e⟩ := Value.isStrOf_shape (x := x) (v := v) h
    exact .inr ⟨x, t, rfl, e⟩
theorem keyIs_int (i : Int) (t : Tok) : keyIs (.inl i) (.int i t) = true := by simp [keyIs, Value.isInt]
theorem keyIs_str (x : Str) (t : Tok) : keyIs (.inr x) (.str x t) = true := by simp [keyIs, Value.isStrOf]
theorem key_ll (a b : Int) : decide ((Sum.inl a : Key) = Sum.inl b) = (a == b) := by
  by_cases e : a = b
  · subst e; simp
  · have h : ¬ (Sum.inl a : Key) = Sum.inl b := fun q => e (Sum.inl.inj q)
    rw [decide_eq_false h]
    exact (beq_eq_false_iff_ne.mpr e).symm
theorem key_rr (a b : Str) : decide ((Sum.inr a : Key) = Sum.inr b) = decide (a = b) := by
  by_cases e : a = b
  · subst e; simp
  · have h : ¬ (Sum.inr a : Key) = Sum.inr b := fun q => e (Sum.inr.inj q)
    rw [decide_eq_false h, decide_eq_false e]
theorem key_lr (a : Int) (b : Str) : decide ((Sum.inl a : Key) = Sum.inr b) = false := decide_eq_false (fun q => nomatch q)
theorem key_rl (a : Str) (b : Int) : decide ((Sum.inr a : Key) = Sum.inl b) = false := decide_eq_false (fun q => nomatch q)

def mixKind (prog : Program) (w : World) : PySem.KeyKind prog w Key where
  is := keyIs
  hash := keyH w
  inj := fun v a b ha hb => by
    rcases keyIs_shape ha with ⟨i, t, rfl, rfl⟩ | ⟨x, t, rfl, rfl⟩
    · rcases keyIs_shape hb with ⟨j, u, rfl, e⟩ | ⟨y, u, rfl, e⟩
      · injection e with e1 _; rw [e1]
      · exact nomatch e
    · rcases keyIs_shape hb with ⟨j, u, rfl, e⟩ | ⟨y, u, rfl, e⟩
      · exact nomatch e
      · injection e with e1 _; rw [e1]
  byValue := fun k v h => by
    rcases keyIs_shape h with ⟨i, t, rfl, rfl⟩ | ⟨x, t, rfl, rfl⟩ <;> rfl
  pyHash := fun hv h => by
    rcases keyIs_shape hv with ⟨i, t, rfl, rfl⟩ | ⟨x, t, rfl, rfl⟩
    · exact wpAny_pyHash_int h
    · exact wpAny_pyHash_str h
  eqBool := fun hu hv h => by
    rcases keyIs_shape hu with ⟨i, t, rfl, rfl⟩ | ⟨x, t, rfl, rfl⟩
    · rcases keyIs_shape hv with ⟨j, u, rfl, rfl⟩ | ⟨y, u, rfl, rfl⟩
      · rw [key_ll] at h; exact wpAny_eqBool_int h
      · rw [key_lr] at h; exact SeqAt.EqAt.int_str i t y u _ _ _ _ h
    · rcases keyIs_shape hv with ⟨j, u, rfl, rfl⟩ | ⟨y, u, rfl, rfl⟩
      · rw [key_rl] at h; exact SeqAt.EqAt.str_int x t j u _ _ _ _ h
      · rw [key_rr] at h; exact wpAny_eqBool_str h
  «strs» := fun k x t v h => by
    rcases keyIs_shape h with ⟨i, u, rfl, e⟩ | ⟨y, u, rfl, e⟩
    · exact nomatch e
    · injection e with e1 _
      subst e1
      cases v <;> rfl

theorem mixKind_int (prog : Program) (w : World) (i : Int) (t : Tok) : (mixKind prog w).is (.inl i) (.int i t) = true := keyIs_int i t
theorem mixKind_str (prog : Program) (w : World) (x : Str) (t : Tok) : (mixKind prog w).is (.inr x) (.str x t) = true := keyIs_str x t
end L2

namespace L2
open PySem PySem.Spec PyProof.Rows

/-- a value, without the heap -/
inductive V where
  | non | bl (b : Bool) | int (i : Int) | str (x : Str) | byt (b : Array UInt8) | flt (b : UInt64) | ref (a : Addr) | ty (n : String)
  deriving DecidableEq

def RelV : V → Value → Prop
  | .non, u => u = Value.none
  | .bl b, u => u = Value.bool b
  | .int i, u => ∃ t, u = Value.int i t
  | .str x, u => ∃ t, u = Value.str x t
  | .byt b, u => ∃ t, u = Value.bytes b t
  | .flt b, u => ∃ t, u = Value.float b t
  | .ref a, u => u = Value.ref a
  | .ty n, u => u = Value.type n

abbrev Vals : List V → List Value → Prop := Paired RelV
theorem Vals.length {xs : List V} {us : List Value} (r : Vals xs us) : xs.length = us.length := Paired.length r
theorem Vals.get : ∀ {xs : List V} {us : List Value} {i : Nat} {x : V}, Vals xs us → xs[i]? = some x → ∃ u, us[i]? = some u ∧ RelV x u
  | _, _, _, _, .nil, e => by simp at e
  | _, _, 0, _, .cons r _, e => by simp at e; subst e; exact ⟨_, rfl, r⟩
  | _, _, i + 1, x, .cons _ t, e => by
    obtain ⟨u, h1, h2⟩ := Vals.get (i := i) (x := x) t (by simpa using e)
    exact ⟨u, by simpa using h1, h2⟩
theorem Vals.set {x : V} {u : Value} (r : RelV x u) : ∀ {xs : List V} {us : List Value} (i : Nat), Vals xs us → Vals (xs.set i x) (us.set i u)
  | _, _, _, .nil => .nil
  | _, _, 0, .cons _ t => .cons r t
  | _, _, i + 1, .cons q t => .cons q (Vals.set r i t)
theorem Vals.append : ∀ {xs ys : List V} {us ws : List Value}, Vals xs us → Vals ys ws → Vals (xs ++ ys) (us ++ ws)
  | _, _, _, _, .nil, s => s
  | _, _, _, _, .cons r t, s => .cons r (Vals.append t s)
theorem Vals.take : ∀ {xs : List V} {us : List Value} (n : Nat), Vals xs us → Vals (xs.take n) (us.take n)
  | _, _, 0, _ => .nil
  | _, _, _ + 1, .nil => .nil
  | _, _, n + 1, .cons r t => .cons r (Vals.take n t)
theorem Vals.drop : ∀ {xs : List V} {us : List Value} (n : Nat), Vals xs us → Vals (xs.drop n) (us.drop n)
  | _, _, 0, r => r
  | _, _, _ + 1, .nil => .nil
  | _, _, n + 1, .cons _ t => Vals.drop n t
theorem Vals.none_of : ∀ {xs : List V} {us : List Value} {i : Nat}, Vals xs us → xs[i]? = none → us[i]? = none := fun {xs us i} r e => by
  have h1 := r.length
  have h2 : xs.length ≤ i := List.getElem?_eq_none_iff.mp e
  exact List.getElem?_eq_none_iff.mpr (by omega)

def RelO : Option V → Option Value → Prop
  | some v, some u => RelV v u
  | none, none => True
  | _, _ => False
def KV {κ : Type} : List (κ × V) → List (κ × Value) → Prop := Paired fun (p : κ × V) (q : κ × Value) => p.1 = q.1 ∧ RelV p.2 q.2

/-- a key of a dict (00_mix): an int or a text -/
def kV : Key → V
  | .inl i => .int i
  | .inr x => .str x

/-- what stands at a tracked address -/
inductive HO where
  /-- a list -/
  | lst (xs : List V)
  /-- a tuple (never changes) -/
  | tup (xs : List V)
  /-- a dict whose keys are ints and texts; one whose keys are tuples of ints and texts (the empty one is both) -/
  | dK (kvs : List (Key × V)) | dT (kvs : List (List Key × V))
  /-- a set of ints: its members, its size -/
  | set (S : Int → Bool) (n : Nat)
  /-- an instance of the class at C, its dict at dx, its attributes -/
  | ins (C dx : Addr) (fs : List (Str × V))
  /-- the dict of the instance at x -/
  | own (x : Addr)
  /-- the dict of an exception -/
  | xd (fs : List (Str × V))
  /-- a bound method, f of x -/
  | met (f x : Addr)
  /-- a range object lo, lo + 1, .. below hi -/
  | rng (lo hi : Int)
  /-- a thing that is known to the object (the script; a dict while a loop walks it): read, never written while it is so -/
  | frz (o : Obj) (u : HO)
  /-- a code object's table -/
  | tbl (ps : Array Value)
  /-- any other thing, by what is true of its one object (a def of one's own: SetO a S n := HO.ext fun h => ..) -/
  | ext (φ : Heap → Prop)

abbrev Hp := Addr → Option HO
def upd (H : Hp) (a : Addr) (o : HO) : Hp := fun b => if b = a then some o else H b
theorem upd_same {H : Hp} {a : Addr} {o : HO} : upd H a o a = some o := by unfold upd; rw [if_pos rfl]
theorem upd_ne {H : Hp} {a b : Addr} {o : HO} (h : b ≠ a) : upd H a o b = H b := by unfold upd; rw [if_neg h]
theorem upd_upd {H : Hp} {a : Addr} {o u : HO} : upd (upd H a o) a u = upd H a u := by
  funext b; unfold upd; split <;> rfl
theorem ne_of_none {H : Hp} {a b : Addr} {o : HO} (h : H a = some o) (h' : H b = none) : a ≠ b := by
  intro e; subst e; rw [h] at h'; cases h'

section
variable (P : Program) (w : World)
def ObjOk (H : Hp) (h : Heap) (a : Addr) : HO → Prop
  | .lst xs => xs.length ≤ sizeLine ∧ ∃ (its : List Value) (n : Nat), Vals xs its ∧ h.get? a = some { cls := .type "list", data := .seq its.toArray n }
  | .tup xs => xs.length ≤ sizeLine ∧ ∃ its : List Value, Vals xs its ∧ IsTup h a its.toArray
  | .dK kvs => kvs.length ≤ sizeLine ∧ (a == sysModules) = false ∧ ∃ vs, KV kvs vs ∧ h.DictOf (mixKind P w) a vs
  | .dT kvs => kvs.length ≤ sizeLine ∧ (a == sysModules) = false ∧ ∃ xs : List (List Key × Addr × Value),
      Paired (fun (p : List Key × V) (q : List Key × Addr × Value) => p.1 = q.1 ∧ H q.2.1 = some (.tup (p.1.map kV)) ∧ RelV p.2 q.2.2) kvs xs ∧
      ∃ o es ep, h.get? a = some o ∧ o.ExactDict ∧ o.data = .dict es ep ∧ es.toList = xs.map (entryOfKey (tupleKind (mixKind P w))) ∧ (xs.map (·.1)).Nodup
  | .set S n => h.SetOf (intKind P w) a S n
  | .ins C dx fs => H dx = some (.own a) ∧ fs.length ≤ 1000 ∧ dx ≠ a ∧ h.get? a = some (PySem.W.instObj C dx) ∧
      ∃ mA, h.Ns1 dx mA ∧ (∀ f, RelO (fs.lookup f) (mA f)) ∧ PySem.Within mA (fs.map (·.1))
  | .own _ => ∃ o, h.get? a = some o
  | .xd fs => ∃ mA, h.Ns1 a mA ∧ ∀ f, RelO (fs.lookup f) (mA f)
  | .rng lo hi => ∃ t u v, h.get? a = some { cls := .type "range", data := .fields #[.int lo t, .int hi u, .int 1 v] }
  | .frz o u => h.get? a = some o ∧ ObjOk H h a u
  | .tbl ps => h.get? a = some { cls := .none, data := .fields ps }
  | .met f x => h.get? a = some (PySem.W.methodObj (.ref f) (.ref x))
  | .ext φ => φ h ∧ (∃ o, h.get? a = some o) ∧ ∀ h1 h2 : Heap, φ h1 → (∀ o, h1.get? a = some o → h2.get? a = some o) → φ h2
/-- the abstract heap is held -/
def HOk (H : Hp) (h : Heap) : Prop := ∀ a o, H a = some o → ObjOk P w H h a o
end

section
variable {P : Program} {w : World} {H H' : Hp} {h h' : Heap} {a : Addr} {o : HO}
theorem ObjOk.lt (x : ObjOk P w H h a o) : a < h.objs.size := by
  cases o with
  | lst xs => obtain ⟨_, _, _, _, e⟩ := x; exact Heap.lt_size e
  | tup xs => obtain ⟨_, _, _, p⟩ := x; exact p.lt
  | dK kvs => obtain ⟨_, _, _, _, o, _, _, e, _⟩ := x; exact Heap.lt_size e
  | dT kvs => obtain ⟨_, _, _, _, o, _, _, e, _⟩ := x; exact Heap.lt_size e
  | set S n => obtain ⟨o, _, _, _, e, _⟩ := x; exact Heap.lt_size e
  | ins C dx fs => obtain ⟨_, _, _, e, _⟩ := x; exact Heap.lt_size e
  | own y => obtain ⟨_, e⟩ := x; exact Heap.lt_size e
  | xd fs => obtain ⟨_, ⟨_, _, _, e, _⟩, _⟩ := x; exact Heap.lt_size e
  | rng lo hi => obtain ⟨_, _, _, e⟩ := x; exact Heap.lt_size e
  | frz ob u => obtain ⟨e, _⟩ := x; exact Heap.lt_size e
  | tbl ps => exact Heap.lt_size (show h.get? a = some _ from x)
  | met f y => exact Heap.lt_size (show h.get? a = some _ from x)
  | ext φ => obtain ⟨_, ⟨_, e⟩, _⟩ := x; exact Heap.lt_size e
theorem Paired.mapP {α β : Type} {F G : α → β → Prop} : ∀ {l₁ : List α} {l₂ : List β}, Paired F l₁ l₂ → (∀ a b, F a b → G a b) → Paired G l₁ l₂
  | _, _, .nil, _ => .nil
  | _, _, .cons r t, f => .cons (f _ _ r) (Paired.mapP t f)
/-- what an object's description leans on: its own object, its own dict, the tuples -/
theorem ObjOk.stay (x : ObjOk P w H h a o) (k : ∀ b u, (b = a ∨ H b = some (.own a)) → h.get? b = some u → h'.get? b = some u)
    (ho : ∀ b, H b = some (.own a) → H' b = some (.own a)) (ht : ∀ b xs, H b = some (.tup xs) → H' b = some (.tup xs)) : ObjOk P w H' h' a o := by
  induction o with
  | lst xs => obtain ⟨z, its, n, r, e⟩ := x; exact ⟨z, its, n, r, k _ _ (.inl rfl) e⟩
  | tup xs => obtain ⟨z, its, r, ob, e, c⟩ := x; exact ⟨z, its, r, ob, k _ _ (.inl rfl) e, c⟩
  | dK kvs => obtain ⟨z, y, vs, r, ob, es, ep, e, c⟩ := x; exact ⟨z, y, vs, r, ob, es, ep, k _ _ (.inl rfl) e, c⟩
  | dT kvs =>
    obtain ⟨z, y, xs, r, ob, es, ep, e, c⟩ := x
    exact ⟨z, y, xs, Paired.mapP r fun p q z => ⟨z.1, ht _ _ z.2.1, z.2.2⟩, ob, es, ep, k _ _ (.inl rfl) e, c⟩
  | set S n => obtain ⟨ob, es, ep, t, e, c⟩ := x; exact ⟨ob, es, ep, t, k _ _ (.inl rfl) e, c⟩
  | ins C dx fs =>
    obtain ⟨d, z, ne, e, mA, ⟨od, es, ep, e2, c⟩, r⟩ := x
    exact ⟨ho _ d, z, ne, k _ _ (.inl rfl) e, mA, ⟨od, es, ep, k _ _ (.inr d) e2, c⟩, r⟩
  | own y => obtain ⟨ob, e⟩ := x; exact ⟨ob, k _ _ (.inl rfl) e⟩
  | xd fs => obtain ⟨mA, ⟨od, es, ep, e, c⟩, r⟩ := x; exact ⟨mA, ⟨od, es, ep, k _ _ (.inl rfl) e, c⟩, r⟩
  | rng lo hi => obtain ⟨t, u, v, e⟩ := x; exact ⟨t, u, v, k _ _ (.inl rfl) e⟩
  | frz ob u ih => obtain ⟨e, q⟩ := x; exact ⟨k _ _ (.inl rfl) e, ih q⟩
  | tbl ps =>
    have e : h.get? a = some { cls := .none, data := .fields ps } := x
    show h'.get? a = some { cls := .none, data := .fields ps }
    exact k a _ (.inl rfl) e
  | met f y =>
    have e : h.get? a = some (PySem.W.methodObj (.ref f) (.ref y)) := x
    show h'.get? a = some (PySem.W.methodObj (.ref f) (.ref y))
    exact k a _ (.inl rfl) e
  | ext φ => obtain ⟨p, ⟨o, e⟩, st⟩ := x; exact ⟨st _ _ p fun o q => k _ _ (.inl rfl) q, ⟨o, k _ _ (.inl rfl) e⟩, st⟩
theorem HOk.lt (x : HOk P w H h) (e : H a = some o) : a < h.objs.size := (x a o e).lt
theorem HOk.fresh (x : HOk P w H h) (e : h.objs.size ≤ a) : H a = none := by
  cases q : H a with
  | none => rfl
  | some u => exact absurd (Nat.lt_of_lt_of_le (x.lt q) e) (Nat.lt_irrefl _)
/-- every object of the heap is kept -/
theorem HOk.kept (x : HOk P w H h) (k : ∀ b u, h.get? b = some u → h'.get? b = some u) : HOk P w H h' := fun a o e =>
  (x a o e).stay (fun b u _ q => k b u q) (fun _ q => q) fun _ _ q => q
/-- a new object is laid and tracked -/
theorem HOk.laid (x : HOk P w H h) (k : ∀ b u, h.get? b = some u → h'.get? b = some u) (hp : h.objs.size ≤ a) (new : ObjOk P w (upd H a o) h' a o) : HOk P w (upd H a o) h' := fun b u e => by
  have hn := x.fresh hp
  by_cases hb : b = a
  · subst hb; rw [upd_same] at e; cases e; exact new
  · rw [upd_ne hb] at e
    exact (x b u e).stay (fun c v _ q => k c v q) (fun c q => by rw [upd_ne (ne_of_none q hn)]; exact q) fun c xs q => by rw [upd_ne (ne_of_none q hn)]; exact q
end

/-- what may be read as u: it is u, or a known u -/
def Rd (H : Hp) (a : Addr) (u : HO) : Prop := H a = some u ∨ ∃ o, H a = some (.frz o u)
theorem Rd.of {H : Hp} {a : Addr} {u : HO} (h : H a = some u) : Rd H a u := .inl h
theorem Rd.ok {P : Program} {w : World} {H : Hp} {h : Heap} {a : Addr} {u : HO} (r : Rd H a u) (x : HOk P w H h) : ObjOk P w H h a u := by
  rcases r with r | ⟨o, r⟩
  · exact x a u r
  · obtain ⟨_, q⟩ := x a _ r
    exact q
/-- what may be written -/
def Mut : Option HO → Prop
  | some (.lst _) => True
  | some (.dK _) => True
  | some (.dT _) => True
  | some (.set _ _) => True
  | some (.ins _ _ _) => True
  | some (.ext _) => True
  | _ => False
section
variable {P : Program} {w : World} {H : Hp} {h h' : Heap} {x e : Addr} {o' : HO}
/-- the object at e is changed: x itself, or the dict of the instance x -/
theorem HOk.write (ok : HOk P w H h) (mu : Mut (H x)) (he : e = x ∨ H e = some (.own x)) (k : ∀ b u, b ≠ e → h.get? b = some u → h'.get? b = some u) (heo : ∃ u, h'.get? e = some u)
    (new : ObjOk P w (upd H x o') h' x o') : HOk P w (upd H x o') h' := fun b u q => by
  have nown : ∀ c y, H c = some (.own y) → c ≠ x := fun c y r z => by subst z; rw [r] at mu; exact mu
  have ntup : ∀ c xs, H c = some (.tup xs) → c ≠ x := fun c xs r z => by subst z; rw [r] at mu; exact mu
  by_cases hb : b = x
  · subst hb; rw [upd_same] at q; cases q; exact new
  · rw [upd_ne hb] at q
    by_cases hbe : b = e
    · have q' : H b = some (.own x) := by
        rcases he with z | z
        · exact absurd (hbe.trans z) hb
        · rw [hbe]; exact z
      rw [q] at q'; cases q'
      obtain ⟨v, hv⟩ := heo
      exact ⟨v, by rw [hbe]; exact hv⟩
    · refine (ok b u q).stay (fun c v hc r => k c v ?_ r) (fun c r => by rw [upd_ne (nown c b r)]; exact r) fun c xs r => by rw [upd_ne (ntup c xs r)]; exact r
      rcases hc with rfl | hc
      · exact hbe
      · rintro rfl
        rcases he with z | z
        · exact nown c b hc z
        · rw [hc] at z; cases z; exact hb rfl
end

/-! ### kept unless tracked; of the frames at fs (the callers') the slots may change (an exception that passes writes there); of the records at ex (iterators) nothing is said -/
structure Un (fs ex : List Addr) (H H' : Hp) (h h' : Heap) : Prop where
  keep : ∀ b o, h.get? b = some o → H b = none → b ∉ fs → b ∉ ex → h'.get? b = some o
  slot : ∀ b o, h.get? b = some o → H b = none → b ∈ fs → b ∉ ex → ∃ sl, h'.get? b = some { o with slots := sl }
  free : ∀ b o, h.get? b = some o → H b = none → b ∉ ex → H' b = none
  there : ∀ b o, h.get? b = some o → b ∉ ex → ∃ o', h'.get? b = some o'
  tups : ∀ b xs, H b = some (.tup xs) → H' b = some (.tup xs)
  frzs : ∀ b o u, H b = some (.frz o u) → H' b = some (.frz o u)
  tbls : ∀ b ps, H b = some (.tbl ps) → ∃ more, H' b = some (.tbl (ps ++ more))
section
variable {fs fs' ex ex' : List Addr} {H H1 H2 : Hp} {h h1 h2 h' : Heap} {a x e : Addr} {o : HO}
theorem Un.any (u : Un fs ex H H1 h h1) {b : Addr} {ob : Obj} (q : h.get? b = some ob) (n : H b = none) (hx : b ∉ ex) : ∃ sl, h1.get? b = some { ob with slots := sl } := by
  by_cases hb : b ∈ fs
  · exact u.slot b ob q n hb hx
  · exact ⟨ob.slots, u.keep b ob q n hb hx⟩
theorem Un.trans (a : Un fs ex H H1 h h1) (b : Un fs ex H1 H2 h1 h2) : Un fs ex H H2 h h2 where
  keep := fun c ob q n hc hx => b.keep c ob (a.keep c ob q n hc hx) (a.free c ob q n hx) hc hx
  slot := fun c ob q n hc hx => by
    obtain ⟨sl, e1⟩ := a.slot c ob q n hc hx
    obtain ⟨sl', e2⟩ := b.slot c _ e1 (a.free c ob q n hx) hc hx
    exact ⟨sl', e2⟩
  free := fun c ob q n hx => by
    obtain ⟨o', e1⟩ := a.there c ob q hx
    exact b.free c o' e1 (a.free c ob q n hx) hx
  there := fun c ob q hx => by
    obtain ⟨o', e1⟩ := a.there c ob q hx
    exact b.there c o' e1 hx
  tups := fun c xs q => b.tups c xs (a.tups c xs q)
  frzs := fun c ob xs q => b.frzs c ob xs (a.frzs c ob xs q)
  tbls := fun c ps q => by
    obtain ⟨m1, e1⟩ := a.tbls c ps q
    obtain ⟨m2, e2⟩ := b.tbls c _ e1
    exact ⟨m1 ++ m2, by rw [e2, Array.append_assoc]⟩
theorem Un.kept (k : ∀ b u, h.get? b = some u → h'.get? b = some u) : Un fs ex H H h h' :=
  ⟨fun b ob q _ _ _ => k b ob q, fun b ob q _ _ _ => ⟨ob.slots, k b ob q⟩, fun _ _ _ n _ => n, fun b ob q _ => ⟨ob, k b ob q⟩, fun _ _ q => q, fun _ _ _ q => q, fun _ ps q => ⟨#[], by rw [q]; simp⟩⟩
theorem Un.refl : Un fs ex H H h h := Un.kept fun _ _ q => q
theorem Un.laid (k : ∀ b u, h.get? b = some u → h'.get? b = some u) (hp : h.objs.size ≤ a) (hn : H a = none) : Un fs ex H (upd H a o) h h' where
  keep := fun b u q _ _ _ => k b u q
  slot := fun b u q _ _ _ => ⟨u.slots, k b u q⟩
  free := fun b u q n _ => by rw [upd_ne (Nat.ne_of_lt (Nat.lt_of_lt_of_le (Heap.lt_size q) hp))]; exact n
  there := fun b u q _ => ⟨u, k b u q⟩
  tups := fun b xs q => by rw [upd_ne (ne_of_none q hn)]; exact q
  frzs := fun b u xs q => by rw [upd_ne (ne_of_none q hn)]; exact q
  tbls := fun b ps q => ⟨#[], by rw [upd_ne (ne_of_none q hn), q]; simp⟩
theorem Un.write (mu : Mut (H x)) (he : e = x ∨ H e = some (.own x)) (k : ∀ b u, b ≠ e → h.get? b = some u → h'.get? b = some u) (heo : ∃ u, h'.get? e = some u) : Un fs ex H (upd H x o) h h' := by
  have hx : ∀ b, H b = none → b ≠ x := fun b n z => by subst z; rw [n] at mu; exact mu
  have hb : ∀ b, H b = none → b ≠ e := fun b n z => by
    subst z
    rcases he with r | r
    · exact hx b n r
    · rw [n] at r; cases r
  have hm : ∀ b u, H b = some u → ¬ Mut (some u) → b ≠ x := fun b u q nm z => by subst z; rw [q] at mu; exact nm mu
  refine ⟨fun b u q n _ _ => k b u (hb b n) q, fun b u q n _ _ => ⟨u.slots, k b u (hb b n) q⟩, fun b u q n _ => by rw [upd_ne (hx b n)]; exact n, fun b u q _ => ?_,
    fun b xs q => by rw [upd_ne (hm b _ q fun z => z)]; exact q, fun b u xs q => by rw [upd_ne (hm b _ q fun z => z)]; exact q, fun b ps q => ⟨#[], by rw [upd_ne (hm b _ q fun z => z), q]; simp⟩⟩
  by_cases hbe : b = e
  · subst hbe; exact heo
  · exact ⟨u, k b u hbe q⟩
theorem Un.mono (u : Un fs ex H H1 h h1) (hs : ∀ b ∈ fs, b ∈ fs') (hx : ∀ b ∈ ex, b ∈ ex') : Un fs' ex' H H1 h h1 :=
  ⟨fun b ob q n hb he => u.keep b ob q n (fun z => hb (hs b z)) fun z => he (hx b z), fun _ _ q n _ he => u.any q n fun z => he (hx _ z), fun b ob q n he => u.free b ob q n fun z => he (hx b z), fun b ob q he => u.there b ob q fun z => he (hx b z), u.tups, u.frzs, u.tbls⟩
end

/-! ### the heap without what is tracked -/
def trk (h : Heap) (H : Hp) : List Addr := (List.range h.objs.size).filter fun a => (H a).isSome
def hidT (h : Heap) (H : Hp) : Heap := PySem.W.hideAll h (trk h H)
theorem hidT_size (h : Heap) (H : Hp) : (hidT h H).objs.size = h.objs.size := PySem.W.hideAll_size _ _
theorem hidT_get {h : Heap} {H : Hp} {b : Addr} {o : Obj} (e : h.get? b = some o) (n : H b = none) : (hidT h H).get? b = some o :=
  PySem.W.hideAll_get _ e fun hm => by
    have q : (H b).isSome = true := (List.mem_filter.mp hm).2
    rw [n] at q; simp at q
theorem of_hidT {h : Heap} {H : Hp} {b : Addr} {o : Obj} (e : (hidT h H).get? b = some o) : h.get? b = some o ∧ H b = none := by
  have e' : h.get? b = some o := PySem.W.of_hideAll (trk h H) e
  refine ⟨e', ?_⟩
  cases q : H b with
  | none => rfl
  | some x =>
    have hm : b ∈ trk h H := List.mem_filter.mpr ⟨List.mem_range.mpr (Heap.lt_size e'), by simp [q]⟩
    have z : (hidT h H).get? b = none := PySem.W.hideAll_none (trk h H) hm
    rw [z] at e; cases e

/-! ### OpenK's ledger, filled with every new object but one -/
def allNews (g h : Heap) (L : Addr) : List (Addr × Obj) := (List.range h.objs.size).filterMap fun a => if a = L ∨ (g.get? a).isSome = true then none else (h.get? a).map fun o => (a, o)
def rest (g h : Heap) (L d : Addr) : List (Addr × Obj) := (allNews g h L).filter fun p => decide (p.1 ≠ d)
end L2

namespace L2
open PySem PySem.Spec PyProof.Rows

/-- the module's facts, over the base: the heap at the law's entry without what is tracked there -/
structure Mod (K : PySem.W.Frag) (mg : Str → Option Value) (base : Heap) : Prop where
  kin : K.In base
  glob : base.Ns mainGlobals mg
  blt : ∃ mb, base.Ns builtinsNs mb ∧ ∀ x : Str, x ≠ "__name__" → mb x = bootBuiltins x
  nolimit : base.NoLimit

/-- the context: a def's body (or a comprehension's block) running. base: fixed through the whole law; s₀, H₀: the entry; outer: the frames whose slots others may change (a def's callers); stack: all frames that run;
   ex: iterators that were made ahead of the entry and are walked here (a comprehension's); fn: the names whose cells were made at the entry (a def: all; a comprehension's block: its own); calm: not within an except suite; pn: pins that every state bears; xe: what is wanted of an exception that leaves the code -/
structure Cx where
  prog : Program
  w : World
  K : PySem.W.Frag
  mg : Str → Option Value
  base : Heap
  A : Around
  N : List Str
  s₀ : Shared
  H₀ : Hp
  env : Env
  outer : List Env
  stack : List Env
  ex : List Addr
  fn : Str → Bool
  calm : Bool
  pn : List (Addr × Obj)
  xe : Value → Shared → Prop
/-- the callers' frames -/
def frs (l : List Env) : List Addr := l.filterMap (·.frame)
abbrev Cx.fs (X : Cx) : List Addr := frs X.outer

def Vis (sc : Scope) (x : Str) : Prop := sc.names.lookup x = some .local ∨ sc.names.lookup x = some .cell ∨ sc.names.lookup x = some .free
def Loc (sc : Scope) (x : Str) : Prop := sc.names.lookup x = some .local ∨ sc.names.lookup x = some .cell
def Look (env : Env) (h : Heap) (m : Str → Option Value) (x : Str) (u : Value) : Prop :=
  (env.kindOf x = some .local ∧ m x = some u) ∨ ((env.kindOf x = some .cell ∨ env.kindOf x = some .free) ∧ ∃ c, env.cells.lookup x = some c ∧ h.IsCell c (some u))

structure Cx.Ok (X : Cx) : Prop where
  mod : Mod X.K X.mg X.base
  kind : X.env.scope.kind = .function
  glob : X.env.globals = mainGlobals
  blt : X.env.builtins = builtinsNs
  above : X.s₀.heap.objs.size ≤ X.env.locals
  inj : ∀ x y c, X.env.cells.lookup x = some c → X.env.cells.lookup y = some c → x = y
  has : ∀ x, (X.env.kindOf x = some .cell ∨ X.env.kindOf x = some .free) → ∃ c, X.env.cells.lookup x = some c
  cab : ∀ x c, X.fn x = true → X.env.cells.lookup x = some c → X.s₀.heap.objs.size ≤ c
  hd : X.calm = true → X.A.handled = none
  frames : X.A.frames = some X.stack
  stk : X.stack = X.outer ∨ (X.stack = X.env :: X.outer ∧ X.env.frame = some X.env.locals)
  exf : ∀ b ∈ X.ex, b ≠ X.env.locals ∧ ∀ x c, X.env.cells.lookup x = some c → c ≠ b
  bs : ∀ b o, X.base.get? b = some o → X.s₀.heap.get? b = some o ∧ X.H₀ b = none
  bsz : X.base.objs.size ≤ X.s₀.heap.objs.size
  noex : ∀ b o, X.base.get? b = some o → b ∉ X.ex
  exfs : ∀ b ∈ X.ex, b ∉ X.fs
  funs : X.s₀.heap.FunFrames X.base X.outer
  frf : ∀ b ∈ X.fs, X.H₀ b = none

structure Inv (X : Cx) (pins : List (Addr × Obj)) (σ : List (Option V)) (H : Hp) (s : Shared) : Prop where
  ok : X.Ok
  os : s.os = X.s₀.os
  bare : AllBare s.gens
  base : Un X.fs X.ex X.H₀ H X.s₀.heap s.heap
  loc : ∃ m, s.heap.Ns X.env.locals m ∧ ∀ (i : Nat) (x : Str) (v : V), X.N[i]? = some x → σ[i]? = some (some v) → Vis X.env.scope x → ∃ u, RelV v u ∧ Look X.env s.heap m x u
  cell : ∀ x c, X.env.cells.lookup x = some c → ∃ v, s.heap.IsCell c v
  free : H X.env.locals = none
  freeC : ∀ x c, X.env.cells.lookup x = some c → H c = none
  pin : ∀ p ∈ X.pn ++ pins, s.heap.get? p.1 = some p.2 ∧ H p.1 = none ∧ p.1 ≠ X.env.locals ∧ p.1 ∉ X.fs ∧ ∀ v, p.2.data ≠ .cell v
  hok : HOk X.prog X.w H s.heap
  len : σ.length = X.N.length

section
variable {X : Cx} {pins : List (Addr × Obj)} {σ : List (Option V)} {H H' : Hp} {s : Shared} {h' : Heap}

theorem Cx.Ok.nofr (ok : X.Ok) {b : Addr} {o : Obj} (e : X.base.get? b = some o) : b ∉ X.fs := fun hb => by
  have := (ok.funs.mem hb).1
  rw [e] at this; cases this
theorem Inv.bs (I : Inv X pins σ H s) : ∀ b o, X.base.get? b = some o → s.heap.get? b = some o ∧ H b = none := fun b o e =>
  ⟨I.base.keep b o (I.ok.bs b o e).1 (I.ok.bs b o e).2 (I.ok.nofr e) (I.ok.noex b o e), I.base.free b o (I.ok.bs b o e).1 (I.ok.bs b o e).2 (I.ok.noex b o e)⟩
theorem Inv.bk (I : Inv X pins σ H s) : ∀ b o, X.base.get? b = some o → s.heap.get? b = some o := fun b o e => (I.bs b o e).1
theorem Inv.mod (I : Inv X pins σ H s) : Mod X.K X.mg X.base := I.ok.mod
theorem Inv.kIn (I : Inv X pins σ H s) : X.K.In s.heap := I.ok.mod.kin.keeps I.bk
theorem Inv.nolimit (I : Inv X pins σ H s) : s.heap.NoLimit := I.ok.mod.nolimit.keeps I.bk
/-- the frame over the base: for OpenK's rules (K.In X.base is I.mod.kin) -/
theorem Inv.fr (I : Inv X pins σ H s) : ∃ m, Fr X.base X.env.locals s.heap m :=
  let ⟨m, hn, _⟩ := I.loc
  ⟨m, hn, I.bk, Nat.le_trans I.ok.bsz I.ok.above⟩
theorem Inv.lt (I : Inv X pins σ H s) : X.env.locals < s.heap.objs.size := let ⟨_, hn, _⟩ := I.loc; hn.lt
theorem Inv.sz (I : Inv X pins σ H s) : X.s₀.heap.objs.size ≤ s.heap.objs.size := Nat.le_trans I.ok.above (Nat.le_of_lt I.lt)
theorem Inv.nofs (I : Inv X pins σ H s) {a : Addr} (h : s.heap.objs.size ≤ a) : a ∉ X.fs := fun hb => by
  obtain ⟨_, o, ho, _⟩ := I.ok.funs.mem hb
  exact absurd (Nat.lt_of_lt_of_le (Heap.lt_size ho) (Nat.le_trans I.sz h)) (Nat.lt_irrefl _)
theorem Inv.cne (I : Inv X pins σ H s) : ∀ x c, X.env.cells.lookup x = some c → c ≠ X.env.locals := fun x c e z => by
  obtain ⟨v, o, ho, hd⟩ := I.cell x c e
  obtain ⟨m, ⟨o', es, ep, ho', hd', _⟩, _⟩ := I.loc
  rw [z, ho'] at ho; cases ho; rw [hd'] at hd; cases hd
theorem Inv.funs (I : Inv X pins σ H s) : s.heap.FunFrames X.base X.outer := by
  have all : ∀ (l : List Env), (∀ b ∈ frs l, b ∈ X.fs) → X.s₀.heap.FunFrames X.base l → s.heap.FunFrames X.base l := by
    intro l
    induction l with
    | nil => intro _ _; trivial
    | cons env r ih =>
      intro hs hl
      obtain ⟨hk, ⟨L, o, hf, hn, ho, hd⟩, hr⟩ := hl
      have hL : L ∈ X.fs := hs L (by unfold frs; rw [List.filterMap_cons, hf]; exact List.mem_cons_self)
      obtain ⟨sl, e⟩ := I.base.slot L o ho (I.ok.frf L hL) hL fun z => I.ok.exfs L z hL
      exact ⟨hk, ⟨L, _, hf, hn, e, hd⟩, ih (fun b hb => hs b (by unfold frs; rw [List.filterMap_cons, hf]; exact List.mem_cons_of_mem _ hb)) hr⟩
  exact all X.outer (fun _ hb => hb) I.ok.funs

/-- the frames that run, for a call -/
theorem Inv.stack (I : Inv X pins σ H s) : s.heap.FunFrames X.base X.stack := by
  rcases I.ok.stk with e | ⟨e, hf⟩
  · rw [e]; exact I.funs
  · rw [e]
    obtain ⟨m, hn, _⟩ := I.loc
    refine .cons (by rw [I.ok.kind]; decide) hf hn ?_ I.funs
    exact Heap.get?_none_of_le (Nat.le_trans I.ok.bsz I.ok.above)
theorem Inv.stkSub (I : Inv X pins σ H s) : ∀ b ∈ frs X.stack, b ∈ X.env.locals :: X.fs := fun b hb => by
  rcases I.ok.stk with e | ⟨e, hf⟩
  · rw [e] at hb; exact List.mem_cons_of_mem _ hb
  · rw [e] at hb
    unfold frs at hb
    rw [List.filterMap_cons, hf] at hb
    exact hb
theorem Inv.stkFree (I : Inv X pins σ H s) : ∀ b ∈ frs X.stack, H b = none := fun b hb => by
  rcases List.mem_cons.mp (I.stkSub b hb) with e | hb
  · rw [e]; exact I.free
  · obtain ⟨_, o, ho, _⟩ := I.ok.funs.mem hb
    exact I.base.free b o ho (I.ok.frf b hb) fun z => I.ok.exfs b z hb

/-- THE STEP: the untracked objects but the frame and the records at ch are kept (the callers' frames up to slots), the frame's map is kept, the new abstract heap is held -/
theorem Inv.step {g' : Array GenState} {t' : Nat} {d' : Drawn} {ch : List Addr} (I : Inv X pins σ H s)
    (hch : ∀ b ∈ ch, (b ∈ X.ex ∨ X.s₀.heap.objs.size ≤ b) ∧ b ≠ X.env.locals ∧ (∀ x c, X.env.cells.lookup x = some c → c ≠ b) ∧ ∀ p ∈ X.pn ++ pins, p.1 ≠ b)
    (keep : ∀ b o, b ≠ X.env.locals → b ∉ X.fs → b ∉ ch → s.heap.get? b = some o → H b = none → h'.get? b = some o)
    (slot : ∀ b o, b ≠ X.env.locals → b ∈ X.fs → b ∉ ch → s.heap.get? b = some o → H b = none → ∃ sl, h'.get? b = some { o with slots := sl }) (free : ∀ b o, b ∉ ch → s.heap.get? b = some o → H b = none → H' b = none)
    (there : ∀ b o, b ∉ ch → s.heap.get? b = some o → ∃ o', h'.get? b = some o')
    (tups : ∀ b xs, H b = some (.tup xs) → H' b = some (.tup xs)) (frzs : ∀ b o u, H b = some (.frz o u) → H' b = some (.frz o u)) (tbls : ∀ b ps, H b = some (.tbl ps) → ∃ more, H' b = some (.tbl (ps ++ more)))
    (ns : ∀ m, s.heap.Ns X.env.locals m → h'.Ns X.env.locals m) (hok : HOk X.prog X.w H' h') (hg : AllBare g') :
    Inv X pins σ H' { s with heap := h', gens := g', drawn := d', toks := t' } := by
  have neL : ∀ b o, X.s₀.heap.get? b = some o → b ≠ X.env.locals := fun b o e => Nat.ne_of_lt (Nat.lt_of_lt_of_le (Heap.lt_size e) I.ok.above)
  have neC : ∀ b o, X.s₀.heap.get? b = some o → b ∉ X.ex → b ∉ ch := fun b o e hx hb => by
    rcases (hch b hb).1 with z | z
    · exact hx z
    · exact absurd (Nat.lt_of_lt_of_le (Heap.lt_size e) z) (Nat.lt_irrefl _)
  have cellK : ∀ x c, X.env.cells.lookup x = some c → ∀ v, s.heap.IsCell c v → h'.IsCell c v := fun x c e v ⟨o, ho, hd⟩ => by
    have nch : c ∉ ch := fun z => (hch c z).2.2.1 x c e rfl
    by_cases hc : c ∈ X.fs
    · obtain ⟨sl, q⟩ := slot c o (I.cne x c e) hc nch ho (I.freeC x c e)
      exact ⟨_, q, hd⟩
    · exact ⟨o, keep c o (I.cne x c e) hc nch ho (I.freeC x c e), hd⟩
  refine ⟨I.ok, I.os, hg, ⟨fun b o e n hb hx => ?_, fun b o e n hb hx => ?_, fun b o e n hx => ?_, fun b o e hx => ?_, fun b xs e => tups b xs (I.base.tups b xs e), fun b o xs e => frzs b o xs (I.base.frzs b o xs e), fun b ps e => ?_⟩, ?_, fun x c e => ?_, ?_, fun x c e => ?_, fun p hp => ?_, hok, I.len⟩
  · exact keep b o (neL b o e) hb (neC b o e hx) (I.base.keep b o e n hb hx) (I.base.free b o e n hx)
  · obtain ⟨sl, e1⟩ := I.base.slot b o e n hb hx
    obtain ⟨sl', e2⟩ := slot b _ (neL b o e) hb (neC b o e hx) e1 (I.base.free b o e n hx)
    exact ⟨sl', e2⟩
  · obtain ⟨o', e1⟩ := I.base.there b o e hx
    exact free b o' (neC b o e hx) e1 (I.base.free b o e n hx)
  · obtain ⟨o', e1⟩ := I.base.there b o e hx
    exact there b o' (neC b o e hx) e1
  · obtain ⟨m1, e1⟩ := I.base.tbls b ps e
    obtain ⟨m2, e2⟩ := tbls b _ e1
    exact ⟨m1 ++ m2, by rw [e2, Array.append_assoc]⟩
  · obtain ⟨m, hn, hl⟩ := I.loc
    refine ⟨m, ns m hn, fun i x v e1 e2 e3 => ?_⟩
    obtain ⟨u, r, l⟩ := hl i x v e1 e2 e3
    refine ⟨u, r, ?_⟩
    rcases l with l | ⟨k, c, e, z⟩
    · exact .inl l
    · exact .inr ⟨k, c, e, cellK x c e _ z⟩
  · obtain ⟨v, z⟩ := I.cell x c e
    exact ⟨v, cellK x c e v z⟩
  · obtain ⟨m, ⟨o, _, _, ho, _⟩, _⟩ := I.loc
    exact free _ o (fun z => (hch _ z).2.1 rfl) ho I.free
  · obtain ⟨v, o, ho, hd⟩ := I.cell x c e
    exact free c o (fun z => (hch c z).2.2.1 x c e rfl) ho (I.freeC x c e)
  · obtain ⟨e, n, ne, nf, d⟩ := I.pin p hp
    have nch : p.1 ∉ ch := fun z => (hch p.1 z).2.2.2 p hp rfl
    exact ⟨keep p.1 p.2 ne nf nch e n, free p.1 p.2 nch e n, ne, nf, d⟩
/-- .. where the frame's own object is kept too -/
theorem Inv.un {t' : Nat} (I : Inv X pins σ H s) (u : Un X.fs [] H H' s.heap h') (hok : HOk X.prog X.w H' h') : Inv X pins σ H' { s with heap := h', toks := t' } := by
  obtain ⟨m, ⟨o, es, ep, ho, r⟩, _⟩ := id I.loc
  obtain ⟨sl, hL⟩ := u.any ho I.free (by simp)
  exact I.step (g' := s.gens) (d' := s.drawn) (ch := []) (fun _ z => nomatch z) (fun b o _ hb _ e n => u.keep b o e n hb (by simp)) (fun b o _ hb _ e n => u.slot b o e n hb (by simp)) (fun b o _ e n => u.free b o e n (by simp)) (fun b o _ e => u.there b o e (by simp)) u.tups u.frzs u.tbls (fun m' hm => by
    obtain ⟨o', es', ep', ho', r'⟩ := hm
    rw [ho] at ho'; cases ho'
    exact ⟨_, es', ep', hL, r'⟩) hok I.bare
/-- behind a call (or a comprehension's block): the slots of this frame may have changed too, the records at ch may have turned -/
theorem Inv.call {g' : Array GenState} {t' : Nat} {d' : Drawn} {ch : List Addr} (I : Inv X pins σ H s) (u : Un (frs X.stack) ch H H' s.heap h') (hok : HOk X.prog X.w H' h') (hg : AllBare g')
    (hch : ∀ b ∈ ch, (b ∈ X.ex ∨ X.s₀.heap.objs.size ≤ b) ∧ b ≠ X.env.locals ∧ (∀ x c, X.env.cells.lookup x = some c → c ≠ b) ∧ ∀ p ∈ X.pn ++ pins, p.1 ≠ b) :
    Inv X pins σ H' { s with heap := h', gens := g', drawn := d', toks := t' } := by
  obtain ⟨m, ⟨o, es, ep, ho, r⟩, _⟩ := id I.loc
  obtain ⟨sl, hL⟩ := u.any ho I.free fun z => (hch _ z).2.1 rfl
  exact I.step (ch := ch) hch (fun b o hL hb hc e n => u.keep b o e n (fun z => (List.mem_cons.mp (I.stkSub b z)).elim hL hb) hc) (fun b o _ _ hc e n => u.any e n hc) (fun b o hc e n => u.free b o e n hc) (fun b o hc e => u.there b o e hc) u.tups u.frzs u.tbls (fun m' hm => by
    obtain ⟨o', es', ep', ho', r'⟩ := hm
    rw [ho] at ho'; cases ho'
    exact ⟨_, es', ep', hL, r'⟩) hok hg
/-- an untracked record of ours (an iterator) has turned -/
theorem Inv.turned {t' : Nat} {it : Addr} (I : Inv X pins σ H s) (k : ∀ b o, b ≠ it → s.heap.get? b = some o → h'.get? b = some o) (hn : H it = none) (hL : it ≠ X.env.locals)
    (h1 : it ∈ X.ex ∨ X.s₀.heap.objs.size ≤ it) (h2 : ∀ x c, X.env.cells.lookup x = some c → c ≠ it) (h3 : ∀ p ∈ X.pn ++ pins, p.1 ≠ it) : Inv X pins σ H { s with heap := h', toks := t' } := by
  have nit : ∀ b u, H b = some u → b ≠ it := fun b u e z => by rw [z, hn] at e; cases e
  refine I.step (g' := s.gens) (d' := s.drawn) (ch := [it]) (fun b hb => ?_) (fun b o _ _ hc e _ => k b o (fun z => hc (by simp [z])) e) (fun b o _ _ hc e _ => ⟨o.slots, k b o (fun z => hc (by simp [z])) e⟩) (fun _ _ _ _ n => n)
    (fun b o hc e => ⟨o, k b o (fun z => hc (by simp [z])) e⟩) (fun _ _ e => e) (fun _ _ _ e => e) (fun b ps e => ⟨#[], by rw [e]; simp⟩) (fun m hm => ?_) (fun b u e => ?_) I.bare
  · have e : b = it := by simpa using hb
    subst e
    exact ⟨h1, hL, h2, h3⟩
  · obtain ⟨o, es, ep, ho, r⟩ := hm
    exact ⟨o, es, ep, k _ o (Ne.symm hL) ho, r⟩
  · refine (I.hok b u e).stay (fun c v hc q => k c v ?_ q) (fun _ q => q) fun _ _ q => q
    rcases hc with z | z
    · rw [z]; exact nit b u e
    · exact nit c _ z
theorem Inv.tok (I : Inv X pins σ H s) (t : Nat) : Inv X pins σ H { s with toks := t } := I.un (h' := s.heap) (t' := t) Un.refl I.hok
/-- all objects kept -/
theorem Inv.kept {t' : Nat} (I : Inv X pins σ H s) (k : ∀ b u, s.heap.get? b = some u → h'.get? b = some u) : Inv X pins σ H { s with heap := h', toks := t' } := I.un (Un.kept k) (I.hok.kept k)
/-- a new object laid and tracked -/
theorem Inv.laid {a : Addr} {o : HO} {t' : Nat} (I : Inv X pins σ H s) (k : ∀ b u, s.heap.get? b = some u → h'.get? b = some u) (hp : s.heap.objs.size ≤ a) (new : ObjOk X.prog X.w (upd H a o) h' a o) :
    Inv X pins σ (upd H a o) { s with heap := h', toks := t' } := I.un (Un.laid k hp (I.hok.fresh hp)) (I.hok.laid k hp new)
/-- an object written -/
theorem Inv.write {x e : Addr} {o : HO} {t' : Nat} (I : Inv X pins σ H s) (mu : Mut (H x)) (he : e = x ∨ H e = some (.own x)) (k : ∀ b u, b ≠ e → s.heap.get? b = some u → h'.get? b = some u) (heo : ∃ u, h'.get? e = some u)
    (new : ObjOk X.prog X.w (upd H x o) h' x o) : Inv X pins σ (upd H x o) { s with heap := h', toks := t' } := I.un (Un.write mu he k heo) (I.hok.write mu he k heo new)
/-- forgetting slots, pins -/
theorem Inv.weak {σ' : List (Option V)} (I : Inv X pins σ H s) (hl : σ'.length = σ.length) (w : ∀ (i : Nat) v, σ'[i]? = some (some v) → σ[i]? = some (some v)) : Inv X pins σ' H s :=
  ⟨I.ok, I.os, I.bare, I.base, let ⟨m, hn, hl'⟩ := I.loc; ⟨m, hn, fun i x v e1 e2 e3 => hl' i x v e1 (w i v e2) e3⟩, I.cell, I.free, I.freeC, I.pin, I.hok, hl.trans I.len⟩
theorem Inv.pins_of {pins' : List (Addr × Obj)} (I : Inv X pins σ H s) (h : ∀ p ∈ pins', s.heap.get? p.1 = some p.2 ∧ H p.1 = none ∧ p.1 ≠ X.env.locals ∧ p.1 ∉ X.fs ∧ ∀ v, p.2.data ≠ .cell v) : Inv X pins' σ H s :=
  ⟨I.ok, I.os, I.bare, I.base, I.loc, I.cell, I.free, I.freeC, fun p hp => (List.mem_append.mp hp).elim (fun z => I.pin p (List.mem_append_left _ z)) (h p), I.hok, I.len⟩

theorem nodup_ix {N : List Str} (hN : N.Nodup) {i j : Nat} {x : Str} (a : N[i]? = some x) (b : N[j]? = some x) : i = j := by
  obtain ⟨h1, e1⟩ := List.getElem?_eq_some_iff.mp a
  obtain ⟨h2, e2⟩ := List.getElem?_eq_some_iff.mp b
  exact (List.getElem_inj hN).mp (e1.trans e2.symm)

/-- a name is stored; what changed -/
theorem store_ok2 {M : Model} {A : Around} {E : Value → Shared → Prop} {i : Nat} {x : Str} {v : V} {u : Value} {Q : Unit → Shared → Prop} (I : Inv X pins σ H s) (hN : X.N.Nodup) (hi : X.N[i]? = some x) (hx : Loc X.env.scope x) (r : RelV v u)
    (h : ∀ s', Inv X pins (σ.set i (some v)) H s' → (∃ a, Heap.SameBut a s.heap s'.heap ∧ (a = X.env.locals ∨ X.env.cells.lookup x = some a)) → Q () s') (hf : X.fn x = true ∨ X.env.scope.names.lookup x = some .local := by first | exact .inl rfl | exact .inr rfl | assumption) : wpAny M A (storeName X.env x u) Q E s := by
  obtain ⟨m, hn, hl⟩ := id I.loc
  have hcls : (X.env.scope.kind == .class || (X.env.scope.kind == .module && X.env.locals != X.env.globals)) = false := by rw [I.ok.kind]; rfl
  have hiσ : i < σ.length := by rw [I.len]; exact (List.getElem?_eq_some_iff.mp hi).1
  have cne := I.cne
  have tracked : ∀ {a : Addr} {h' : Heap}, (∃ o, s.heap.get? a = some o ∧ H a = none) → Heap.SameBut a s.heap h' → HOk X.prog X.w H h' := fun {a h'} ha hs b ob e => by
    obtain ⟨_, _, hfree⟩ := ha
    refine (I.hok b ob e).stay (fun c w' hc q => (hs.2 c ?_).trans q) (fun _ q => q) fun _ _ q => q
    rintro rfl
    rcases hc with rfl | hc
    · rw [hfree] at e; cases e
    · rw [hfree] at hc; cases hc
  rcases hx with hk | hk
  · refine wpAny_storeName_local hk hn (fun h' hn' hs => ?_) hcls
    obtain ⟨oL, _, _, hoL, _⟩ := id hn
    refine h _ ⟨I.ok, I.os, I.bare, ⟨fun b o e n hb hx => ?_, fun b o e n hb hx => ?_, I.base.free, fun b o e hx => ?_, I.base.tups, I.base.frzs, I.base.tbls⟩, ⟨_, hn', fun j y v' e1 e2 e3 => ?_⟩, fun y c e => ?_, I.free, I.freeC, fun p hp => ?_, tracked ⟨oL, hoL, I.free⟩ hs, by simpa using I.len⟩ ⟨_, hs, .inl rfl⟩
    · exact (hs.2 b (Nat.ne_of_lt (Nat.lt_of_lt_of_le (Heap.lt_size e) I.ok.above))).trans (I.base.keep b o e n hb hx)
    · obtain ⟨sl, e1⟩ := I.base.slot b o e n hb hx
      exact ⟨sl, (hs.2 b (Nat.ne_of_lt (Nat.lt_of_lt_of_le (Heap.lt_size e) I.ok.above))).trans e1⟩
    · obtain ⟨o', e1⟩ := I.base.there b o e hx
      exact ⟨o', (hs.2 b (Nat.ne_of_lt (Nat.lt_of_lt_of_le (Heap.lt_size e) I.ok.above))).trans e1⟩
    · by_cases hj : j = i
      · subst hj
        rw [hi] at e1; cases e1
        rw [List.getElem?_set_self hiσ] at e2
        cases e2
        exact ⟨u, r, .inl ⟨hk, by simp⟩⟩
      · rw [List.getElem?_set_ne (Ne.symm hj)] at e2
        obtain ⟨u', r', q⟩ := hl j y v' e1 e2 e3
        refine ⟨u', r', ?_⟩
        rcases q with ⟨k, e⟩ | ⟨k, c, e, z⟩
        · refine .inl ⟨k, ?_⟩
          have : y ≠ x := fun e => hj (nodup_ix hN e1 (e ▸ hi))
          simp [this, e]
        · exact .inr ⟨k, c, e, z.sameBut hs (cne y c e)⟩
    · obtain ⟨w', z⟩ := I.cell y c e
      exact ⟨w', z.sameBut hs (cne y c e)⟩
    · obtain ⟨e, n, ne, nf, d⟩ := I.pin p hp
      exact ⟨(hs.2 p.1 ne).trans e, n, ne, nf, d⟩
  · have hfn : X.fn x = true := by
      rcases hf with z | z
      · exact z
      · rw [z] at hk; cases hk
    obtain ⟨c, hc⟩ := I.ok.has x (.inl hk)
    obtain ⟨w', z⟩ := I.cell x c hc
    refine wpAny_storeName_cell I.ok.kind hk hc z (fun h' hc' hs => ?_)
    obtain ⟨oc, hoc, hocd⟩ := id z
    refine h { s with heap := h' } ⟨I.ok, I.os, I.bare, ⟨fun b o e n hb hx => ?_, fun b o e n hb hx => ?_, I.base.free, fun b o e hx => ?_, I.base.tups, I.base.frzs, I.base.tbls⟩, ⟨m, hn.sameBut hs (Ne.symm (cne x c hc)), fun j y v' e1 e2 e3 => ?_⟩, fun y c' e => ?_, I.free, I.freeC, fun p hp => ?_, tracked ⟨oc, hoc, I.freeC x c hc⟩ hs, by simpa using I.len⟩ ⟨c, hs, .inr hc⟩
    · exact (hs.2 b (Nat.ne_of_lt (Nat.lt_of_lt_of_le (Heap.lt_size e) (I.ok.cab x c hfn hc)))).trans (I.base.keep b o e n hb hx)
    · obtain ⟨sl, e1⟩ := I.base.slot b o e n hb hx
      exact ⟨sl, (hs.2 b (Nat.ne_of_lt (Nat.lt_of_lt_of_le (Heap.lt_size e) (I.ok.cab x c hfn hc)))).trans e1⟩
    · obtain ⟨o', e1⟩ := I.base.there b o e hx
      exact ⟨o', (hs.2 b (Nat.ne_of_lt (Nat.lt_of_lt_of_le (Heap.lt_size e) (I.ok.cab x c hfn hc)))).trans e1⟩
    · by_cases hj : j = i
      · subst hj
        rw [hi] at e1; cases e1
        rw [List.getElem?_set_self hiσ] at e2
        cases e2
        exact ⟨u, r, .inr ⟨.inl hk, c, hc, hc'⟩⟩
      · rw [List.getElem?_set_ne (Ne.symm hj)] at e2
        obtain ⟨u', r', q⟩ := hl j y v' e1 e2 e3
        refine ⟨u', r', ?_⟩
        rcases q with q | ⟨k, c', e, z'⟩
        · exact .inl q
        · refine .inr ⟨k, c', e, z'.sameBut hs ?_⟩
          rintro rfl
          exact hj (nodup_ix hN e1 (I.ok.inj _ _ _ e hc ▸ hi))
    · by_cases hcc : c' = c
      · subst hcc; exact ⟨_, hc'⟩
      · obtain ⟨w2, z2⟩ := I.cell y c' e
        exact ⟨w2, z2.sameBut hs hcc⟩
    · obtain ⟨e, n, ne, nf, d⟩ := I.pin p hp
      refine ⟨(hs.2 p.1 ?_).trans e, n, ne, nf, d⟩
      intro q
      rw [q, hoc] at e
      have q' : oc = p.2 := Option.some.inj e
      exact d w' (by rw [← q']; exact hocd)
theorem store_ok {M : Model} {A : Around} {E : Value → Shared → Prop} {i : Nat} {x : Str} {v : V} {u : Value} {Q : Unit → Shared → Prop} (I : Inv X pins σ H s) (hN : X.N.Nodup) (hi : X.N[i]? = some x) (hx : Loc X.env.scope x) (r : RelV v u)
    (h : ∀ s', Inv X pins (σ.set i (some v)) H s' → Q () s') (hf : X.fn x = true ∨ X.env.scope.names.lookup x = some .local := by first | exact .inl rfl | exact .inr rfl | assumption) : wpAny M A (storeName X.env x u) Q E s :=
  store_ok2 I hN hi hx r (fun s' I' _ => h s' I') hf
/-- behind a call or a block, the state as it is -/
theorem Inv.call' {s' : Shared} {ch : List Addr} (I : Inv X pins σ H s) (ho : s'.os = s.os) (u : Un (frs X.stack) ch H H' s.heap s'.heap) (hok : HOk X.prog X.w H' s'.heap) (hg : AllBare s'.gens)
    (hch : ∀ b ∈ ch, (b ∈ X.ex ∨ X.s₀.heap.objs.size ≤ b) ∧ b ≠ X.env.locals ∧ (∀ x c, X.env.cells.lookup x = some c → c ≠ b) ∧ ∀ p ∈ X.pn ++ pins, p.1 ≠ b) : Inv X pins σ H' s' := by
  obtain ⟨h', g', d', t', o'⟩ := s'
  have e : o' = s.os := ho
  subst e
  exact I.call (g' := g') (t' := t') (d' := d') u hok hg hch
end

/-! ### the judgements -/
/-- an exception: its class, its own dict's address (where it has one), the abstract heap behind it -/
abbrev XK := Value → Option Addr → Hp → Prop
abbrev St := List (Option V)
abbrev VK := V → Hp → Prop
/-- an expression's reading; a test's; an argument list's -/
abbrev TE := St → Hp → VK → Prop
abbrev TT := St → Hp → (Bool → Hp → Prop) → Prop
abbrev TA := St → Hp → (List V → Hp → Prop) → Prop
/-- what is wanted behind a statement -/
structure Ends where
  nx : St → Hp → Prop
  rt : VK
  bk : St → Hp → Prop := fun _ _ => False
  ct : St → Hp → Prop := fun _ _ => False
abbrev TS := Ends → St → Hp → Prop

def EP (X : Cx) (pins : List (Addr × Obj)) (σ : St) (Q : VK) (u : Value) (s' : Shared) : Prop := ∃ v H', Inv X pins σ H' s' ∧ RelV v u ∧ Q v H'
def TP (X : Cx) (pins : List (Addr × Obj)) (σ : St) (Q : Bool → Hp → Prop) (b : Bool) (s' : Shared) : Prop := ∃ H', Inv X pins σ H' s' ∧ Q b H'
def AP (X : Cx) (pins : List (Addr × Obj)) (σ : St) (Q : List V → Hp → Prop) (us : List Value) (s' : Shared) : Prop := ∃ vs H', Inv X pins σ H' s' ∧ Vals vs us ∧ Q vs H'
def SP (X : Cx) (pins : List (Addr × Obj)) (D : Ends) (f : Flow) (s' : Shared) : Prop :=
  match f with
  | .next => ∃ σ' H', Inv X pins σ' H' s' ∧ D.nx σ' H'
  | .brk => ∃ σ' H', Inv X pins σ' H' s' ∧ D.bk σ' H'
  | .cont => ∃ σ' H', Inv X pins σ' H' s' ∧ D.ct σ' H'
  | .ret u => ∃ v σ' H', Inv X pins σ' H' s' ∧ RelV v u ∧ D.rt v H'

def PE (X : Cx) (e : Expr) (t : TE) : Prop :=
  ∀ (pins : List (Addr × Obj)) (s : Shared) (σ : St) (H : Hp) (Q : VK), Inv X pins σ H s → t σ H Q → wpAny (model X.prog X.w) X.A (eval e X.env) (EP X pins σ Q) X.xe s
def PT (X : Cx) (e : Expr) (t : TT) : Prop :=
  ∀ (pins : List (Addr × Obj)) (s : Shared) (σ : St) (H : Hp) (Q : Bool → Hp → Prop), Inv X pins σ H s → t σ H Q → wpAny (model X.prog X.w) X.A (isTrue e X.env (eval e X.env)) (TP X pins σ Q) X.xe s
/-- a test whatever its 'whole' is (and, or) -/
def PW (X : Cx) (e : Expr) (t : TT) : Prop :=
  ∀ (whole : Sem Value) (pins : List (Addr × Obj)) (s : Shared) (σ : St) (H : Hp) (Q : Bool → Hp → Prop), Inv X pins σ H s → t σ H Q → wpAny (model X.prog X.w) X.A (isTrue e X.env whole) (TP X pins σ Q) X.xe s
theorem PW.pt {X : Cx} {e : Expr} {t : TT} (h : PW X e t) : PT X e t := h _
/-- an argument list (no star), from the left -/
def PA (X : Cx) (es : List Expr) (t : TA) : Prop :=
  ∀ (pos : Pos) (pins : List (Addr × Obj)) (s : Shared) (σ : St) (H : Hp) (Q : List V → Hp → Prop), Inv X pins σ H s → t σ H Q → wpAny (model X.prog X.w) X.A (spliced (backTo pos (starEach es X.env))) (AP X pins σ Q) X.xe s
def PS (X : Cx) (st : Stmt) (t : TS) : Prop :=
  ∀ (pins : List (Addr × Obj)) (s : Shared) (σ : St) (H : Hp) (D : Ends), Inv X pins σ H s → t D σ H → wpAny (model X.prog X.w) X.A (exec st X.env) (SP X pins D) X.xe s
def PSs (X : Cx) (st : List Stmt) (t : TS) : Prop :=
  ∀ (pins : List (Addr × Obj)) (s : Shared) (σ : St) (H : Hp) (D : Ends), Inv X pins σ H s → t D σ H → wpAny (model X.prog X.w) X.A (execs st X.env) (SP X pins D) X.xe s
/-- weaken the end -/
theorem thn {α : Type} {t : Sem α} {Q Q' : α → Shared → Prop} {M : Model} {A : Around} {E : Value → Shared → Prop} {s : Shared} (h : wpAny M A t Q E s) (hQ : ∀ a s, Q a s → Q' a s) : wpAny M A t Q' E s := wpAny_mono h hQ fun _ _ x => x
end L2

namespace L2
open PySem PySem.Spec PyProof.Rows
section
variable {X : Cx}


/-! ### names and constants -/
def tVar (i : Nat) : TE := fun σ H Q => ∃ v, σ[i]? = some (some v) ∧ Q v H
def tC (v : V) : TE := fun _ H Q => Q v H
theorem pe_var {i : Nat} {x : Str} {pos : Pos} (hN : X.N[i]? = some x) (hv : Vis X.env.scope x) (hd : (x == ("__debug__" : Str)) = false := by decide) (hcd : (x == ("__classdict__" : Str)) = false := by decide) : PE X (.Name x pos) (tVar i) := by
  intro pins s σ H Q I h
  obtain ⟨v, e, h⟩ := h
  obtain ⟨m, hn, hl⟩ := I.loc
  obtain ⟨u, r, l⟩ := hl i x v hN e hv
  have fin : EP X pins σ Q u s := ⟨v, H, I, r, h⟩
  rcases l with ⟨hk, hm⟩ | ⟨hk, c, hc, hcell⟩
  · exact wpAny_Name (wpAny_loadName_local I.ok.kind hk hn hm fin) hd
  · rcases hk with hk | hk
    · exact wpAny_Name (wpAny_loadName_cell I.ok.kind hk hc hcell fin) hd
    · exact wpAny_Name (wpAny_loadName_free I.ok.kind hk hc hcell fin hcd) hd
theorem pe_int {i j pos} : PE X (.Constant (.int i) j pos) (tC (.int i)) := fun _ _ _ H _ I h => wpAny_Constant_int ⟨.int i, H, I.tok _, ⟨_, rfl⟩, h⟩
theorem pe_bl {b j pos} : PE X (.Constant (.bool b) j pos) (tC (.bl b)) := fun _ _ _ H _ I h => Constant_bool ⟨.bl b, H, I, rfl, h⟩
theorem pe_non {j pos} : PE X (.Constant .none j pos) (tC .non) := fun _ _ _ H _ I h => Constant_none ⟨.non, H, I, rfl, h⟩
theorem pe_str {x j pos} : PE X (.Constant (.str x) j pos) (tC (.str x)) := fun _ _ _ H _ I h => Calls.Constant_str ⟨.str x, H, I.tok _, ⟨_, rfl⟩, h⟩

/-- a global name of the def -/
def Gl (X : Cx) (x : Str) : Prop := X.env.kindOf x = some .globalImplicit
theorem ld_glob {E : Value → Shared → Prop} {pins : List (Addr × Obj)} {s : Shared} {σ : St} {H : Hp} {x : Str} {u : Value} {pos : Pos} {Q : Value → Shared → Prop} (I : Inv X pins σ H s) (hg : Gl X x) (hm : X.mg x = some u) (h : Q u s)
    (hd : (x == ("__debug__" : Str)) = false := by decide) : wpAny (model X.prog X.w) X.A (eval (.Name x pos) X.env) Q E s :=
  Calls.Name_function_global I.ok.kind hg (Calls.loadGlobal_global (by rw [I.ok.glob]; exact I.mod.glob.keeps I.bk) hm h) hd
theorem ld_blt {E : Value → Shared → Prop} {pins : List (Addr × Obj)} {s : Shared} {σ : St} {H : Hp} {x : Str} {u : Value} {pos : Pos} {Q : Value → Shared → Prop} (I : Inv X pins σ H s) (hg : Gl X x) (hm : X.mg x = none) (hv : bootBuiltins x = some u) (h : Q u s)
    (hn : x ≠ "__name__" := by decide) (hd : (x == ("__debug__" : Str)) = false := by decide) : wpAny (model X.prog X.w) X.A (eval (.Name x pos) X.env) Q E s := by
  obtain ⟨mb, h1, h2⟩ := I.mod.blt
  exact Calls.Name_function_global I.ok.kind hg (Calls.loadGlobal_builtin (by rw [I.ok.glob]; exact I.mod.glob.keeps I.bk) hm (by rw [I.ok.blt]; exact h1.keeps I.bk) ((h2 x hn).trans hv) h) hd
/-- a module's constant, a class, a function, as a value -/
theorem pe_glob {x : Str} {v : V} {u : Value} {pos : Pos} (hg : Gl X x) (hm : X.mg x = some u) (r : RelV v u) (hd : (x == ("__debug__" : Str)) = false := by decide) : PE X (.Name x pos) (tC v) :=
  fun _ _ _ H _ I h => ld_glob I hg hm ⟨v, H, I, r, h⟩ hd
theorem pe_bltn {x : Str} {v : V} {u : Value} {pos : Pos} (hg : Gl X x) (hm : X.mg x = none) (hv : bootBuiltins x = some u) (r : RelV v u) (hn : x ≠ "__name__" := by decide) (hd : (x == ("__debug__" : Str)) = false := by decide) : PE X (.Name x pos) (tC v) :=
  fun _ _ _ H _ I h => ld_blt I hg hm hv ⟨v, H, I, r, h⟩ hn hd

/-! ### arithmetic -/
variable {a b : Expr} {ta tb : TE} {pos : Pos}

/-! ### comparisons -/
/-- a comparison as a value, as a test -/
def tB (t : TE) : TT := fun σ H Q => t σ H fun x H1 => ∃ c, x = .bl c ∧ Q c H1
/-- an expression whose value is a bool, as a test -/
theorem pt_val {e : Expr} {t : TE} (h : PE X e t) (he : ∀ whole, isTrue e X.env whole = (do let v ← whole; standAt e.pos; holding [v] (truthy v)) := by intro _; rfl) : PT X e (tB t) := by
  intro pins s σ H Q I hw
  refine isTrue_plain (thn (h pins s σ H _ I hw) fun v s1 ⟨x, H1, I1, r1, q1⟩ => ?_) (he _)
  obtain ⟨d, rfl, q⟩ := q1
  cases r1
  exact wpAny_truthy_bool ⟨H1, I1, q⟩

/-! ### and, or, not -/
variable {tA tB' : TT} {rest : List Expr}
def tAnd (t u : TT) : TT := fun σ H Q => t σ H fun c H1 => if c = true then u σ H1 Q else Q false H1
def tOr (t u : TT) : TT := fun σ H Q => t σ H fun c H1 => if c = true then Q true H1 else u σ H1 Q
def tNot (t : TT) : TT := fun σ H Q => t σ H fun c H1 => Q (!c) H1
theorem pw_and1 (ha : PT X a tA) : PW X (.BoolOp .And [a] pos) tA := by
  intro wh pins s σ H Q I h
  refine isTrue_and (thn (ha pins s σ H Q I h) fun c s1 e => ?_)
  cases c with
  | true => exact isTrue_and_nil e
  | false => exact e
theorem pw_or1 (ha : PT X a tA) : PW X (.BoolOp .Or [a] pos) tA := by
  intro wh pins s σ H Q I h
  refine isTrue_or (thn (ha pins s σ H Q I h) fun c s1 e => ?_)
  cases c with
  | false => exact isTrue_or_nil e
  | true => exact e
theorem pw_and (ha : PT X a tA) (hb : PW X (.BoolOp .And (b :: rest) pos) tB') : PW X (.BoolOp .And (a :: b :: rest) pos) (tAnd tA tB') := by
  intro wh pins s σ H Q I h
  refine isTrue_and (thn (ha pins s σ H _ I h) fun c s1 ⟨H1, I1, q1⟩ => ?_)
  cases c with
  | true => exact hb wh pins s1 σ H1 Q I1 q1
  | false => exact ⟨H1, I1, q1⟩
theorem pw_or (ha : PT X a tA) (hb : PW X (.BoolOp .Or (b :: rest) pos) tB') : PW X (.BoolOp .Or (a :: b :: rest) pos) (tOr tA tB') := by
  intro wh pins s σ H Q I h
  refine isTrue_or (thn (ha pins s σ H _ I h) fun c s1 ⟨H1, I1, q1⟩ => ?_)
  cases c with
  | true => exact ⟨H1, I1, q1⟩
  | false => exact hb wh pins s1 σ H1 Q I1 q1
theorem pt_not (ha : PT X a tA) : PT X (.UnaryOp .Not a pos) (tNot tA) := by
  intro pins s σ H Q I h
  exact isTrue_not (ha pins s σ H (fun c H1 => Q (!c) H1) I h)
/-- .. as values (bools) -/
def tAndV (ta tb : TE) : TE := fun σ H Q => ta σ H fun x H1 => ∃ c, x = .bl c ∧ if c = true then tb σ H1 Q else Q (.bl false) H1
def tOrV (ta tb : TE) : TE := fun σ H Q => ta σ H fun x H1 => ∃ c, x = .bl c ∧ if c = true then Q (.bl true) H1 else tb σ H1 Q
def tNotV (ta : TE) : TE := fun σ H Q => ta σ H fun x H1 => ∃ c, x = .bl c ∧ Q (.bl (!c)) H1
theorem pe_one {op} {t : TE} (h : PE X a t) : PE X (.BoolOp op [a] pos) t := fun pins s σ H Q I hw => BoolOp_one (h pins s σ H Q I hw)
theorem pe_and (ha : PE X a ta) (hb : PE X (.BoolOp .And (b :: rest) pos) tb) : PE X (.BoolOp .And (a :: b :: rest) pos) (tAndV ta tb) := by
  intro pins s σ H Q I h
  refine BoolOp_and (thn (ha pins s σ H _ I h) fun v s1 ⟨x, H1, I1, r1, q1⟩ => ?_)
  obtain ⟨c, rfl, q1⟩ := q1
  cases r1
  refine wpAny_truthy_bool ?_
  cases c with
  | true => exact hb pins s1 σ H1 Q I1 q1
  | false => exact ⟨.bl false, H1, I1, rfl, q1⟩
theorem pe_or (ha : PE X a ta) (hb : PE X (.BoolOp .Or (b :: rest) pos) tb) : PE X (.BoolOp .Or (a :: b :: rest) pos) (tOrV ta tb) := by
  intro pins s σ H Q I h
  refine BoolOp_or (thn (ha pins s σ H _ I h) fun v s1 ⟨x, H1, I1, r1, q1⟩ => ?_)
  obtain ⟨c, rfl, q1⟩ := q1
  cases r1
  refine wpAny_truthy_bool ?_
  cases c with
  | false => exact hb pins s1 σ H1 Q I1 q1
  | true => exact ⟨.bl true, H1, I1, rfl, q1⟩
theorem pe_not (ha : PE X a ta) : PE X (.UnaryOp .Not a pos) (tNotV ta) := by
  intro pins s σ H Q I h
  refine UnaryOp_ (thn (ha pins s σ H _ I h) fun v s1 ⟨x, H1, I1, r1, q1⟩ => ?_)
  obtain ⟨c, rfl, q1⟩ := q1
  cases r1
  exact not_of (wpAny_truthy_bool ⟨.bl (!c), H1, I1, rfl, q1⟩)
end
end L2

namespace L2
open PySem PySem.Spec PyProof.Rows

/-! ### a list, a tuple that is read: tracked, frozen, or an object of the module -/
def SqL (K : PySem.W.Frag) (H : Hp) (a : Addr) (xs : List V) : Prop :=
  Rd H a (.lst xs) ∨
    ∃ (o : Obj) (its : Array Value) (n : Nat), K.lookup a = some o ∧ o.cls = .type "list" ∧ o.dict = none ∧ o.data = .seq its n ∧ its.size ≤ sizeLine ∧ Vals xs its.toList
def SqT (K : PySem.W.Frag) (H : Hp) (a : Addr) (xs : List V) : Prop :=
  Rd H a (.tup xs) ∨
    ∃ (o : Obj) (its : Array Value) (n : Nat), K.lookup a = some o ∧ o.cls = .type "tuple" ∧ o.data = .seq its n ∧ its.size ≤ sizeLine ∧ Vals xs its.toList
def absV : Value → Option V
  | .none => some .non
  | .bool b => some (.bl b)
  | .int i _ => some (.int i)
  | .str x _ => some (.str x)
  | .bytes b _ => some (.byt b)
  | .float b _ => some (.flt b)
  | .ref a => some (.ref a)
  | .type n => some (.ty n)
  | _ => none
theorem RelV.abs {x : V} {u : Value} (r : RelV x u) : absV u = some x := by
  cases x with
  | non => cases r; rfl
  | bl _ => cases r; rfl
  | int _ => obtain ⟨t, rfl⟩ := r; rfl
  | str _ => obtain ⟨t, rfl⟩ := r; rfl
  | byt _ => obtain ⟨t, rfl⟩ := r; rfl
  | flt _ => obtain ⟨t, rfl⟩ := r; rfl
  | ref _ => cases r; rfl
  | ty _ => cases r; rfl
theorem RelV.inj {x y : V} {u : Value} (r : RelV x u) (q : RelV y u) : x = y := Option.some.inj (r.abs.symm.trans q.abs)
theorem Vals.inj : ∀ {xs ys : List V} {us : List Value}, Vals xs us → Vals ys us → xs = ys
  | _, _, _, .nil, .nil => rfl
  | _, _, _, .cons r t, .cons r' t' => by rw [r.inj r', Vals.inj t t']
section
variable {X : Cx} {pins : List (Addr × Obj)} {σ : St} {H : Hp} {s : Shared} {a : Addr} {xs ys : List V}
theorem SqL.of {K : PySem.W.Frag} (h : H a = some (.lst xs)) : SqL K H a xs := .inl (.inl h)
theorem SqT.of {K : PySem.W.Frag} (h : H a = some (.tup xs)) : SqT K H a xs := .inl (.inl h)
theorem Inv.list (I : Inv X pins σ H s) (h : SqL X.K H a xs) : ∃ its : List Value, Vals xs its ∧ PlainL s.heap a its.toArray ∧ xs.length ≤ sizeLine := by
  rcases h with h | ⟨o, its, n, hk, hc, hd, hs, hz, r⟩
  · obtain ⟨z, its, n, r, e⟩ := h.ok I.hok
    exact ⟨its, r, ⟨_, n, e, rfl, rfl, rfl⟩, z⟩
  · refine ⟨its.toList, r, ⟨o, n, I.kIn a o hk, hc, hd, by simpa using hs⟩, ?_⟩
    have e := r.length
    simp only [Array.length_toList] at e
    omega
theorem Inv.tuple (I : Inv X pins σ H s) (h : SqT X.K H a xs) : ∃ its : List Value, Vals xs its ∧ IsTup s.heap a its.toArray ∧ xs.length ≤ sizeLine := by
  rcases h with h | ⟨o, its, n, hk, hc, hs, hz, r⟩
  · obtain ⟨z, its, r, p⟩ := h.ok I.hok
    exact ⟨its, r, p, z⟩
  · refine ⟨its.toList, r, ⟨o, I.kIn a o hk, hc, n, by simpa using hs⟩, ?_⟩
    have e := r.length
    simp only [Array.length_toList] at e
    omega
theorem Inv.list_inj (I : Inv X pins σ H s) (h : SqL X.K H a xs) (h' : SqL X.K H a ys) : xs = ys := by
  obtain ⟨its, r, ⟨o, n, e, _, _, d⟩, _⟩ := I.list h
  obtain ⟨its', r', ⟨o', n', e', _, _, d'⟩, _⟩ := I.list h'
  rw [e] at e'; cases e'
  rw [d] at d'
  injection d' with d1 _
  have : its = its' := by simpa using congrArg Array.toList d1
  subst this
  exact r.inj r'
theorem Inv.tuple_inj (I : Inv X pins σ H s) (h : SqT X.K H a xs) (h' : SqT X.K H a ys) : xs = ys := by
  obtain ⟨its, r, ⟨o, e, _, n, d⟩, _⟩ := I.tuple h
  obtain ⟨its', r', ⟨o', e', _, n', d'⟩, _⟩ := I.tuple h'
  rw [e] at e'; cases e'
  rw [d] at d'
  injection d' with d1 _
  have : its = its' := by simpa using congrArg Array.toList d1
  subst this
  exact r.inj r'
end

/-! ### another wish about exceptions -/
abbrev Cx.wish (X : Cx) (E : Value → Shared → Prop) : Cx := { X with xe := E }
/-- no exception leaves -/
abbrev Cx.nox (X : Cx) : Cx := X.wish fun _ _ => False
theorem Cx.Ok.wish {X : Cx} (ok : X.Ok) (E : Value → Shared → Prop) : (X.wish E).Ok :=
  ⟨ok.mod, ok.kind, ok.glob, ok.blt, ok.above, ok.inj, ok.has, ok.cab, ok.hd, ok.frames, ok.stk, ok.exf, ok.bs, ok.bsz, ok.noex, ok.exfs, ok.funs, ok.frf⟩
theorem Cx.Ok.unwish {X : Cx} {E : Value → Shared → Prop} (ok : (X.wish E).Ok) : X.Ok :=
  ⟨ok.mod, ok.kind, ok.glob, ok.blt, ok.above, ok.inj, ok.has, ok.cab, ok.hd, ok.frames, ok.stk, ok.exf, ok.bs, ok.bsz, ok.noex, ok.exfs, ok.funs, ok.frf⟩
section
variable {X : Cx} {pins : List (Addr × Obj)} {σ : St} {H : Hp} {s : Shared} {E : Value → Shared → Prop}
theorem Inv.wish (I : Inv X pins σ H s) (E : Value → Shared → Prop) : Inv (X.wish E) pins σ H s := ⟨I.ok.wish E, I.os, I.bare, I.base, I.loc, I.cell, I.free, I.freeC, I.pin, I.hok, I.len⟩
theorem Inv.unwish (I : Inv (X.wish E) pins σ H s) : Inv X pins σ H s := ⟨I.ok.unwish, I.os, I.bare, I.base, I.loc, I.cell, I.free, I.freeC, I.pin, I.hok, I.len⟩
theorem SP.unwish {D : Ends} {f : Flow} {s' : Shared} (h : SP (X.wish E) pins D f s') : SP X pins D f s' := by
  cases f with
  | next => obtain ⟨σ', H', I, q⟩ := h; exact ⟨σ', H', I.unwish, q⟩
  | brk => obtain ⟨σ', H', I, q⟩ := h; exact ⟨σ', H', I.unwish, q⟩
  | cont => obtain ⟨σ', H', I, q⟩ := h; exact ⟨σ', H', I.unwish, q⟩
  | ret u => obtain ⟨v, σ', H', I, r, q⟩ := h; exact ⟨v, σ', H', I.unwish, r, q⟩
theorem PE.nox {e : Expr} {t : TE} (h : PE X.nox e t) : PE X e t := fun pins s σ H Q I hw =>
  wpAny_mono (h pins s σ H Q (I.wish _) hw) (fun _ _ ⟨v, H', I', r, q⟩ => ⟨v, H', I'.unwish, r, q⟩) fun _ _ z => False.elim z
theorem PT.nox {e : Expr} {t : TT} (h : PT X.nox e t) : PT X e t := fun pins s σ H Q I hw =>
  wpAny_mono (h pins s σ H Q (I.wish _) hw) (fun _ _ ⟨H', I', q⟩ => ⟨H', I'.unwish, q⟩) fun _ _ z => False.elim z
theorem PSs.nox {st : List Stmt} {t : TS} (h : PSs X.nox st t) : PSs X st t := fun pins s σ H D I hw =>
  wpAny_mono (h pins s σ H D (I.wish _) hw) (fun _ _ q => q.unwish) fun _ _ z => False.elim z
end

/-! ### blocks and small statements -/
section
variable {X : Cx} {st : Stmt} {rest : List Stmt} {t u : TS} {e : Expr} {te : TE} {pos : Pos}
def tNext : TS := fun D σ H => D.nx σ H
def tSeq (t u : TS) : TS := fun D σ H => t { D with nx := u D } σ H
theorem pss_nil : PSs X [] tNext := fun _ _ σ H _ I h => wpAny_execs_nil ⟨σ, H, I, h⟩
theorem pss_cons (h1 : PS X st t) (h2 : PSs X rest u) : PSs X (st :: rest) (tSeq t u) := by
  intro pins s σ H D I h
  refine wpAny_execs_cons (thn (h1 pins s σ H { D with nx := u D } I h) fun f s1 q => ?_)
  cases f with
  | next =>
    obtain ⟨σ', H', I', q⟩ := q
    exact h2 pins s1 σ' H' D I' q
  | ret v => exact q
  | brk => exact q
  | cont => exact q
theorem pss_one (h1 : PS X st t) : PSs X [st] t := by
  intro pins s σ H D I h
  refine wpAny_execs_cons (thn (h1 pins s σ H D I h) fun f s1 q => ?_)
  cases f with
  | next => exact wpAny_execs_nil q
  | ret v => exact q
  | brk => exact q
  | cont => exact q
/-- in a def's body nothing is shown -/
theorem Inv.quiet {pins : List (Addr × Obj)} {σ : St} {H : Hp} {s : Shared} (I : Inv X pins σ H s) : interactive X.env = false := by simp [interactive, I.ok.kind]
/-- an expression whose value is dropped -/
def tDrop (te : TE) : TS := fun D σ H => te σ H fun _ H1 => D.nx σ H1
theorem ps_expr (he : PE X e te) (hs : swapsWith e none pos.line X.env = pure false := by rfl) : PS X (.Expr e pos) (tDrop te) := by
  intro pins s σ H D I h
  exact wpAny_Expr_any (thn (he pins s σ H _ I h) fun v s1 ⟨x, H1, I1, r1, q1⟩ => ⟨σ, H1, I1, q1⟩) I.quiet hs
def tRet (te : TE) : TS := fun D σ H => te σ H D.rt
theorem ps_ret (he : PE X e te) : PS X (.Return (some e) pos) (tRet te) := by
  intro pins s σ H D I h
  exact wpAny_Return_some (thn (he pins s σ H _ I h) fun v s1 ⟨x, H1, I1, r1, q1⟩ => ⟨x, σ, H1, I1, r1, q1⟩)
def tIfS (c : TT) (t u : TS) : TS := fun D σ H => c σ H fun b H1 => if b = true then t D σ H1 else u D σ H1
theorem ps_if {c : Expr} {a b : List Stmt} {tc : TT} (hc : PT X c tc) (ha : PSs X a t) (hb : PSs X b u) : PS X (.If c a b pos) (tIfS tc t u) := by
  intro pins s σ H D I h
  refine wpAny_If (thn (hc pins s σ H _ I h) fun d s1 ⟨H1, I1, q1⟩ => ?_)
  cases d with
  | true => exact ha pins s1 σ H1 D I1 q1
  | false => exact hb pins s1 σ H1 D I1 q1
end

/-! ### targets -/
abbrev TG := V → St → Hp → (St → Hp → Prop) → Prop
abbrev TGs := List V → St → Hp → (St → Hp → Prop) → Prop
def PG (X : Cx) (target : Expr) (t : TG) : Prop :=
  ∀ (pins : List (Addr × Obj)) (s : Shared) (σ : St) (H : Hp) (v : V) (u : Value) (Q : St → Hp → Prop), Inv X pins σ H s → RelV v u → t v σ H Q →
    wpAny (model X.prog X.w) X.A (assign target X.env u) (fun _ s' => ∃ σ' H', Inv X pins σ' H' s' ∧ Q σ' H') X.xe s
/-- several targets, one after another -/
def PGs (X : Cx) (ts : List Expr) (t : TGs) : Prop :=
  ∀ (pins : List (Addr × Obj)) (s : Shared) (σ : St) (H : Hp) (vs : List V) (us : List Value) (Q : St → Hp → Prop), Inv X pins σ H s → Vals vs us → t vs σ H Q →
    wpAny (model X.prog X.w) X.A (assignInOrder ((assignEach ts X.env).map (·.2)) us) (fun _ s' => ∃ σ' H', Inv X pins σ' H' s' ∧ Q σ' H') X.xe s
/-- o[i] = v, by values -/
abbrev TSet := V → V → V → Hp → (Hp → Prop) → Prop
def PSet (X : Cx) (t : TSet) : Prop :=
  ∀ (pins : List (Addr × Obj)) (s : Shared) (σ : St) (H : Hp) (o i v : V) (ov iv u : Value) (Q : Hp → Prop), Inv X pins σ H s → RelV o ov → RelV i iv → RelV v u → t o i v H Q →
    wpAny (model X.prog X.w) X.A (setItem ov iv u) (fun _ s' => ∃ H', Inv X pins σ H' s' ∧ Q H') X.xe s
section
variable {X : Cx} {pos : Pos}
def gName (i : Nat) : TG := fun v σ H Q => Q (σ.set i (some v)) H
theorem pg_name {i : Nat} {x : Str} (hN : X.N.Nodup) (hi : X.N[i]? = some x) (hx : Loc X.env.scope x) (hf : X.fn x = true ∨ X.env.scope.names.lookup x = some .local := by first | exact .inl rfl | exact .inr rfl | assumption) : PG X (.Name x pos) (gName i) := by
  intro pins s σ H v u Q I r h
  exact wpAny_assign_Name (store_ok I hN hi hx r (fun s' I' => ⟨_, H, I', h⟩) hf)
def gNil : TGs := fun vs σ H Q => vs = [] ∧ Q σ H
def gCons (t : TG) (u : TGs) : TGs := fun vs σ H Q => ∃ v r, vs = v :: r ∧ t v σ H fun σ' H' => u r σ' H' Q
theorem pgs_nil : PGs X [] gNil := by
  intro pins s σ H vs us Q I r h
  obtain ⟨e, h⟩ := h
  subst e
  cases r
  exact assignInOrder_nil ⟨σ, H, I, h⟩
theorem pgs_cons {e : Expr} {es : List Expr} {t : TG} {u : TGs} (h1 : PG X e t) (h2 : PGs X es u)
    (hs : (assignEach (e :: es) X.env).map (·.2) = assign e X.env :: (assignEach es X.env).map (·.2) := by rfl) : PGs X (e :: es) (gCons t u) := by
  intro pins s σ H vs us Q I r h
  obtain ⟨v, vr, e1, h⟩ := h
  subst e1
  cases r with
  | cons r rr =>
    rw [hs]
    refine assignInOrder_cons (thn (h1 pins s σ H _ _ _ I r h) fun _ s1 ⟨σ1, H1, I1, q1⟩ => ?_)
    exact h2 pins s1 σ1 H1 _ _ Q I1 rr q1
/-- (a, b, ..) = a tuple of that length -/
def gTup (K : PySem.W.Frag) (n : Nat) (t : TGs) : TG := fun v σ H Q => ∃ a xs, v = .ref a ∧ SqT K H a xs ∧ xs.length = n ∧ t xs σ H Q
theorem pg_tup {es : List Expr} {k : Nat} {t : TGs} {n : Nat} (hc : X.calm = true) (h : PGs X es t)
    (hn : (assignEach es X.env).length = n := by rfl) (hst : (assignEach es X.env).findIdx? (·.1) = none := by rfl) : PG X (.Tuple es k pos) (gTup X.K n t) := by
  intro pins s σ H v u Q I r hw
  obtain ⟨a, xs, e1, hq, hl, hw⟩ := hw
  subst e1
  cases r
  obtain ⟨its, rv, ht, hz⟩ := I.tuple hq
  refine assign_Tuple_tuple (I.ok.hd hc) ht (by simp [hn, ← hl, rv.length]) hst fun h' hx => ?_
  have I1 : Inv X pins σ H { s with heap := h' } := I.kept (t' := s.toks) fun b o e => hx b o (Nat.ne_of_lt (Heap.lt_size e)) e
  exact h pins _ σ H xs _ Q I1 (by simpa using rv) hw
/-- o[i] = .. -/
def gSub (to ti : TE) (t : TSet) : TG := fun v σ H Q => to σ H fun o H1 => ti σ H1 fun i H2 => t o i v H2 fun H3 => Q σ H3
theorem pg_sub {o i : Expr} {to ti : TE} {t : TSet} (ho : PE X o to) (hi : PE X i ti) (hs : PSet X t)
    (ha : ∀ v, assign (.Subscript o i pos) X.env v = (do
      let ov ← holding [v] (eval o X.env)
      let iv ← holding [v, ov] (eval i X.env)
      standAt pos
      holding [v, ov, iv] (setItem ov iv v)
      release [v, ov, iv] []) := by intro _; rfl) : PG X (.Subscript o i pos) (gSub to ti t) := by
  intro pins s σ H v u Q I r h
  rw [ha]
  refine wpAny_bind (wpAny_holding (thn (ho pins s σ H _ I h) fun ov s1 ⟨x, H1, I1, r1, q1⟩ => ?_))
  refine wpAny_bind (wpAny_holding (thn (hi pins s1 σ H1 _ I1 q1) fun iv s2 ⟨y, H2, I2, r2, q2⟩ => ?_))
  refine wpAny_bind (wpAny_standAt (wpAny_bind (wpAny_holding (thn (hs pins s2 σ H2 x y v ov iv u _ I2 r1 r2 r q2) fun _ s3 ⟨H3, I3, q3⟩ => ?_))))
  exact wpAny_release ⟨σ, H3, I3, q3⟩
/-- target = value -/
def tAsg (te : TE) (g : TG) : TS := fun D σ H => te σ H fun x H1 => g x σ H1 D.nx
theorem ps_asg {tg e : Expr} {te : TE} {g : TG} (he : PE X e te) (hg : PG X tg g) (hs : swapsWithSole [tg] e pos.line X.env = pure false := by rfl) (hw : swappedStores [tg] e X.env = pure none := by rfl)
    (h1 : (assignEach [tg] X.env).map (·.2) = [assign tg X.env] := by rfl) : PS X (.Assign [tg] e pos) (tAsg te g) := by
  intro pins s σ H D I h
  refine wpAny_Assign_stores (thn (he pins s σ H _ I h) fun v s1 ⟨x, H1, I1, r1, q1⟩ => ?_) hs hw
  rw [h1]
  exact thn (hg pins s1 σ H1 x v _ I1 r1 q1) fun _ s2 q => q
/-- name = value -/
theorem ps_set {i : Nat} {x : Str} {e : Expr} {te : TE} {pos' : Pos} (hN : X.N.Nodup) (hi : X.N[i]? = some x) (hx : Loc X.env.scope x) (he : PE X e te) (hs : swapsWith e (some (.Name x pos')) pos.line X.env = pure false := by rfl) (hf : X.fn x = true ∨ X.env.scope.names.lookup x = some .local := by first | exact .inl rfl | exact .inr rfl | assumption) :
    PS X (.Assign [.Name x pos'] e pos) (tAsg te (gName i)) := by
  intro pins s σ H D I h
  refine wpAny_Assign_Name (thn (he pins s σ H _ I h) fun v s1 ⟨y, H1, I1, r1, q1⟩ => ?_) hs
  exact store_ok I1 hN hi hx r1 (fun s2 I2 => ⟨_, H1, I2, q1⟩) hf
/-- a, b = x, y with plain local names: stored from the right; the pair itself is not tracked (the opening rows as in PyProof/Rows/TupAssign.lean:23) -/
def tPar (i j : Nat) (ta : TA) : TS := fun D σ H => ta σ H fun vs H1 => ∃ v w, vs = [v, w] ∧ D.nx ((σ.set i (some v)).set j (some w)) H1
theorem ps_par {i j : Nat} {x y : Str} {a b : Expr} {ta : TA} {px py pt : Pos} {kt k2 pt2} (hc : X.calm = true) (hN : X.N.Nodup) (hi : X.N[i]? = some x) (hj : X.N[j]? = some y) (hij : i ≠ j)
    (hx : X.env.scope.names.lookup x = some .local) (hy : X.env.scope.names.lookup y = some .local) (ha : PA X [a, b] ta)
    (hw : swappedStores [.Tuple [.Name x px, .Name y py] kt pt] (.Tuple [a, b] k2 pt2) X.env = pure (some [x, y]))
    (hs : swapsWithSole [.Tuple [.Name x px, .Name y py] kt pt] (.Tuple [a, b] k2 pt2) pos.line X.env = pure false := by rfl) :
    PS X (.Assign [.Tuple [.Name x px, .Name y py] kt pt] (.Tuple [a, b] k2 pt2) pos) (tPar i j ta) := by
  intro pins s σ H D I h
  rw [exec_Assign_arm]
  refine wpAny_bind (wpAny_standAt ?_)
  rw [hs]
  refine wpAny_bind (wpAny_pure ?_)
  rw [if_neg (by decide)]
  refine wpAny_bind (Tuple_ (thn (ha _ pins s σ H _ I h) fun us s1 ⟨vs, H1, I1, r1, q1⟩ => ?_))
  obtain ⟨v, w, e1, q1⟩ := q1
  subst e1
  obtain ⟨u1, u2, rfl, rv, rw'⟩ : ∃ u1 u2, us = [u1, u2] ∧ RelV v u1 ∧ RelV w u2 := by
    cases r1 with
    | cons p q =>
      cases q with
      | cons p' q' =>
        cases q'
        exact ⟨_, _, rfl, p, p'⟩
  refine wpAny_newObj_type ?_ (by show 2 ≤ sizeLine; decide)
  have I2 : Inv X pins σ H1 { s1 with heap := s1.heap.push { cls := .type "tuple", data := .seq [u1, u2].toArray } } := I1.kept (t' := s1.toks) fun b o e => Heap.get?_push_of_some _ e
  rw [hw]
  refine wpAny_bind (wpAny_pure ?_)
  show wpAny (model X.prog X.w) X.A (do rule "assign.swapped-stores"; let items ← unpackItems (.ref s1.heap.objs.size) 2 none; assignInOrder [fun v => bindName X.env y v, fun v => bindName X.env x v] items.reverse; pure Flow.next) _ _ _
  refine wpAny_bind (wpAny_rule (wpAny_bind (unpackItems_tuple (items := #[u1, u2]) (I.ok.hd hc) (IsTup.new s1.heap _) fun h' hx' => ?_)))
  have I3 := I2.kept (h' := h') (t' := s1.toks) fun b o e => hx' b o (Nat.ne_of_lt (Heap.lt_size e)) e
  show wpAny _ _ (assignInOrder [fun v => bindName X.env y v, fun v => bindName X.env x v] [u2, u1] >>= fun _ => pure Flow.next) _ _ _
  refine wpAny_bind (assignInOrder_cons (wpAny_bindName (store_ok I3 hN hj (.inl hy) rw' (fun s2 I4 => ?_) (.inr hy))))
  refine assignInOrder_cons (wpAny_bindName (store_ok I4 hN hi (.inl hx) rv (fun s3 I5 => assignInOrder_nil (wpAny_pure ?_)) (.inr hx)))
  rw [List.set_comm _ _ (Ne.symm hij)] at I5
  exact ⟨_, H1, I5, q1⟩
end

/-! ### while -/
section
variable {X : Cx} {pos : Pos}
/-- the invariant W with its measure -/
def tWhile (c : TT) (tb : TS) : TS := fun D σ H => ∃ W : Nat → St → Hp → Prop, (∃ m, W m σ H) ∧ ∀ m σ H, W m σ H →
  c σ H fun b H1 => if b = true then ∃ N : St → Hp → Prop, (∀ σ' H', N σ' H' → ∃ m', m' < m ∧ W m' σ' H') ∧ tb { D with nx := N, ct := N, bk := D.nx } σ H1 else D.nx σ H1
theorem ps_while {c : Expr} {body : List Stmt} {tc : TT} {tb : TS} (hp : PassesOwn (model X.prog X.w) X.A X.env X.xe) (hc : PT X c tc) (hb : PSs X body tb) : PS X (.While c body [] pos) (tWhile tc tb) := by
  intro pins s σ H D I h
  obtain ⟨W, ⟨m0, w0⟩, turn⟩ := h
  refine wpAny_While (codeAny_whileLoop (fun n s' => ∃ σ' H', Inv X pins σ' H' s' ∧ W n σ' H') ?_ m0 ⟨σ, H, I, w0⟩)
  rintro n s1 ⟨σ1, H1, I1, w1⟩
  refine wpAny_passesOwn hp (thn (hc pins s1 σ1 H1 _ I1 (turn n σ1 H1 w1)) fun b s2 ⟨H2, I2, q2⟩ => ?_)
  cases b with
  | true =>
    obtain ⟨N, hN, q2⟩ := q2
    rw [if_pos rfl]
    refine wpAny_passesOwn hp (thn (hb pins s2 σ1 H2 _ I2 q2) fun f s3 q3 => ?_)
    cases f with
    | next =>
      obtain ⟨σ3, H3, I3, n3⟩ := q3
      obtain ⟨m', hm, w3⟩ := hN σ3 H3 n3
      exact ⟨m', hm, σ3, H3, I3, w3⟩
    | cont =>
      obtain ⟨σ3, H3, I3, n3⟩ := q3
      obtain ⟨m', hm, w3⟩ := hN σ3 H3 n3
      exact ⟨m', hm, σ3, H3, I3, w3⟩
    | brk => exact q3
    | ret v => exact q3
  | false =>
    rw [if_neg Bool.false_ne_true]
    exact wpAny_execs_nil ⟨σ1, H2, I2, q2⟩
end

/-! ### what a loop or a comprehension walks -/
/-- at turn i: it yields x (the heap may grow), or it stops -/
structure It where
  go : Nat → Hp → Prop
  yld : Nat → Hp → V → Hp → Prop
  stop : Nat → Hp → Prop
/-- the iterator's own objects may turn: they are not the frame's, not pinned, younger than the entry (or a comprehension's own) -/
def FpOk (X : Cx) (pins : List (Addr × Obj)) (H : Hp) (b : Addr) : Prop :=
  H b = none ∧ b ≠ X.env.locals ∧ b ∉ X.fs ∧ (b ∈ X.ex ∨ X.s₀.heap.objs.size ≤ b) ∧ (∀ x c, X.env.cells.lookup x = some c → c ≠ b) ∧ ∀ p ∈ X.pn ++ pins, p.1 ≠ b
theorem Inv.fpOk {X : Cx} {pins : List (Addr × Obj)} {σ : St} {H H' : Hp} {s : Shared} {b : Addr} (I : Inv X pins σ H s) (hb : s.heap.objs.size ≤ b) (hn : H' b = none) : FpOk X pins H' b := by
  refine ⟨hn, Nat.ne_of_gt (Nat.lt_of_lt_of_le I.lt hb), I.nofs hb, .inr (Nat.le_trans I.sz hb), fun x c e z => ?_, fun p hp z => ?_⟩
  · obtain ⟨v, q⟩ := I.cell x c e
    exact absurd (Nat.lt_of_lt_of_le q.lt (by rw [z]; exact hb)) (Nat.lt_irrefl _)
  · exact absurd (Nat.lt_of_lt_of_le (Heap.lt_size (I.pin p hp).1) (by rw [z]; exact hb)) (Nat.lt_irrefl _)
structure Turn (P : Program) (w : World) (K : PySem.W.Frag) (tg : Expr) (J : It) (fp : List Addr) (it : Addr) (tn : Nat → Heap → Prop) : Prop where
  mem : it ∈ fp
  obj : ∀ i h, tn i h → ∀ b ∈ fp, ∃ o, h.get? b = some o ∧ ∀ v, o.data ≠ .cell v
  keep : ∀ i h h', tn i h → (∀ b ∈ fp, ∀ o, h.get? b = some o → h'.get? b = some o) → tn i h'
  item : ∀ (X : Cx), X.prog = P → X.w = w → X.K = K → X.calm = true → ∀ (i : Nat) (pins : List (Addr × Obj)) (s : Shared) (σ : St) (H : Hp) (E : Value → Shared → Prop), Inv X pins σ H s → (∀ b ∈ fp, FpOk X pins H b) → tn i s.heap → J.go i H →
    wpAny (model P w) X.A (pyNext (.ref it)) (fun r s1 => ∃ u, r = some u ∧
      wpAny (model P w) X.A (letOwnedTupleGo tg (.ref it) u) (fun _ s2 => ∃ x H', Inv X pins σ H' s2 ∧ RelV x u ∧ J.yld i H x H' ∧ tn (i + 1) s2.heap ∧ ∀ b ∈ fp, H' b = none) E s1) E s
  done : ∀ (X : Cx), X.prog = P → X.w = w → X.K = K → X.calm = true → ∀ (i : Nat) (pins : List (Addr × Obj)) (s : Shared) (σ : St) (H : Hp) (E : Value → Shared → Prop), Inv X pins σ H s → (∀ b ∈ fp, FpOk X pins H b) → tn i s.heap → J.stop i H →
    wpAny (model P w) X.A (pyNext (.ref it)) (fun r s1 => r = none ∧ Inv X pins σ H s1) E s
  self : ∀ (A : Around) (i : Nat) (s : Shared) (Q : Value → Shared → Prop) (E : Value → Shared → Prop), tn i s.heap → Q (.ref it) s → wpAny (model P w) A (pyIter (.ref it)) Q E s
abbrev TI := St → Hp → (It → Hp → Prop) → Prop
/-- an iterator has come -/
def PIE (X : Cx) (pins : List (Addr × Obj)) (σ : St) (tg : Expr) (R : It → Hp → Prop) (itv : Value) (s2 : Shared) : Prop :=
  ∃ (it : Addr) (fp : List Addr) (tn : Nat → Heap → Prop) (J : It) (H' : Hp), itv = .ref it ∧ Inv X pins σ H' s2 ∧ Turn X.prog X.w X.K tg J fp it tn ∧ tn 0 s2.heap ∧ (∀ b ∈ fp, FpOk X pins H' b) ∧ R J H'
def PI (X : Cx) (tg iter : Expr) (wi : TI) : Prop :=
  ∀ (pins : List (Addr × Obj)) (s : Shared) (σ : St) (H : Hp) (R : It → Hp → Prop), Inv X pins σ H s → wi σ H R →
    wpAny (model X.prog X.w) X.A (eval iter X.env) (fun v s1 => wpAny (model X.prog X.w) X.A (pyIter v) (PIE X pins σ tg R) X.xe s1) X.xe s

/-- the step ahead of the store is nothing for an iterator that keeps no tuple -/
theorem go_of {M : Model} {A : Around} {E : Value → Shared → Prop} {s : Shared} {tg : Expr} {it : Addr} {u : Value} {o : Obj} {n : String} {vs : Array Value} {Q : Unit → Shared → Prop} (ho : s.heap.get? it = some o) (hc : o.cls = .type n) (hd : o.data = .fields vs)
    (hn : ["enumerate", "zip", "dict_itemiterator", "dict_reverseitemiterator", "odict_iterator", "itertools.zip_longest", "itertools.pairwise"].contains n = false) (hQ : Q () s) : wpAny M A (letOwnedTupleGo tg (.ref it) u) Q E s := by
  unfold letOwnedTupleGo
  cases tg <;> first
    | exact wpAny_pure hQ
    | (cases u <;> first
        | exact wpAny_pure hQ
        | (refine wpAny_bind (wpAny_load ho ?_)
           rw [hc, hd]
           show wpAny M A (if (["enumerate", "zip", "dict_itemiterator", "dict_reverseitemiterator", "odict_iterator", "itertools.zip_longest", "itertools.pairwise"].contains n && vs[0]? == some (rawInt _)) = true then _ else _) Q E s
           rw [if_neg (by intro h; rw [hn, Bool.false_and] at h; cases h)]
           exact wpAny_pure hQ))

/-- the list at a, as it stands at each turn (a loop may append to it) -/
def Itl (K : PySem.W.Frag) (a : Addr) : It :=
  ⟨fun i H => ∃ xs x, SqL K H a xs ∧ xs[i]? = some x, fun i H x H' => H' = H ∧ ∀ xs, SqL K H a xs → xs[i]? = some x, fun i H => ∃ xs, SqL K H a xs ∧ xs.length ≤ i⟩
def Itt (K : PySem.W.Frag) (a : Addr) : It :=
  ⟨fun i H => ∃ xs x, SqT K H a xs ∧ xs[i]? = some x, fun i H x H' => H' = H ∧ ∀ xs, SqT K H a xs → xs[i]? = some x, fun i H => ∃ xs, SqT K H a xs ∧ xs.length ≤ i⟩
/-- lo, lo + 1, .. (n of them) -/
def Itr (lo : Int) (n : Nat) : It := ⟨fun i _ => i < n, fun i H x H' => H' = H ∧ x = .int (lo + i), fun i _ => n ≤ i⟩
theorem turn_list {P : Program} {w : World} {K : PySem.W.Frag} {tg : Expr} (a it : Addr) : Turn P w K tg (Itl K a) [it] it (fun i h => h.IsListIter it a i) where
  mem := by simp
  obj := fun i h st b hb => by
    have e : b = it := by simpa using hb
    subst e
    obtain ⟨o, e, c, d⟩ := st
    exact ⟨o, e, fun v z => by rw [d] at z; cases z⟩
  keep := fun i h h' st k => st.at fun o e => k it (by simp) o e
  item := by
    intro X hP hw hK hc i pins s σ H E I hf st hg
    subst hP hw hK
    obtain ⟨xs, x, hq, hx⟩ := hg
    obtain ⟨its, rv, p, hz⟩ := I.list hq
    obtain ⟨u, hu, ru⟩ := rv.get hx
    obtain ⟨f0, f1, f2, f3, f4, f5⟩ := hf it (by simp)
    refine wpAny_pyNext_list_item st p.isList (x := u) (by simpa using hu) fun h' st' sb => ?_
    have I1 : Inv X pins σ H { s with heap := h' } := I.turned (t' := s.toks) (fun b o hb e => (sb.2 b hb).trans e) f0 f1 f3 f4 f5
    obtain ⟨o, e, c, d⟩ := id st'
    exact ⟨u, rfl, go_of (s := { s with heap := h' }) e c d (by decide) ⟨x, H, I1, ru, ⟨rfl, fun ys hy => by rw [I.list_inj hy hq]; exact hx⟩, st', fun b hb => (hf b hb).1⟩⟩
  done := by
    intro X hP hw hK hc i pins s σ H E I hf st hg
    subst hP hw hK
    obtain ⟨xs, hq, hx⟩ := hg
    obtain ⟨its, rv, p, hz⟩ := I.list hq
    obtain ⟨f0, f1, f2, f3, f4, f5⟩ := hf it (by simp)
    have hl := rv.length
    exact wpAny_pyNext_list_end (I.ok.hd hc) st p.isList (by simp; omega) fun h' eb => ⟨rfl, I.turned (t' := s.toks) (fun b o hb e => eb b o hb e) f0 f1 f3 f4 f5⟩
  self := fun _ _ _ _ _ st h => wpAny_pyIter_listiter st h
theorem turn_tuple {P : Program} {w : World} {K : PySem.W.Frag} {tg : Expr} (a it : Addr) : Turn P w K tg (Itt K a) [it] it (fun i h => h.IsTupleIter it a i) where
  mem := by simp
  obj := fun i h st b hb => by
    have e : b = it := by simpa using hb
    subst e
    obtain ⟨o, e, c, d⟩ := st
    exact ⟨o, e, fun v z => by rw [d] at z; cases z⟩
  keep := fun i h h' st k => st.at fun o e => k it (by simp) o e
  item := by
    intro X hP hw hK hc i pins s σ H E I hf st hg
    subst hP hw hK
    obtain ⟨xs, x, hq, hx⟩ := hg
    obtain ⟨its, rv, p, hz⟩ := I.tuple hq
    obtain ⟨u, hu, ru⟩ := rv.get hx
    obtain ⟨f0, f1, f2, f3, f4, f5⟩ := hf it (by simp)
    refine wpAny_pyNext_tuple_item st (show s.heap.IsTuple a its.toArray from p) (x := u) (by simpa using hu) fun h' st' sb => ?_
    have I1 : Inv X pins σ H { s with heap := h' } := I.turned (t' := s.toks) (fun b o hb e => (sb.2 b hb).trans e) f0 f1 f3 f4 f5
    obtain ⟨o, e, c, d⟩ := id st'
    exact ⟨u, rfl, go_of (s := { s with heap := h' }) e c d (by decide) ⟨x, H, I1, ru, ⟨rfl, fun ys hy => by rw [I.tuple_inj hy hq]; exact hx⟩, st', fun b hb => (hf b hb).1⟩⟩
  done := by
    intro X hP hw hK hc i pins s σ H E I hf st hg
    subst hP hw hK
    obtain ⟨xs, hq, hx⟩ := hg
    obtain ⟨its, rv, p, hz⟩ := I.tuple hq
    obtain ⟨f0, f1, f2, f3, f4, f5⟩ := hf it (by simp)
    have hl := rv.length
    exact wpAny_pyNext_tuple_end (I.ok.hd hc) st (show s.heap.IsTuple a its.toArray from p) (by simp; omega) fun h' eb => ⟨rfl, I.turned (t' := s.toks) (fun b o hb e => eb b o hb e) f0 f1 f3 f4 f5⟩
  self := fun _ _ _ _ _ st h => wpAny_pyIter_tupleiter st h
theorem turn_range {P : Program} {w : World} {K : PySem.W.Frag} {tg : Expr} (it : Addr) (lo : Int) (n : Nat) : Turn P w K tg (Itr lo n) [it] it (fun i h => IsRangeIter h it (lo + (i : Nat) * 1) ((n : Int) - (i : Nat)) 1) where
  mem := by simp
  obj := fun i h st b hb => by
    have e : b = it := by simpa using hb
    subst e
    exact ⟨_, st, fun v z => by
      have z' : Data.fields _ = Data.cell v := z
      cases z'⟩
  keep := fun i h h' st k => k it (by simp) _ st
  item := by
    intro X hP hw hK hc i pins s σ H E I hf st hg
    subst hP hw hK
    obtain ⟨f0, f1, f2, f3, f4, f5⟩ := hf it (by simp)
    have W := Walks.range (prog := X.prog) (w := X.w) (I.ok.hd hc) it lo 1 n
    refine W.item i s _ _ hg st fun v h' tk hv st' kk => ?_
    obtain ⟨t, rfl⟩ := hv
    have I1 : Inv X pins σ H { s with heap := h', toks := tk } := I.turned (fun b o hb e => kk b o (by simpa using hb) e) f0 f1 f3 f4 f5
    refine ⟨_, rfl, go_of (s := { s with heap := h', toks := tk }) (n := "range_iterator") st' rfl rfl (by decide) ⟨.int (lo + i), H, I1, ⟨t, ?_⟩, ⟨rfl, rfl⟩, st', fun b hb => (hf b hb).1⟩⟩
    rw [Int.mul_one]
  done := by
    intro X hP hw hK hc i pins s σ H E I hf st hg
    subst hP hw hK
    obtain ⟨f0, f1, f2, f3, f4, f5⟩ := hf it (by simp)
    exact wpAny_pyNext_range_end (I.ok.hd hc) st (by have : n ≤ i := hg; omega) fun h' eb => ⟨rfl, I.turned (t' := s.toks) (fun b o hb e => eb b o hb e) f0 f1 f3 f4 f5⟩
  self := fun _ _ _ _ _ st h => wpAny_pyIter_rangeiter st h
end L2

namespace L2
open PySem PySem.Spec PyProof.Rows
section
variable {X : Cx} {tg : Expr}
/-- a range object just made, walked -/
theorem range_it {pins : List (Addr × Obj)} {σ : St} {H : Hp} {s : Shared} {R : It → Hp → Prop} {E : Value → Shared → Prop} {lo hi : Int} {t u v : Tok} {tk : Nat} (I : Inv X pins σ H s) (h1 : -(2 ^ 62) ≤ lo) (h2 : lo < 2 ^ 62) (h3 : -(2 ^ 62) ≤ hi) (h4 : hi < 2 ^ 62)
    (q : R (Itr lo (hi - lo).toNat) H) : wpAny (model X.prog X.w) X.A (pyIter (.ref s.heap.objs.size)) (PIE X pins σ tg R) E { s with heap := s.heap.push { cls := .type "range", data := .fields #[.int lo t, .int hi u, .int 1 v] }, toks := tk } := by
  refine wpAny_pyIter_range (IsRange.new ..) (small_one h1 h2 h3 h4) ?_
  have I1 : Inv X pins σ H { s with heap := s.heap.push { cls := .type "range", data := .fields #[.int lo t, .int hi u, .int 1 v] }, toks := tk } := I.kept fun b o e => Heap.get?_push_of_some _ e
  refine ⟨(s.heap.push { cls := .type "range", data := .fields #[.int lo t, .int hi u, .int 1 v] }).objs.size, [(s.heap.push { cls := .type "range", data := .fields #[.int lo t, .int hi u, .int 1 v] }).objs.size], _, _, H, rfl,
    I1.kept (t' := tk) fun b o e => Heap.get?_push_of_some _ e, turn_range _ lo (hi - lo).toNat, ?_, fun b hb => ?_, q⟩
  · have e1 : lo + ((0 : Nat) : Int) * 1 = lo := by simp
    have e2 : (((hi - lo).toNat : Nat) : Int) - ((0 : Nat) : Int) = Builtin.Range.rangeSize lo hi 1 := by rw [rangeSize_one]; split <;> omega
    show IsRangeIter _ _ (lo + ((0 : Nat) : Int) * 1) ((((hi - lo).toNat : Nat) : Int) - ((0 : Nat) : Int)) 1
    rw [e1, e2]
    exact Heap.get?_push_size _ rfl
  · have e : b = (s.heap.push { cls := .type "range", data := .fields #[.int lo t, .int hi u, .int 1 v] }).objs.size := by simpa using hb
    subst e
    exact I1.fpOk (Nat.le_refl _) (I1.hok.fresh (Nat.le_refl _))
def iRng1 (ta : TA) : TI := fun σ H R => ta σ H fun vs H1 => ∃ j : Int, vs = [.int j] ∧ -(2 ^ 62) ≤ j ∧ j < 2 ^ 62 ∧ R (Itr 0 j.toNat) H1
theorem pi_range1 {a : Expr} {ta : TA} {p pos : Pos} (hg : Gl X "range") (hm : X.mg "range" = none) (ha : PA X [a] ta) (hs : starEach [a] X.env = [(false, eval a X.env)] := by rfl) : PI X tg (.Call (.Name "range" p) [a] [] pos) (iRng1 ta) := by
  intro pins s σ H R I h
  refine Call_ (ld_blt I hg hm boot_range (PyProof.Rows.callWith_type1 (thn (ha pos pins s σ H _ I h) fun us s1 ⟨vs, H1, I1, r1, q1⟩ => ?_) hs rfl))
  obtain ⟨j, e, q1, q2, q⟩ := q1
  subst e
  cases r1 with
  | cons r rr =>
    cases rr
    obtain ⟨t, rfl⟩ := r
    exact call_range_1 (range_it I1 (by omega) (by omega) q1 q2 (by simpa using q))

/-! ### for -/
/-- W: the invariant by the turn and a measure; N: what the body is to reach -/
def tFor (wi : TI) (g : TG) (tb : TS) : TS := fun D σ H => wi σ H fun J H1 => ∃ W : Nat → Nat → St → Hp → Prop, (∃ m, W 0 m σ H1) ∧ ∀ i m σ H, W i m σ H →
  (J.stop i H ∧ D.nx σ H) ∨ (J.go i H ∧ ∃ N : St → Hp → Prop, (∀ σ' H', N σ' H' → ∃ m', m' < m ∧ W (i + 1) m' σ' H') ∧ ∀ x H', J.yld i H x H' → g x σ H' fun σ2 H2 => tb { D with nx := N, ct := N, bk := D.nx } σ2 H2)
/-- the records at fp as they stand -/
def pinsAt (fp : List Addr) (h : Heap) : List (Addr × Obj) := fp.filterMap fun b => (h.get? b).map fun o => (b, o)
theorem mem_pinsAt {fp : List Addr} {h : Heap} {b : Addr} {o : Obj} (hb : b ∈ fp) (e : h.get? b = some o) : (b, o) ∈ pinsAt fp h := List.mem_filterMap.mpr ⟨b, hb, by rw [e]; rfl⟩
theorem of_pinsAt {fp : List Addr} {h : Heap} {p : Addr × Obj} (hp : p ∈ pinsAt fp h) : p.1 ∈ fp ∧ h.get? p.1 = some p.2 := by
  obtain ⟨b, hb, e⟩ := List.mem_filterMap.mp hp
  cases q : h.get? b with
  | none => rw [q] at e; cases e
  | some o =>
    rw [q] at e
    have e' : (b, o) = p := Option.some.inj e
    subst e'
    exact ⟨hb, q⟩
theorem Inv.pinned {pins : List (Addr × Obj)} {σ : St} {H : Hp} {s : Shared} {fp : List Addr} (I : Inv X pins σ H s) (hf : ∀ b ∈ fp, FpOk X pins H b) (ho : ∀ b ∈ fp, ∃ o, s.heap.get? b = some o ∧ ∀ v, o.data ≠ .cell v) : Inv X (pins ++ pinsAt fp s.heap) σ H s :=
  I.pins_of fun p hp => (List.mem_append.mp hp).elim (fun z => I.pin p (List.mem_append_right _ z)) fun z => by
    obtain ⟨hb, e⟩ := of_pinsAt z
    obtain ⟨f0, f1, f2, _⟩ := hf p.1 hb
    obtain ⟨o, e', d⟩ := ho p.1 hb
    rw [e] at e'; cases e'
    exact ⟨e, f0, f1, f2, d⟩
theorem Inv.unpinned {pins pl : List (Addr × Obj)} {σ : St} {H : Hp} {s : Shared} (I : Inv X (pins ++ pl) σ H s) : Inv X pins σ H s := I.pins_of fun p hp => I.pin p (List.mem_append_right _ (List.mem_append_left _ hp))
theorem ps_for {iter : Expr} {body : List Stmt} {wi : TI} {g : TG} {tb : TS} {pos : Pos} (hp : PassesOwn (model X.prog X.w) X.A X.env X.xe) (hc : X.calm = true) (hi : PI X tg iter wi) (hg : PG X tg g) (hb : PSs X body tb)
    (hs : ∀ x, foldedSetIterable iter X.env x = pure x := by intro _; rfl) : PS X (.For tg iter body [] pos) (tFor wi g tb) := by
  intro pins s σ H D I h
  refine wpAny_For (thn (hi pins s σ H _ I h) fun v s1 h1 => thn h1 fun itv s2 h2 => ?_) hs
  obtain ⟨it, fp, tn, J, H2, e, I2, T, st2, f2, W, ⟨m0, w0⟩, turn⟩ := h2
  subst e
  -- what stays true of the iterator's objects through the loop
  have stat : ∀ {H' : Hp}, (∀ b ∈ fp, H' b = none) → ∀ b ∈ fp, FpOk X pins H' b := fun hn b hb => ⟨hn b hb, (f2 b hb).2⟩
  refine codeAny_forLoop_any (fun n s' => ∃ i σ' H', Inv X pins σ' H' s' ∧ tn i s'.heap ∧ (∀ b ∈ fp, H' b = none) ∧ W i n σ' H') ?_ m0 ⟨0, σ, H2, I2, st2, fun b hb => (f2 b hb).1, w0⟩
  rintro n s3 ⟨i, σ3, H3, I3, st3, fr3, w3⟩
  rcases turn i n σ3 H3 w3 with ⟨stop, qn⟩ | ⟨go, N, hN, step⟩
  · refine wpAny_passesOwn hp (thn (T.done X rfl rfl rfl hc i pins s3 σ3 H3 X.xe I3 (stat fr3) st3 stop) fun r s4 ⟨hr, I4⟩ => ?_)
    subst hr
    exact wpAny_execs_nil ⟨σ3, H3, I4, qn⟩
  · refine wpAny_passesOwn hp (thn (T.item X rfl rfl rfl hc i pins s3 σ3 H3 X.xe I3 (stat fr3) st3 go) fun r s4 ⟨u, hr, h4⟩ => ?_)
    subst hr
    refine wpAny_passesOwn hp (thn h4 fun _ s5 ⟨x, H5, I5, r5, y5, st5, fr5⟩ => ?_)
    have I5' := I5.pinned (stat fr5) (T.obj _ _ st5)
    refine wpAny_passesOwn hp (thn (hg _ s5 σ3 H5 x u _ I5' r5 (step x H5 y5)) fun _ s6 ⟨σ6, H6, I6, q6⟩ => ?_)
    refine wpAny_passesOwn hp (thn (hb _ s6 σ6 H6 _ I6 q6) fun f s7 q7 => ?_)
    have again : ∀ {σ7 : St} {H7 : Hp}, Inv X (pins ++ pinsAt fp s5.heap) σ7 H7 s7 → N σ7 H7 → ∃ m, m < n ∧ ∃ i σ' H', Inv X pins σ' H' s7 ∧ tn i s7.heap ∧ (∀ b ∈ fp, H' b = none) ∧ W i m σ' H' := fun {σ7 H7} I7 n7 => by
      obtain ⟨m', hm, w7⟩ := hN σ7 H7 n7
      refine ⟨m', hm, i + 1, σ7, H7, I7.unpinned, T.keep _ _ _ st5 fun b hb o e => (I7.pin (b, o) (List.mem_append_right _ (List.mem_append_right _ (mem_pinsAt hb e)))).1, fun b hb => ?_, w7⟩
      obtain ⟨o, e, d⟩ := T.obj _ _ st5 b hb
      exact (I7.pin (b, o) (List.mem_append_right _ (List.mem_append_right _ (mem_pinsAt hb e)))).2.1
    cases f with
    | next => obtain ⟨σ7, H7, I7, n7⟩ := q7; exact again I7 n7
    | cont => obtain ⟨σ7, H7, I7, n7⟩ := q7; exact again I7 n7
    | brk => obtain ⟨σ7, H7, I7, q7⟩ := q7; exact ⟨σ7, H7, I7.unpinned, q7⟩
    | ret v => obtain ⟨x7, σ7, H7, I7, r7, q7⟩ := q7; exact ⟨x7, σ7, H7, I7.unpinned, r7, q7⟩
end

/-! ### the forms one uses -/
end L2

namespace L2
open PySem PySem.Spec PyProof.Rows

abbrev R2 := V → V → Hp → VK → Prop
/-- a two-place operation on values: f is binaryOp op, inplaceOp op or compareOp op -/
def OpR (X : Cx) (f : Value → Value → Sem Value) (r : R2) : Prop :=
  ∀ (pins : List (Addr × Obj)) (s : Shared) (σ : St) (H : Hp) (x y : V) (v u : Value) (Q : VK), Inv X pins σ H s → RelV x v → RelV y u → r x y H Q →
    wpAny (model X.prog X.w) X.A (f v u) (EP X pins σ Q) X.xe s
/-- a one-place operation -/
def UnR (X : Cx) (f : Value → Sem Value) (r : V → Hp → VK → Prop) : Prop :=
  ∀ (pins : List (Addr × Obj)) (s : Shared) (σ : St) (H : Hp) (x : V) (v : Value) (Q : VK), Inv X pins σ H s → RelV x v → r x H Q →
    wpAny (model X.prog X.w) X.A (f v) (EP X pins σ Q) X.xe s
/-- a call of a value that is known (a builtin, a type) with values -/
def CallR (X : Cx) (f : Value) (r : List V → Hp → VK → Prop) : Prop :=
  ∀ (pins : List (Addr × Obj)) (s : Shared) (σ : St) (H : Hp) (xs : List V) (us : List Value) (Q : VK), Inv X pins σ H s → Vals xs us → r xs H Q →
    wpAny (model X.prog X.w) X.A (call f us) (EP X pins σ Q) X.xe s

def tOp (r : R2) (ta tb : TE) : TE := fun σ H Q => ta σ H fun x H1 => tb σ H1 fun y H2 => r x y H2 Q
def tUn (r : V → Hp → VK → Prop) (ta : TE) : TE := fun σ H Q => ta σ H fun x H1 => r x H1 Q
/-- ints in, under C, and a value out -/
def rI (C : Int → Int → Prop) (g : Int → Int → V) : R2 := fun x y H Q => ∃ i j, x = .int i ∧ y = .int j ∧ C i j ∧ Q (g i j) H
def rI0 (g : Int → Int → V) : R2 := fun x y H Q => ∃ i j, x = .int i ∧ y = .int j ∧ Q (g i j) H
def rU (g : Int → V) : V → Hp → VK → Prop := fun x H Q => ∃ i, x = .int i ∧ Q (g i) H

section
variable {X : Cx} {a b c : Expr} {ta tb tc : TE} {pos : Pos}

theorem binT (ha : PE X a ta) (hb : PE X b tb) {pins : List (Addr × Obj)} {s : Shared} {σ : St} {H : Hp} {R : V → V → Hp → Prop} (I : Inv X pins σ H s)
    (h : ta σ H fun x H1 => tb σ H1 fun y H2 => R x y H2) {Q : Value → Shared → Prop} {f : Value → Value → Sem Value}
    (hf : ∀ v u s2 x y H2, Inv X pins σ H2 s2 → RelV x v → RelV y u → R x y H2 → wpAny (model X.prog X.w) X.A (f v u) Q X.xe s2) :
    wpAny (model X.prog X.w) X.A (eval a X.env) (fun v s₁ => wpAny (model X.prog X.w) X.A (eval b X.env) (fun u s₂ => wpAny (model X.prog X.w) X.A (f v u) Q X.xe s₂) X.xe s₁) X.xe s := by
  refine thn (ha pins s σ H _ I h) fun v s1 ⟨x, H1, I1, r1, q1⟩ => ?_
  refine thn (hb pins s1 σ H1 _ I1 q1) fun u s2 ⟨y, H2, I2, r2, q2⟩ => ?_
  exact hf v u s2 x y H2 I2 r1 r2 q2

theorem pe_op {op : Operator} {r : R2} (ho : OpR X (binaryOp op) r) (ha : PE X a ta) (hb : PE X b tb) : PE X (.BinOp a op b pos) (tOp r ta tb) := by
  intro pins s σ H Q I h
  exact wpAny_BinOp (binT ha hb I h fun v u s2 x y H2 I2 rx ry q => ho pins s2 σ H2 x y v u Q I2 rx ry q)
theorem pe_un {op : UnaryOp} {r : V → Hp → VK → Prop} (ho : UnR X (unaryOp op) r) (ha : PE X a ta) : PE X (.UnaryOp op a pos) (tUn r ta) := by
  intro pins s σ H Q I h
  exact UnaryOp_ (thn (ha pins s σ H _ I h) fun v s1 ⟨x, H1, I1, r1, q1⟩ => ho pins s1 σ H1 x v Q I1 r1 q1)

/-! ### ints -/
theorem opI {f : Value → Value → Sem Value} {C : Int → Int → Prop} {g : Int → Int → Int}
    (rule : ∀ (i j : Int) (t u : Tok) (s : Shared) (Q : Value → Shared → Prop) (E : Value → Shared → Prop), C i j → Q (.int (g i j) s.toks) { s with toks := s.toks + 1 } → wpAny (model X.prog X.w) X.A (f (.int i t) (.int j u)) Q E s) :
    OpR X f (rI C fun i j => .int (g i j)) := by
  intro pins s σ H x y v u Q I rx ry h
  obtain ⟨i, j, rfl, rfl, hc, q⟩ := h
  obtain ⟨t, rfl⟩ := rx
  obtain ⟨t', rfl⟩ := ry
  exact rule i j t t' s _ _ hc ⟨.int (g i j), H, I.tok _, ⟨_, rfl⟩, q⟩
theorem opI0 {f : Value → Value → Sem Value} {g : Int → Int → Int}
    (rule : ∀ (i j : Int) (t u : Tok) (s : Shared) (Q : Value → Shared → Prop) (E : Value → Shared → Prop), Q (.int (g i j) s.toks) { s with toks := s.toks + 1 } → wpAny (model X.prog X.w) X.A (f (.int i t) (.int j u)) Q E s) :
    OpR X f (rI0 fun i j => .int (g i j)) := by
  intro pins s σ H x y v u Q I rx ry h
  obtain ⟨i, j, rfl, rfl, q⟩ := h
  obtain ⟨t, rfl⟩ := rx
  obtain ⟨t', rfl⟩ := ry
  exact rule i j t t' s _ _ ⟨.int (g i j), H, I.tok _, ⟨_, rfl⟩, q⟩
theorem opB0 {f : Value → Value → Sem Value} {g : Int → Int → Bool}
    (rule : ∀ (i j : Int) (t u : Tok) (s : Shared) (Q : Value → Shared → Prop) (E : Value → Shared → Prop), Q (.bool (g i j)) s → wpAny (model X.prog X.w) X.A (f (.int i t) (.int j u)) Q E s) :
    OpR X f (rI0 fun i j => .bl (g i j)) := by
  intro pins s σ H x y v u Q I rx ry h
  obtain ⟨i, j, rfl, rfl, q⟩ := h
  obtain ⟨t, rfl⟩ := rx
  obtain ⟨t', rfl⟩ := ry
  exact rule i j t t' s _ _ ⟨.bl (g i j), H, I, rfl, q⟩

def CPow (i j : Int) : Prop := 0 ≤ j ∧ j ≤ 1000000 ∧ i.natAbs < 2 ^ 64
def CMul (i j : Int) : Prop := (-(2 ^ 64) < i ∧ i < 2 ^ 64) ∨ (-(2 ^ 64) < j ∧ j < 2 ^ 64)
theorem CMul.ok {i j : Int} (h : CMul i j) : IntMulOk i j := by
  rcases h with ⟨h1, h2⟩ | ⟨h1, h2⟩
  · exact .of_left (intBits_le_64 h1 h2)
  · exact .of_right (intBits_le_64 h1 h2)

theorem op_add : OpR X (binaryOp .Add) (rI0 fun i j => .int (i + j)) := opI0 fun _ _ _ _ _ _ _ q => add_int q
theorem op_sub : OpR X (binaryOp .Sub) (rI0 fun i j => .int (i - j)) := opI0 fun _ _ _ _ _ _ _ q => sub_int q
theorem op_mul : OpR X (binaryOp .Mult) (rI CMul fun i j => .int (i * j)) := opI fun _ _ _ _ _ _ _ hc q => mul_int q hc.ok
/-- % by a positive divisor of any size -/
theorem op_mod : OpR X (binaryOp .Mod) (rI (fun _ j => 0 < j) fun i j => .int (i % j)) := opI fun i j _ _ _ _ _ hc q => by
  have h1 : (0 : Int) < j := hc
  exact mod_int' (by omega) (by rw [Int.fmod_eq_emod_of_nonneg i (by omega)]; exact q)
theorem op_pow : OpR X (binaryOp .Pow) (rI CPow fun i j => .int (i ^ j.toNat)) := opI fun _ _ _ _ _ _ _ hc q => pow_int_small hc.1 hc.2.1 hc.2.2 q


theorem unI {f : Value → Sem Value} {g : Int → Int}
    (rule : ∀ (i : Int) (t : Tok) (s : Shared) (Q : Value → Shared → Prop) (E : Value → Shared → Prop), Q (.int (g i) s.toks) { s with toks := s.toks + 1 } → wpAny (model X.prog X.w) X.A (f (.int i t)) Q E s) :
    UnR X f (rU fun i => .int (g i)) := by
  intro pins s σ H x v Q I rx h
  obtain ⟨i, rfl, q⟩ := h
  obtain ⟨t, rfl⟩ := rx
  exact rule i t s _ _ ⟨.int (g i), H, I.tok _, ⟨_, rfl⟩, q⟩
theorem un_neg : UnR X (unaryOp .USub) (rU fun i => .int (-i)) := unI fun _ _ _ _ _ q => neg_int q

/-! ### bools among ints: n += (a < b) -/
end

/-! ### comparisons -/


section
variable {X : Cx} {a b c : Expr} {ta tb tc : TE} {pos : Pos}
theorem fin_bl {pins : List (Addr × Obj)} {σ : St} {H : Hp} {s : Shared} {Q : VK} {k k' : Bool} (I : Inv X pins σ H s) (q : Q (.bl k) H) (e : k = k') : EP X pins σ Q (.bool k') s := by
  subst e
  exact ⟨.bl k, H, I, rfl, q⟩

theorem op_lt : OpR X (compareOp .Lt) (rI0 fun i j => .bl (decide (i < j))) := opB0 fun _ _ _ _ _ _ _ q => lt_int q
theorem op_le : OpR X (compareOp .LtE) (rI0 fun i j => .bl (decide (i ≤ j))) := opB0 fun _ _ _ _ _ _ _ q => le_int q
theorem op_gt : OpR X (compareOp .Gt) (rI0 fun i j => .bl (decide (j < i))) := opB0 fun _ _ _ _ _ _ _ q => gt_int q
theorem op_ge : OpR X (compareOp .GtE) (rI0 fun i j => .bl (decide (j ≤ i))) := opB0 fun _ _ _ _ _ _ _ q => ge_int q

/-- is None, is not None: the right side a value none -/
theorem op_isN : OpR X (compareOp .Is) (fun x y H Q => y = .non ∧ Q (.bl (decide (x = .non))) H) := by
  intro pins s σ H x y v u Q I rx ry h
  obtain ⟨rfl, q⟩ := h
  cases ry
  refine is_none_gen (fin_bl I q ?_)
  cases x <;> first
    | (cases rx; rfl)
    | (obtain ⟨t, rfl⟩ := rx; rfl)


/-- two rules for one operation: by cases -/
theorem OpR.or {f : Value → Value → Sem Value} {r r' : R2} (h : OpR X f r) (h' : OpR X f r') : OpR X f (fun x y H Q => r x y H Q ∨ r' x y H Q) := by
  intro pins s σ H x y v u Q I rx ry q
  rcases q with q | q
  · exact h pins s σ H x y v u Q I rx ry q
  · exact h' pins s σ H x y v u Q I rx ry q

theorem nomark (b : Expr) {op : CmpOp} (h : op ≠ .In := by decide) (h2 : op ≠ .NotIn := by decide) : behindInMarks op b = false := by
  have e1 : (op == CmpOp.In) = false := by cases op <;> first | rfl | exact absurd rfl h
  have e2 : (op == CmpOp.NotIn) = false := by cases op <;> first | rfl | exact absurd rfl h2
  cases b <;> simp [behindInMarks, e1, e2]
/-- a comparison as a value; hm: nomark b, or (for in, not in) by with_unfolding_all rfl -/
theorem pe_cmpR {op : CmpOp} {r : R2} (ho : OpR X (compareOp op) r) (ha : PE X a ta) (hb : PE X b tb) (hm : behindInMarks op b = false) : PE X (.Compare a [op] [b] pos) (tOp r ta tb) := by
  intro pins s σ H Q I h
  exact wpAny_Compare1 (binT ha hb I h fun v u s2 x y H2 I2 rx ry q => ho pins s2 σ H2 x y v u Q I2 rx ry q) hm
/-- a reading of a value as a test -/
def tTest (t : TE) : TT := fun σ H Q => t σ H fun x H' => ∃ k, x = .bl k ∧ Q k H'
theorem pt_cmpR {op : CmpOp} {r : R2} (ho : OpR X (compareOp op) r) (ha : PE X a ta) (hb : PE X b tb) (hm : behindInMarks op b = false) : PT X (.Compare a [op] [b] pos) (tTest (tOp r ta tb)) := by
  intro pins s σ H Q I h
  refine wpAny_isTrue_Compare1 (thn (ha pins s σ H _ I h) fun v s1 ⟨x, H1, I1, r1, q1⟩ => thn (hb pins s1 σ H1 _ I1 q1) fun u s2 ⟨y, H2, I2, r2, q2⟩ =>
    thn (ho pins s2 σ H2 x y v u _ I2 r1 r2 q2) fun c s3 ⟨z, H3, I3, r3, k, e, q3⟩ => ?_) hm
  subst e
  cases r3
  exact wpAny_truthy_bool ⟨H3, I3, q3⟩
/-- a op1 b op2 c -/
def tChain (r r' : R2) (ta tb tc : TE) : TE := fun σ H Q => ta σ H fun x H1 => tb σ H1 fun y H2 => r x y H2 fun z H3 => ∃ k, z = .bl k ∧
  (if k = true then tc σ H3 fun w' H4 => r' y w' H4 Q else Q (.bl false) H3)
theorem pe_chain {op op' : CmpOp} {r r' : R2} (ho : OpR X (compareOp op) r) (ho' : OpR X (compareOp op') r') (ha : PE X a ta) (hb : PE X b tb) (hc : PE X c tc)
    (hm : lastMarks [op, op'] [b, c] = false := by with_unfolding_all rfl) : PE X (.Compare a [op, op'] [b, c] pos) (tChain r r' ta tb tc) := by
  intro pins s σ H Q I h
  refine Compare_chain (thn (ha pins s σ H _ I h) fun v s1 ⟨x, H1, I1, r1, q1⟩ => chain_link (thn (hb pins s1 σ H1 _ I1 q1) fun u s2 ⟨y, H2, I2, r2, q2⟩ =>
    thn (ho pins s2 σ H2 x y v u _ I2 r1 r2 q2) fun d s3 ⟨z, H3, I3, r3, k, e, q3⟩ => ?_)) hm
  subst e
  cases r3
  refine wpAny_truthy_bool ?_
  cases k with
  | false => exact ite_ff ⟨.bl false, H3, I3, rfl, q3⟩
  | true => exact ite_tt (chain_last (thn (hc pins s3 σ H3 _ I3 q3) fun w' s4 ⟨z', H4, I4, r4, q4⟩ => ho' pins s4 σ H4 y z' u w' Q I4 r2 r4 q4))

/-! ### truth -/
theorem line63 : (sizeLine : Nat) < 2 ^ 63 := by rw [sizeLine_eq]; decide

/-! ### strs and bytes -/
theorem op_add_str : OpR X (binaryOp .Add) (fun x y H Q => ∃ i j, x = .str i ∧ y = .str j ∧ i.length + j.length ≤ sizeLine ∧ Q (.str (i ++ j)) H) := by
  intro pins s σ H x y v u Q I rx ry h
  obtain ⟨i, j, rfl, rfl, hz, q⟩ := h
  obtain ⟨t, rfl⟩ := rx
  obtain ⟨t', rfl⟩ := ry
  exact add_str (fun t' tk => ⟨.str (i ++ j), H, I.tok _, ⟨_, rfl⟩, q⟩) hz


/-! ### scalar builtins, by CallR -/
theorem vals1 {x : V} {us : List Value} (r : Vals [x] us) : ∃ u, us = [u] ∧ RelV x u := by
  cases r with
  | cons r1 r2 => cases r2; exact ⟨_, rfl, r1⟩
theorem vals2 {x y : V} {us : List Value} (r : Vals [x, y] us) : ∃ u w', us = [u, w'] ∧ RelV x u ∧ RelV y w' := by
  cases r with
  | cons r1 r2 =>
    cases r2 with
    | cons r3 r4 => cases r4; exact ⟨_, _, rfl, r1, r3⟩
theorem call_abs : CallR X (.builtin "abs") (fun xs H Q => ∃ i, xs = [.int i] ∧ Q (.int (if i < 0 then -i else i)) H) := by
  intro pins s σ H xs us Q I r h
  obtain ⟨i, rfl, q⟩ := h
  obtain ⟨u, rfl, t, rfl⟩ := vals1 r
  exact call_abs_int fun u tk => ⟨.int (if i < 0 then -i else i), H, I.tok _, ⟨_, rfl⟩, q⟩
theorem call_max2 (hc : X.calm = true) : CallR X (.builtin "max") (fun xs H Q => ∃ i j, xs = [.int i, .int j] ∧ Q (.int (if j > i then j else i)) H) := by
  intro pins s σ H xs us Q I r h
  obtain ⟨i, j, rfl, q⟩ := h
  obtain ⟨u, w', rfl, ⟨t, rfl⟩, ⟨t', rfl⟩⟩ := vals2 r
  refine max_two_ints (I.ok.hd hc) fun h' tk k => ⟨_, H, I.kept k, ?_, q⟩
  by_cases hj : j > i
  · rw [if_pos hj, if_pos hj]; exact ⟨_, rfl⟩
  · rw [if_neg hj, if_neg hj]; exact ⟨_, rfl⟩
theorem call_min2 (hc : X.calm = true) : CallR X (.builtin "min") (fun xs H Q => ∃ i j, xs = [.int i, .int j] ∧ Q (.int (if j < i then j else i)) H) := by
  intro pins s σ H xs us Q I r h
  obtain ⟨i, j, rfl, q⟩ := h
  obtain ⟨u, w', rfl, ⟨t, rfl⟩, ⟨t', rfl⟩⟩ := vals2 r
  refine min_two_ints (I.ok.hd hc) fun h' tk k => ⟨_, H, I.kept k, ?_, q⟩
  by_cases hj : j < i
  · rw [if_pos hj, if_pos hj]; exact ⟨_, rfl⟩
  · rw [if_neg hj, if_neg hj]; exact ⟨_, rfl⟩
theorem call_int1 : CallR X (.type "int") (fun xs H Q => (∃ i, xs = [.int i] ∧ Q (.int i) H) ∨ ∃ k, xs = [.bl k] ∧ Q (.int (if k then 1 else 0)) H) := by
  intro pins s σ H xs us Q I r h
  rcases h with ⟨i, rfl, q⟩ | ⟨k, rfl, q⟩
  · obtain ⟨u, rfl, t, rfl⟩ := vals1 r
    exact call_int_int ⟨.int i, H, I, ⟨_, rfl⟩, q⟩
  · obtain ⟨u, rfl, r1⟩ := vals1 r
    cases r1
    exact call_int_bool ⟨.int (if k then 1 else 0), H, I.tok _, ⟨_, rfl⟩, q⟩
theorem call_str_int : CallR X (.type "str") (fun xs H Q => ∃ i, xs = [.int i] ∧ i.natAbs.log2 < 1920 ∧ Q (.str (toString i)) H) := by
  intro pins s σ H xs us Q I r h
  obtain ⟨i, rfl, hz, q⟩ := h
  obtain ⟨u, rfl, t, rfl⟩ := vals1 r
  exact PySem.P.str_of_int hz ⟨.str _, H, I.tok _, ⟨_, rfl⟩, q⟩
end
end L2

namespace L2
open PySem PySem.Spec PyProof.Rows

/-! ### an instance, its attributes a map -/
structure ObjM (h : Heap) (x dx C : Addr) (mA : Str → Option Value) : Prop where
  obj : h.get? x = some (PySem.W.instObj C dx)
  ns : h.Ns1 dx mA
  ne : dx ≠ x

theorem lookIn_ns {h : Heap} {dx : Addr} {mA : Str → Option Value} (n : h.Ns1 dx mA) : ∃ od, h.get? dx = some od ∧ ∀ name, PySem.W.lookIn name od = some (mA name) := by
  obtain ⟨o, es, ep, ho, hd, hk, _, hm⟩ := n
  refine ⟨o, ho, fun name => ?_⟩
  have e := hm name
  unfold nsFind findBy at e
  rw [← Array.find?_toList] at e
  unfold PySem.W.lookIn
  rw [hd]
  dsimp only
  split
  · rename_i y q
    rw [q] at e
    exact congrArg some e
  · rename_i q
    rw [q] at e
    have a : es.toList.any (·.refKey) = false := by
      rw [List.any_eq_false]
      intro y hy
      obtain ⟨z, t, hkey⟩ := hk y (Array.mem_toList_iff.mp hy)
      simp [DictEntry.refKey, hkey]
    have a' : ¬ es.toList.any (·.refKey) = true := by rw [a]; exact Bool.false_ne_true
    rw [if_neg a']
    exact congrArg some e

theorem ObjM.look {h : Heap} {x dx C : Addr} {mA : Str → Option Value} (I : ObjM h x dx C mA) : ∃ od, PySem.W.InstAt h x (PySem.W.instObj C dx) C (some od) ∧ ∀ name, PySem.W.lookIn name od = some (mA name) :=
  let ⟨od, ho, hl⟩ := lookIn_ns I.ns
  ⟨od, ⟨I.obj, rfl, rfl, ho⟩, hl⟩

section
variable {prog : Program} {w : World} {A : Around} {E : Value → Shared → Prop} {s : Shared} {K : PySem.W.Frag} {x dx C f : Addr} {mA : Str → Option Value} {name : Str} {v : Value}





end

/-! ### the attributes as a list of pairs -/

theorem RelO.none_of {o : Option Value} (r : RelO none o) : o = none := by
  cases o with
  | none => rfl
  | some u => exact (show False from r).elim

section
variable {P : Program} {w : World} {H H' : Hp} {h h' : Heap} {a C dx : Addr} {fs fs' : List (Str × V)}
theorem ins_get (hok : HOk P w H h) (e : H a = some (.ins C dx fs)) : ∃ mA, ObjM h a dx C mA ∧ (∀ f, RelO (fs.lookup f) (mA f)) ∧ PySem.Within mA (fs.map (·.1)) ∧ fs.length ≤ 1000 ∧ H dx = some (.own a) := by
  obtain ⟨d, z, ne, ob, mA, n, r, q⟩ := (show ObjOk P w H h a (.ins C dx fs) from hok a _ e)
  exact ⟨mA, ⟨ob, n, ne⟩, r, q, z, d⟩
end

/-! ### what of the text a class must have -/
structure Cls (K : PySem.W.Frag) (C : Addr) : Prop where
  pg : PySem.W.plainGet K C Str.empty = true
  hd : PySem.W.hasDictIn K C = true
  po : PySem.W.plainOver K C = true
  sa : PySem.W.findIn K (.ref C) "__setattr__" = some (some (.builtin "object.__setattr__"))
theorem Cls.get {K : PySem.W.Frag} {C : Addr} (c : Cls K C) (f : Str) : PySem.W.plainGet K C f = true := c.pg
/-- a constant of the class -/
structure Con (K : PySem.W.Frag) (C : Addr) (f : Str) (v : V) (u : Value) : Prop where
  at_ : PySem.W.findIn K (.ref C) f = some (some u)
  rel : RelV v u
  get : PySem.W.specialIn K u "__get__" = some none
  cp : PySem.W.copiedNames.contains f = false
/-- a method: a plain def of the class or of one above it -/
structure Meth (K : PySem.W.Frag) (C : Addr) (m : Str) (f : Addr) : Prop where
  at_ : PySem.W.findIn K (.ref C) m = some (some (.ref f))
  fn : PySem.W.isFn K (.ref f) = true
  kp : PySem.W.keepIn K (.ref f) = true

section
variable {X : Cx} {pins : List (Addr × Obj)} {σ : St} {H : Hp} {s : Shared} {a C dx : Addr} {fs : List (Str × V)} {f : Str} {v : V} {A : Around} {E : Value → Shared → Prop}





/-- a new instance, tracked, without attributes -/
theorem Inv.made (I : Inv X pins σ H s) : Inv X pins σ (upd (upd H s.heap.objs.size (.own (s.heap.objs.size + 1))) (s.heap.objs.size + 1) (.ins C s.heap.objs.size []))
    { s with heap := (s.heap.push PySem.W.emptyDict).push (PySem.W.instObj C s.heap.objs.size) } := by
  have e1 : (s.heap.push PySem.W.emptyDict).get? s.heap.objs.size = some PySem.W.emptyDict := Heap.get?_push_size s.heap rfl
  have e2 : ((s.heap.push PySem.W.emptyDict).push (PySem.W.instObj C s.heap.objs.size)).get? (s.heap.objs.size + 1) = some (PySem.W.instObj C s.heap.objs.size) := by
    have := Heap.get?_push_size (s.heap.push PySem.W.emptyDict) (o := PySem.W.instObj C s.heap.objs.size) rfl
    rwa [Heap.size_push] at this
  have e3 : (s.heap.push PySem.W.emptyDict).Ns s.heap.objs.size (fun _ => none) := ⟨PySem.W.emptyDict, #[], _, e1, rfl, (fun e he => absurd he (by simp)), fun _ => rfl⟩
  have I1 := I.laid (a := s.heap.objs.size) (o := .own (s.heap.objs.size + 1)) (h' := s.heap.push PySem.W.emptyDict) (t' := s.toks) (fun b u q => Heap.get?_push_of_some _ q) (Nat.le_refl _) ⟨_, e1⟩
  refine I1.laid (a := s.heap.objs.size + 1) (o := .ins C s.heap.objs.size []) (t' := s.toks) (fun b u q => Heap.get?_push_of_some _ q) (Nat.le_of_eq (Heap.size_push _ _)) ?_
  have ne : s.heap.objs.size ≠ s.heap.objs.size + 1 := Nat.ne_of_lt (Nat.lt_succ_self _)
  refine ⟨by rw [upd_ne ne, upd_same], Nat.zero_le _, ne, e2, fun _ => none, (Heap.Ns1.of_empty e3).at fun o q => Heap.get?_push_of_some _ q, fun _ => True.intro, fun y hy => absurd rfl hy⟩

end

/-! ### readings and rules -/

section
variable {X : Cx} {o e value : Expr} {f : Str} {pos pos' tpos : Pos} {ta tv : TE}

end

/-! ### isinstance -/
section
variable {X : Cx} {pins : List (Addr × Obj)} {σ : St} {H : Hp} {s : Shared} {A : Around} {E : Value → Shared → Prop} {Q : Value → Shared → Prop} {c : Value} {b : Bool}
/-- the type of a value, as the fragment's deciders take it; for an instance its class -/
inductive TyOf (K : PySem.W.Frag) (H : Hp) : V → Value → Prop where
  | non : TyOf K H .non (.type "NoneType")
  | bl (x : Bool) : TyOf K H (.bl x) (.type "bool")
  | int (i : Int) : TyOf K H (.int i) (.type "int")
  | str (x : Str) : TyOf K H (.str x) (.type "str")
  | flt (x : UInt64) : TyOf K H (.flt x) (.type "float")
  | lst {a : Addr} {xs : List V} (e : H a = some (.lst xs)) : TyOf K H (.ref a) (.type "list")
  | frz {a : Addr} {o : Obj} {xs : List V} (e : H a = some (.frz o (.lst xs))) : TyOf K H (.ref a) (.type "list")
  | tup {a : Addr} {xs : List V} (e : H a = some (.tup xs)) : TyOf K H (.ref a) (.type "tuple")
  | dK {a : Addr} {kvs : List (Key × V)} (e : H a = some (.dK kvs)) : TyOf K H (.ref a) (.type "dict")
  | dT {a : Addr} {kvs : List (List Key × V)} (e : H a = some (.dT kvs)) : TyOf K H (.ref a) (.type "dict")
  | ins {a C dx : Addr} {fs : List (Str × V)} (e : H a = some (.ins C dx fs)) (cl : Cls K C) (ha : PySem.W.findIn K (.ref C) "__class__" = some (some (.builtin "object.__class__")))
      (hn : PySem.W.specialIn K (.builtin "object.__class__") "__get__" = some (some (.builtin "getset_descriptor.__get__"))) (htk : PySem.W.takesIn K (.builtin "object.__class__") = some true)
      (hm : PySem.W.mroIn K C (.type "object") = some true) : TyOf K H (.ref a) (.ref C)
/-- isinstance(x, c) for one class c, a built-in or an own one: kitOne's answer -/
theorem isinst_ok {x : V} {u t : Value} (I : Inv X pins σ H s) (rx : RelV x u) (ty : TyOf X.K H x t) (e : PySem.W.kitOne X.K t c = some b) (h : ∀ tk, Q (.bool b) { s with toks := tk }) :
    wpAny (model X.prog X.w) A (call (.builtin "isinstance") [u, c]) Q E s := by
  cases ty with
  | non => cases (show u = Value.none from rx); exact PySem.W.kia_one PySem.W.kitx_none I.kIn True.intro e (fun z => nomatch z) h
  | bl y => cases (show u = Value.bool y from rx); exact PySem.W.kia_one PySem.W.kitx_bool I.kIn True.intro e (fun z => nomatch z) h
  | int i => obtain ⟨t, q⟩ := (show ∃ t, u = Value.int i t from rx); cases q; exact PySem.W.kia_one PySem.W.kitx_int I.kIn True.intro e (fun z => nomatch z) h
  | str y => obtain ⟨t, q⟩ := (show ∃ t, u = Value.str y t from rx); cases q; exact PySem.W.kia_one PySem.W.kitx_str I.kIn True.intro e (fun z => nomatch z) h
  | flt y => obtain ⟨t, q⟩ := (show ∃ t, u = Value.float y t from rx); cases q; exact PySem.W.kia_one PySem.W.kitx_float I.kIn True.intro e (fun z => nomatch z) h
  | @lst a xs ea =>
    cases (show u = Value.ref a from rx)
    obtain ⟨_, _, n, _, h1⟩ := (show ObjOk X.prog X.w H s.heap a (.lst xs) from I.hok a _ ea)
    exact PySem.W.kia_one PySem.W.kitx_list I.kIn ⟨_, h1, rfl⟩ e (fun z => nomatch z) h
  | @frz a ob xs ea =>
    cases (show u = Value.ref a from rx)
    obtain ⟨_, _, _, n, _, h1⟩ := (show ObjOk X.prog X.w H s.heap a (.frz ob (.lst xs)) from I.hok a _ ea)
    exact PySem.W.kia_one PySem.W.kitx_list I.kIn ⟨_, h1, rfl⟩ e (fun z => nomatch z) h
  | @tup a xs ea =>
    cases (show u = Value.ref a from rx)
    obtain ⟨_, _, _, p⟩ := (show ObjOk X.prog X.w H s.heap a (.tup xs) from I.hok a _ ea)
    obtain ⟨o, h1, h2, _⟩ := p
    exact PySem.W.kia_one PySem.W.kitx_tuple I.kIn ⟨o, h1, h2⟩ e (fun z => nomatch z) h
  | @dK a kvs ea =>
    cases (show u = Value.ref a from rx)
    obtain ⟨_, _, vs, _, p⟩ := (show ObjOk X.prog X.w H s.heap a (.dK kvs) from I.hok a _ ea)
    obtain ⟨o, es, ep, h1, h2, _⟩ := p
    exact PySem.W.kia_one PySem.W.kitx_dict I.kIn ⟨o, h1, h2.1⟩ e (fun z => nomatch z) h
  | @dT a kvs ea =>
    cases (show u = Value.ref a from rx)
    obtain ⟨_, _, xs, _, o, es, ep, h1, h2, _⟩ := (show ObjOk X.prog X.w H s.heap a (.dT kvs) from I.hok a _ ea)
    exact PySem.W.kia_one PySem.W.kitx_dict I.kIn ⟨o, h1, h2.1⟩ e (fun z => nomatch z) h
  | @ins a C dx fs ea cl ha hn htk hm =>
    cases (show u = Value.ref a from rx)
    obtain ⟨mA, O, _⟩ := ins_get I.hok ea
    obtain ⟨od, J, _⟩ := O.look
    exact PySem.W.kia_one (PySem.W.kitx_own (cl.get _) cl.hd ha hn htk hm) I.kIn J e (fun z => nomatch z) h
end
end L2

namespace L2
open PySem PySem.Spec PyProof.Rows

/-! ### room -/
structure Room (k : Nat) (A : Around) : Prop where
  hd : A.handled = none
  dp : A.depth + 3 * k + 5 < recursionLimit
  un : A.units + 16 * k + 200 < cLine
theorem Room.mono {j k : Nat} {A : Around} (r : Room k A) (h : j ≤ k) : Room j A := ⟨r.hd, by have := r.dp; omega, by have := r.un; omega⟩
theorem Room.deeper {k : Nat} {A : Around} (r : Room (k + 1) A) (env : Env) : Room k (A.deeper env) :=
  ⟨r.hd, by have := r.dp; show A.depth + 1 + 3 * k + 5 < _; omega, by have := r.un; show A.units + 3 + 16 * k + 200 < _; omega⟩
theorem Room.in1 {k : Nat} {A : Around} (r : Room (k + 1) A) : Room k A.in1 :=
  ⟨r.hd, by have := r.dp; show A.depth + 3 * k + 5 < _; omega, by have := r.un; show A.units + 1 + 16 * k + 200 < _; omega⟩
theorem Room.depth {k : Nat} {A : Around} (r : Room k A) : A.depth < recursionLimit := by have := r.dp; omega
theorem Room.units {k : Nat} {A : Around} (r : Room k A) : A.units + 64 < cLine := by have := r.un; omega

/-! ### argument lists and displays -/
def tNil : TA := fun _ H Q => Q [] H
def tCons (ta : TE) (tr : TA) : TA := fun σ H Q => ta σ H fun x H1 => tr σ H1 fun xs H2 => Q (x :: xs) H2
section
variable {X : Cx} {e : Expr} {es : List Expr} {te : TE} {t : TA} {pos : Pos}
theorem pa_nil : PA X [] tNil := fun _ _ _ _ H Q I h => Calls.spliced_nil ⟨[], H, I, .nil, h⟩
theorem pa_cons (ha : PE X e te) (hr : PA X es t) (hs : starEach (e :: es) X.env = (false, eval e X.env) :: starEach es X.env := by rfl) : PA X (e :: es) (tCons te t) := by
  intro pos pins s σ H Q I h
  rw [hs]
  show wpAny _ _ (spliced ((false, eval e X.env) :: backTo pos (starEach es X.env))) _ _ s
  refine Calls.spliced_cons (thn (ha pins s σ H _ I h) fun u s1 ⟨x, H1, I1, r1, q1⟩ => ?_)
  exact thn (hr pos pins s1 σ H1 _ I1 q1) fun us s2 ⟨xs, H2, I2, r2, q2⟩ => ⟨x :: xs, H2, I2, .cons r1 r2, q2⟩

/-- a tuple, a list of written items -/
def tTup (t : TA) : TE := fun σ H Q => t σ H fun xs H1 => xs.length ≤ sizeLine ∧ ∀ p, H1 p = none → Q (.ref p) (upd H1 p (.tup xs))
def tLst (t : TA) : TE := fun σ H Q => t σ H fun xs H1 => xs.length ≤ sizeLine ∧ ∀ p, H1 p = none → Q (.ref p) (upd H1 p (.lst xs))
theorem pe_tup {x1} (h : PA X es t) : PE X (.Tuple es x1 pos) (tTup t) := by
  intro pins s σ H Q I hq
  refine wpAny_Tuple_spliced (thn (h pos pins s σ H _ I hq) fun us s1 ⟨xs, H1, I1, r, z, q⟩ => ⟨by rw [← r.length]; exact z, ?_⟩)
  have hf : H1 s1.heap.objs.size = none := I1.hok.fresh (Nat.le_refl _)
  refine ⟨.ref s1.heap.objs.size, upd H1 s1.heap.objs.size (.tup xs), I1.laid (t' := s1.toks) (fun b u e => Heap.get?_push_of_some _ e) (Nat.le_refl _) ?_, rfl, q _ hf⟩
  exact ⟨z, us, r, ⟨_, Heap.get?_push_size _ rfl, rfl, _, rfl⟩⟩
theorem pe_lst (h : PA X es t) : PE X (.List es pos) (tLst t) := by
  intro pins s σ H Q I hq
  refine wpAny_List_spliced (thn (h pos pins s σ H _ I hq) fun us s1 ⟨xs, H1, I1, r, z, q⟩ => ⟨by rw [← r.length]; exact z, ?_⟩)
  have hf : H1 s1.heap.objs.size = none := I1.hok.fresh (Nat.le_refl _)
  refine ⟨.ref s1.heap.objs.size, upd H1 s1.heap.objs.size (.lst xs), I1.laid (t' := s1.toks) (fun b u e => Heap.get?_push_of_some _ e) (Nat.le_refl _) ?_, rfl, q _ hf⟩
  exact ⟨z, us, 0, r, Heap.get?_push_size _ rfl⟩
end

/-! ### what a def promises -/
/-- a def's promise: the bound arguments in the parameters' order, the heap, the wanted end, the wanted exception -/
abbrev Sp := List V → Hp → VK → XK → Prop
/-- how an exception lies behind a call (file 08 gives it): the callers' frames, abstract heap and state ahead of the call, the wish, the exception, the state -/
abbrev CXT := List Env → Hp → Shared → XK → Value → Shared → Prop

/-- the state at a call -/
structure Env0 (P : Program) (w : World) (K : PySem.W.Frag) (mg : Str → Option Value) (base : Heap) (A : Around) (outer : List Env) (s : Shared) (H : Hp) : Prop where
  frames : A.frames = some outer
  mod : Mod K mg base
  bs : ∀ b o, base.get? b = some o → s.heap.get? b = some o ∧ H b = none
  bsz : base.objs.size ≤ s.heap.objs.size
  funs : s.heap.FunFrames base outer
  frf : ∀ b ∈ frs outer, H b = none
  hok : HOk P w H s.heap
  bare : AllBare s.gens
/-- a call's end -/
def CE (outer : List Env) (P : Program) (w : World) (H : Hp) (s : Shared) (Q : VK) (u : Value) (s' : Shared) : Prop :=
  ∃ v H', s'.os = s.os ∧ AllBare s'.gens ∧ Un (frs outer) [] H H' s.heap s'.heap ∧ HOk P w H' s'.heap ∧ RelV v u ∧ Q v H'
def CR (CX : CXT) (outer : List Env) (P : Program) (w : World) (H : Hp) (s : Shared) (Q : VK) (E : XK) (r : Result) (s' : Shared) : Prop :=
  match r with
  | .ok (.ret u) => CE outer P w H s Q u s'
  | .ok _ => False
  | .error e => CX outer H s E e s'
structure FnOk (P : Program) (w : World) (K : PySem.W.Frag) (mg : Str → Option Value) (base : Heap) (CX : CXT) (k : Nat) (f : Addr) (fd : FuncData) (ps : List Str) (sp : Sp) : Prop where
  len : ∀ vs H Q E, sp vs H Q E → vs.length = ps.length
  run : ∀ (A : Around) (outer : List Env) (s : Shared) (H : Hp) (args : Args) (us : List Value) (vs : List V) (Q : VK) (E : XK), Room k A → Env0 P w K mg base A outer s H → BindsTo s fd args (ps.zip us) → Vals vs us → sp vs H Q E →
    codeAny (model P w) A (.call (.ref f) args) (CR CX outer P w H s Q E) s
theorem FnOk.mono {P : Program} {w : World} {K : PySem.W.Frag} {mg : Str → Option Value} {base : Heap} {CX : CXT} {j k : Nat} {f : Addr} {fd : FuncData} {ps : List Str} {sp : Sp} (F : FnOk P w K mg base CX j f fd ps sp) (h : j ≤ k) :
    FnOk P w K mg base CX k f fd ps sp := ⟨F.len, fun A outer s H args us vs Q E hr => F.run A outer s H args us vs Q E (hr.mono h)⟩
/-- a weaker promise -/
theorem FnOk.imp {P : Program} {w : World} {K : PySem.W.Frag} {mg : Str → Option Value} {base : Heap} {CX : CXT} {k : Nat} {f : Addr} {fd : FuncData} {ps : List Str} {sp sp' : Sp} (F : FnOk P w K mg base CX k f fd ps sp)
    (h : ∀ vs H Q E, sp' vs H Q E → sp vs H Q E) : FnOk P w K mg base CX k f fd ps sp' :=
  ⟨fun vs H Q E q => F.len vs H Q E (h _ _ _ _ q), fun A outer s H args us vs Q E hr he hb hv hs => F.run A outer s H args us vs Q E hr he hb hv (h _ _ _ _ hs)⟩

theorem Env0.in1 {P : Program} {w : World} {K : PySem.W.Frag} {mg : Str → Option Value} {base : Heap} {A : Around} {outer : List Env} {s : Shared} {H : Hp} (e : Env0 P w K mg base A outer s H) :
    Env0 P w K mg base A.in1 outer s H := ⟨e.frames, e.mod, e.bs, e.bsz, e.funs, e.frf, e.hok, e.bare⟩

section
variable {X : Cx} {pins : List (Addr × Obj)} {σ : St} {H : Hp} {s s' : Shared}
/-- from a body: what a callee wants -/
theorem Inv.env0 (I : Inv X pins σ H s) : Env0 X.prog X.w X.K X.mg X.base X.A X.stack s H :=
  ⟨I.ok.frames, I.ok.mod, I.bs, Nat.le_trans I.ok.bsz I.sz, I.stack, I.stkFree, I.hok, I.bare⟩
/-- behind a call -/
theorem Inv.after {Q : VK} {u : Value} (I : Inv X pins σ H s) (h : CE X.stack X.prog X.w H s Q u s') : EP X pins σ Q u s' := by
  obtain ⟨v, H', os, bare, un, hok, r, q⟩ := h
  obtain ⟨hh, g, d, t, os'⟩ := s'
  obtain rfl : os' = s.os := os
  exact ⟨v, H', I.call (h' := hh) (g' := g) (d' := d) (t' := t) (ch := []) un hok bare (fun b z => absurd z (by simp)), r, q⟩
end

/-! ### calls -/
/-- f(..): the written arguments, then the defaults dvs; E: what is wanted of an exception -/
def tCall (sp : Sp) (dvs : List V) (E : XK) (t : TA) : TE := fun σ H Q => t σ H fun vs H1 => sp (vs ++ dvs) H1 Q E

/-- how the parameters are bound: us the positional arguments, kw the keywords' values by name, ds the defaults that fill up -/
def Binds (K : PySem.W.Frag) (fd : FuncData) (ps : List Str) (ds : List Value) : Prop :=
  ∀ (s : Shared) (us : List Value), K.In s.heap → (us ++ ds).length = ps.length → BindsTo s fd ⟨us, []⟩ (ps.zip (us ++ ds))
/-- every parameter is given -/
theorem Binds.all {K : PySem.W.Frag} {fd : FuncData} {ps : List Str} (h : ∀ us : List Value, us.length = ps.length → bindArgs fd ⟨us, []⟩ = pure (ps.zip us)) : Binds K fd ps [] := fun s us _ hl => by
  rw [List.append_nil] at hl ⊢
  exact .of_eq (h us hl)

/-- an exception of a callee reaches what this body wants of exceptions -/
def Passes (CX : CXT) (X : Cx) (E : XK) : Prop := ∀ (pins : List (Addr × Obj)) (σ : St) (H : Hp) (s : Shared) (e : Value) (s' : Shared), Inv X pins σ H s → CX X.stack H s E e s' → X.xe e s'

section
variable {X : Cx} {CX : CXT} {k : Nat} {f C : Addr} {fd : FuncData} {ps : List Str} {sp : Sp} {dvs : List V} {ds : List Value} {E : XK} {x m : Str} {p pos apos : Pos} {e o : Expr} {es : List Expr} {ta : TE} {t : TA}

/-- the callee runs -/
theorem run_fn {pins : List (Addr × Obj)} {σ : St} {H : Hp} {s : Shared} {Q : VK} {us : List Value} {vs : List V} (F : FnOk X.prog X.w X.K X.mg X.base CX k f fd ps sp) (hr : Room k X.A) (hb : Binds X.K fd ps ds) (hd : Vals dvs ds) (hx : Passes CX X E)
    (I : Inv X pins σ H s) (r : Vals vs us) (h : sp (vs ++ dvs) H Q E) : wpAny (model X.prog X.w) X.A (call (.ref f) us) (EP X pins σ Q) X.xe s := by
  have r2 : Vals (vs ++ dvs) (us ++ ds) := r.append hd
  have hl : (us ++ ds).length = ps.length := by rw [← r2.length]; exact F.len _ _ _ _ h
  refine wpAny_call (codeAny_mono (F.run X.A X.stack s H ⟨us, []⟩ (us ++ ds) (vs ++ dvs) Q E hr I.env0 (hb s us I.kIn hl) r2 h) fun r s' hq => ?_)
  cases r with
  | error e => exact hx pins σ H s e s' I hq
  | ok fl =>
    cases fl with
    | ret u => exact I.after hq
    | next => exact False.elim hq
    | brk => exact False.elim hq
    | cont => exact False.elim hq

theorem pe_call (F : FnOk X.prog X.w X.K X.mg X.base CX k f fd ps sp) (hr : Room k X.A) (hg : Gl X x) (hm : X.mg x = some (.ref f)) (hk : PySem.W.keepIn X.K (.ref f) = true) (hb : Binds X.K fd ps ds) (hd : Vals dvs ds) (hx : Passes CX X E)
    (ha : PA X (e :: es) t) (hdb : (x == ("__debug__" : Str)) = false := by decide) (he : starEach (e :: es) X.env = (false, eval e X.env) :: starEach es X.env := by rfl) (hpl : (backTo pos (starEach es X.env)).any (·.1) = false := by rfl) :
    PE X (.Call (.Name x p) (e :: es) [] pos) (tCall sp dvs E t) := by
  intro pins s σ H Q I h
  refine wpAny_Call_Name_kw (ld_glob I hg hm ?_ hdb)
  refine PySem.W.callWith_K (h₀ := X.base) I.ok.mod.kin hk (thn (ha pos pins s σ H _ I h) fun us s1 ⟨vs, H1, I1, r, q⟩ => ⟨I1.kIn, ?_⟩) he hpl
  exact run_fn F hr hb hd hx I1 r q


/-- what a class must have to be made -/
structure Mk (K : PySem.W.Frag) (C f : Addr) : Prop where
  makes : PySem.W.makesIn K C = true
  init : PySem.W.findIn K (.ref C) "__init__" = some (some (.ref f))
  fn : PySem.W.isFn K (.ref f) = true
  kp : PySem.W.keepIn K (.ref C) = true

end

/-! ### keywords -/
section
variable {X : Cx} {CX : CXT} {k : Nat} {f C : Addr} {fd : FuncData} {ps ks : List Str} {sp : Sp} {E : XK} {x m : Str} {p pos apos kpos : Pos} {e o : Expr} {es : List Expr} {kws : List Keyword} {te ta : TE} {t tk : TA} {nm : Option Str}

/-- how a call with keywords binds: g puts the positional values us and the keywords' values ws (names ks) in the parameters' order, defaults among them -/
structure KBinds (K : PySem.W.Frag) (fd : FuncData) (ps ks : List Str) (g : List Value → List Value → List Value) (gV : List V → List V → List V) : Prop where
  to : ∀ (s : Shared) (us ws : List Value), K.In s.heap → (g us ws).length = ps.length → BindsTo s fd ⟨us, ks.zip ws⟩ (ps.zip (g us ws))
  rel : ∀ {vs : List V} {us : List Value} {zs : List V} {ws : List Value}, Vals vs us → Vals zs ws → Vals (gV vs zs) (g us ws)
variable {g : List Value → List Value → List Value} {gV : List V → List V → List V}
end

/-! ### a def's body keeps its promise -/
/-- names: the parameters first -/
structure FnScope (N P : List Str) (sc : Scope) : Prop where
  kind : sc.kind = .function
  co : sc.isCoroutine = false
  gen : sc.isGenerator = false
  nd : N.Nodup
  pre : N.take P.length = P
  par : ∀ x ∈ P, sc.names.lookup x = some .local ∨ sc.names.lookup x = some .cell
  nofree : ∀ y ∈ sc.names, y.2 ≠ .free

theorem bindL_out {kindOf : Str → Option NameKind} {x : Str} : ∀ {binds : List (Str × Value)} {m : Str → Option Value}, (∀ v, (x, v) ∉ binds) → bindL kindOf binds m x = m x
  | [], _, _ => rfl
  | (n, v) :: r, m, h => by
    unfold bindL
    rw [bindL_out fun w hw => h w (List.mem_cons_of_mem _ hw)]
    split
    · have : x ≠ n := by rintro rfl; exact h v List.mem_cons_self
      simp [this]
    · rfl
theorem bindC_out {kindOf : Str → Option NameKind} {x : Str} : ∀ {binds : List (Str × Value)} {m : Str → Option Value}, (∀ v, (x, v) ∉ binds) → bindC kindOf binds m x = m x
  | [], _, _ => rfl
  | (n, v) :: r, m, h => by
    unfold bindC
    rw [bindC_out fun w hw => h w (List.mem_cons_of_mem _ hw)]
    split
    · rfl
    · have : x ≠ n := by rintro rfl; exact h v List.mem_cons_self
      simp [this]
theorem bindL_get {kindOf : Str → Option NameKind} {x : Str} {v : Value} : ∀ {P : List Str} {vs : List Value} {i : Nat} {m : Str → Option Value}, P.Nodup → P[i]? = some x → vs[i]? = some v → kindOf x = some .local →
    bindL kindOf (P.zip vs) m x = some v
  | [], _, _, _, _, h, _, _ => by simp at h
  | _ :: _, [], _, _, _, _, h, _ => by simp at h
  | p :: P, w :: vs, 0, m, nd, h1, h2, hk => by
    simp at h1 h2; subst h1; subst h2
    show bindL kindOf ((p, w) :: P.zip vs) m p = _
    unfold bindL
    rw [bindL_out fun v hv => (List.nodup_cons.mp nd).1 (List.of_mem_zip hv).1, if_pos hk]
    simp
  | p :: P, w :: vs, i + 1, m, nd, h1, h2, hk => by
    show bindL kindOf ((p, w) :: P.zip vs) m x = _
    unfold bindL
    exact bindL_get (i := i) (List.nodup_cons.mp nd).2 (by simpa using h1) (by simpa using h2) hk
theorem bindC_get {kindOf : Str → Option NameKind} {x : Str} {v : Value} : ∀ {P : List Str} {vs : List Value} {i : Nat} {m : Str → Option Value}, P.Nodup → P[i]? = some x → vs[i]? = some v → kindOf x ≠ some .local →
    bindC kindOf (P.zip vs) m x = some v
  | [], _, _, _, _, h, _, _ => by simp at h
  | _ :: _, [], _, _, _, _, h, _ => by simp at h
  | p :: P, w :: vs, 0, m, nd, h1, h2, hk => by
    simp at h1 h2; subst h1; subst h2
    show bindC kindOf ((p, w) :: P.zip vs) m p = _
    unfold bindC
    rw [bindC_out fun v hv => (List.nodup_cons.mp nd).1 (List.of_mem_zip hv).1, if_neg hk]
    simp
  | p :: P, w :: vs, i + 1, m, nd, h1, h2, hk => by
    show bindC kindOf ((p, w) :: P.zip vs) m x = _
    unfold bindC
    exact bindC_get (i := i) (List.nodup_cons.mp nd).2 (by simpa using h1) (by simpa using h2) hk

/-- the names' values at the entry -/
def start (N : List Str) (vs : List V) : St := vs.map some ++ List.replicate (N.length - vs.length) none

/-- the context of a def's body, at its entry; an exception leaves the frame, then lies as CX says -/
def cxOf (CX : CXT) (P : Program) (w : World) (K : PySem.W.Frag) (mg : Str → Option Value) (base : Heap) (N : List Str) (qual : Str) (scope : Scope) (f : Addr) (cd : Value) (A : Around) (outer : List Env) (s : Shared) (H : Hp) (E : XK) : Cx where
  prog := P
  w := w
  K := K
  mg := mg
  base := base
  A := A.deeper (envOfC qual scope s.heap.objs.size f cd)
  N := N
  s₀ := s
  H₀ := H
  env := envOfC qual scope s.heap.objs.size f cd
  outer := outer
  stack := envOfC qual scope s.heap.objs.size f cd :: outer
  ex := []
  calm := true
  fn := fun _ => true
  pn := []
  xe := fun e s' => wpAny (model P w) (A.deeper (envOfC qual scope s.heap.objs.size f cd)) (leaving (envOfC qual scope s.heap.objs.size f cd) e) (fun _ s'' => CX outer H s E e s'') (fun e' s'' => CX outer H s E e' s'') s'

theorem cell_has {sc : Scope} {n : Nat} {x : Str} (h : sc.names.lookup x = some .cell) : ∃ c, (cellsFrom n sc.names []).lookup x = some c := by
  have q := PySem.W.cellsFrom_some sc.names n [] (.inl h)
  exact Option.isSome_iff_exists.mp q

theorem inv_start {CX : CXT} {P : Program} {w : World} {K : PySem.W.Frag} {mg : Str → Option Value} {base : Heap} {N ps : List Str} {qual : Str} {scope : Scope} {f : Addr} {cd : Value} {A : Around} {outer : List Env} {s s1 : Shared} {H : Hp} {E : XK} {us : List Value} {vs : List V}
    (S : FnScope N ps scope) (hd : A.handled = none) (e0 : Env0 P w K mg base A outer s H) (hl : vs.length = ps.length) (r : Vals vs us)
    (x : InCallC s s.heap.objs.size (bindL (envOfC qual scope s.heap.objs.size f cd).kindOf (ps.zip us) fun _ => none) (cellsFrom (s.heap.objs.size + 1) scope.names []) (bindC (envOfC qual scope s.heap.objs.size f cd).kindOf (ps.zip us) fun _ => none) s1) :
    Inv (cxOf CX P w K mg base N qual scope f cd A outer s H E) [] (start N vs) H s1 := by
  have hpl : ps.length ≤ N.length := by have := congrArg List.length S.pre; rw [List.length_take] at this; omega
  obtain ⟨h1, tk, rfl, hk⟩ := x.done
  have noA : ∀ b : Addr, b ∉ (cxOf CX P w K mg base N qual scope f cd A outer s H E).ex := fun b z => absurd (show b ∈ ([] : List Addr) from z) (by simp)
  refine ⟨⟨e0.mod, S.kind, rfl, rfl, Nat.le_refl _, fun y z c h1 h2 => ?_, fun y hy => ?_, fun y c _ h => ?_, fun _ => hd, Around.frames_deeper e0.frames, .inr ⟨rfl, rfl⟩, fun b z => absurd z (noA b), e0.bs, e0.bsz, fun b _ _ => noA b, fun b z => absurd z (noA b), e0.funs, e0.frf⟩,
    rfl, e0.bare, Un.kept hk, ⟨_, x.toInCall.ns, fun i y v h1 h2 h3 => ?_⟩, fun y c h => ⟨_, x.cell y c h⟩, e0.hok.fresh (Nat.le_refl _), fun y c h => ?_, fun p hp => absurd (show p ∈ ([] : List (Addr × Obj)) from hp) (by simp), e0.hok.kept hk, ?_⟩
  · exact name_of_addr x.apart (PySem.mem_of_lookup h1) (PySem.mem_of_lookup h2)
  · have hy : scope.names.lookup y = some .cell ∨ scope.names.lookup y = some .free := hy
    rcases hy with hy | hy
    · exact cell_has hy
    · exact absurd rfl (S.nofree _ (PySem.mem_of_lookup hy))
  · exact Nat.le_of_lt (x.above y c (PySem.mem_of_lookup h))
  · have hi : i < vs.length := by
      unfold start at h2
      by_cases hi : i < vs.length
      · exact hi
      · rw [List.getElem?_append_right (by simpa using hi)] at h2
        rw [List.getElem?_replicate] at h2
        split at h2 <;> cases h2
    have ha : vs[i]? = some v := by
      unfold start at h2
      rw [List.getElem?_append_left (by simpa using hi), List.getElem?_map] at h2
      cases e : vs[i]? with
      | none => rw [e] at h2; cases h2
      | some a => rw [e] at h2; cases h2; rfl
    obtain ⟨u, hu, rv⟩ := r.get ha
    have hp : ps[i]? = some y := by
      rw [← S.pre, List.getElem?_take_of_lt (by omega)]; exact h1
    have ndP : ps.Nodup := by rw [← S.pre]; exact S.nd.sublist (List.take_sublist _ _)
    refine ⟨u, rv, ?_⟩
    rcases S.par y (List.mem_of_getElem? hp) with k | k
    · exact .inl ⟨k, bindL_get ndP hp hu k⟩
    · obtain ⟨c, e⟩ := cell_has (n := s.heap.objs.size + 1) k
      refine .inr ⟨.inl k, c, e, ?_⟩
      have q := x.cell y c e
      rw [bindC_get ndP hp hu (by show scope.names.lookup y ≠ _; rw [k]; decide)] at q
      exact q
  · exact e0.hok.fresh (Nat.le_of_lt (x.above y c (PySem.mem_of_lookup h)))
  · unfold start
    show _ = N.length
    rw [List.length_append, List.length_map, List.length_replicate]
    omega

/-- THE RULE: a def (or a method) of the text, by its body. The body's reading t is chosen for each entry; it is run at the parameters' values -/
theorem fn_of {CX : CXT} {P : Program} {w : World} {K : PySem.W.Frag} {mg : Str → Option Value} {base : Heap} {k : Nat} {f : Addr} {name qual : Str} {params : Arguments} {body : List Stmt} {scope : Scope} {dV kV doc pm cdv ct oc : Value} {an od : Option Addr}
    {osl : Array (Option Value)} {N ps : List Str} {sp : Sp} (lk : K.lookup f = some ⟨oc, od, .func (PySem.W.fnOf name qual params body scope dV kV doc pm an cdv ct), osl⟩) (hcd : PySem.W.codeIn K cdv qual = true) (S : FnScope N ps scope)
    (len : ∀ vs H Q E, sp vs H Q E → vs.length = ps.length)
    (hbody : ∀ (A : Around) (outer : List Env) (s : Shared) (H : Hp) (vs : List V) (Q : VK) (E : XK), Room k (A.deeper (envOfC qual scope s.heap.objs.size f cdv)) → sp vs H Q E →
      ∃ t, PSs (cxOf CX P w K mg base N qual scope f cdv A outer s H E) body t ∧ t { nx := fun _ H' => Q .non H', rt := Q } (start N vs) H) :
    FnOk P w K mg base CX (k + 1) f (PySem.W.fnOf name qual params body scope dV kV doc pm an cdv ct) ps sp := by
  refine ⟨len, fun A outer s H args us vs Q E hr e0 hb r hsp => ?_⟩
  have hl := len _ _ _ _ hsp
  have KX : K.In s.heap := e0.mod.kin.keeps fun b o e => (e0.bs b o e).1
  have lim : s.heap.NoLimit := e0.mod.nolimit.keeps fun b o e => (e0.bs b o e).1
  have hkind : ∀ y ∈ ps.zip us, scope.names.lookup y.1 = some .local ∨ (scope.names.lookup y.1 = some .cell ∧ ((cellsFrom (s.heap.objs.size + 1) scope.names []).lookup y.1).isSome = true) := fun ⟨n, v⟩ hy => by
    rcases S.par n (List.of_mem_zip hy).1 with q | q
    · exact .inl q
    · exact .inr ⟨q, PySem.W.cellsFrom_some _ _ _ (.inl q)⟩
  refine codeAny_call_function hr.depth (KX _ _ lk) rfl S.co S.gen rfl (PySem.W.codeRec_of KX hcd) (hb _ _ _ _ ?_)
  refine wpAny_newFunctionEnv_cells S.kind hkind fun env he s1 x => ?_
  subst he
  refine ⟨lim.keeps x.toInCall.keep, codeAny_func ?_⟩
  obtain ⟨t, ht, hq⟩ := hbody A outer s H vs Q E (hr.deeper _) hsp
  have I : Inv (cxOf CX P w K mg base N qual scope f cdv A outer s H E) [] (start N vs) H s1 := inv_start S hr.hd e0 hl r x
  refine wpAny_mono (ht [] s1 (start N vs) H _ I hq) (fun fl s' hs => ?_) fun e s' hs => hs
  have fin : ∀ {σ' : St} {H' : Hp} {v : V} {u : Value}, Inv (cxOf CX P w K mg base N qual scope f cdv A outer s H E) [] σ' H' s' → RelV v u → Q v H' → CE outer P w H s Q u s' :=
    fun {σ' H' v u} J rv q => ⟨v, H', J.os, J.bare, J.base, J.hok, rv, q⟩
  cases fl with
  | ret u =>
    obtain ⟨v, σ', H', J, rv, q⟩ := hs
    exact fin J rv q
  | next =>
    obtain ⟨σ', H', J, q⟩ := hs
    exact fin (v := V.non) (u := Value.none) J rfl q
  | brk =>
    obtain ⟨_, _, _, q⟩ := hs
    exact False.elim q
  | cont =>
    obtain ⟨_, _, _, q⟩ := hs
    exact False.elim q
end L2

namespace L2
open PySem PySem.Spec PyProof.Rows
section
variable {X : Cx} {x : Str} {p pos : Pos} {e : Expr} {es : List Expr} {t : TA} {id T : String} {r : List V → Hp → VK → Prop}

def tCB (r : List V → Hp → VK → Prop) (t : TA) : TE := fun σ H Q => t σ H fun vs H1 => r vs H1 Q
/-- f(e, ..), f a built-in function -/
theorem pe_callB (hc : CallR X (.builtin id) r) (hg : Gl X x) (hm : X.mg x = none) (hv : bootBuiltins x = some (.builtin id)) (ha : PA X (e :: es) t) (hn : x ≠ "__name__" := by decide) (hdb : (x == ("__debug__" : Str)) = false := by decide)
    (he : starEach (e :: es) X.env = (false, eval e X.env) :: starEach es X.env := by rfl) (hpl : (backTo pos (starEach es X.env)).any (·.1) = false := by rfl) : PE X (.Call (.Name x p) (e :: es) [] pos) (tCB r t) := by
  intro pins s σ H Q I h
  refine wpAny_Call_Name_kw (ld_blt I hg hm hv ?_ hn hdb)
  exact PyProof.Rows.callWith_builtin1 (thn (ha pos pins s σ H _ I h) fun us s1 ⟨vs, H1, I1, r1, q1⟩ => hc pins s1 σ H1 vs us Q I1 r1 q1) he hpl
/-- T(e, ..), T a built-in type -/
theorem pe_callTy (hc : CallR X (.type T) r) (hg : Gl X x) (hm : X.mg x = none) (hv : bootBuiltins x = some (.type T)) (ha : PA X (e :: es) t) (hn : x ≠ "__name__" := by decide) (hdb : (x == ("__debug__" : Str)) = false := by decide)
    (he : starEach (e :: es) X.env = (false, eval e X.env) :: starEach es X.env := by rfl) (hpl : (backTo pos (starEach es X.env)).any (·.1) = false := by rfl) : PE X (.Call (.Name x p) (e :: es) [] pos) (tCB r t) := by
  intro pins s σ H Q I h
  refine wpAny_Call_Name_kw (ld_blt I hg hm hv ?_ hn hdb)
  exact PyProof.Rows.callWith_type1 (thn (ha pos pins s σ H _ I h) fun us s1 ⟨vs, H1, I1, r1, q1⟩ => hc pins s1 σ H1 vs us Q I1 r1 q1) he hpl
end
end L2

namespace HT
open PySem PyProof.Rows



section
open PySem.SeqAt
open PySem.AutoSeq1 (wpAny_loadPart')
open PySem.MeetsSeq PySem.MeetsSeq2 PySem.MeetsSeq3

end

section
variable {prog : Program} {w : World} {A : Around} {E : Value → Shared → Prop} {s : Shared}


/-- t + u, t not empty -/
theorem cat_tup {t b : Addr} {vs ws : List Value} {Q : Value → Shared → Prop} (ht : IsTup s.heap t vs.toArray) (hb : IsTup s.heap b ws.toArray) (hv : vs ≠ [])
    (h1 : ws = [] → Q (.ref t) s) (h2 : ws ≠ [] → Q (.ref s.heap.objs.size) { s with heap := s.heap.push { cls := .type "tuple", data := .seq (vs ++ ws).toArray } })
    (hsz : vs.length + ws.length ≤ sizeLine) : wpAny (model prog w) A (binaryOp .Add (.ref t) (.ref b)) Q E s := by
  obtain ⟨⟨cls, dd, data, sl⟩, ho, hc, n, hd⟩ := id ht
  obtain ⟨⟨cls2, dd2, data2, sl2⟩, ho2, hc2, n2, hd2⟩ := id hb
  simp only at hc hd hc2 hd2
  subst hc hd hc2 hd2
  have e : vs.toArray ++ ws.toArray = (vs ++ ws).toArray := by simp
  by_cases hw : ws = []
  · exact concat_meets ⟨_, ho, rfl⟩ ⟨_, ho2, rfl⟩ noFill_tuple_add seq_tuple_add PySem.F.slot_tuple_add PySem.F.entry_tuple_add (PySem.F.args_tuple_add_2 _ _)
      (tuple_addW1 t b vs.toArray ws.toArray n n2 dd dd2 sl sl2 (by simpa using hv) (by simp [hw])) ⟨ho, ho2, h1 hw⟩
  · refine concat_meets ⟨_, ho, rfl⟩ ⟨_, ho2, rfl⟩ noFill_tuple_add seq_tuple_add PySem.F.slot_tuple_add PySem.F.entry_tuple_add (PySem.F.args_tuple_add_2 _ _)
      (tuple_addW2 t b vs.toArray ws.toArray n n2 dd dd2 sl sl2 (by simpa using hv) (by simpa using hw) (by rw [List.size_toArray, List.size_toArray]; exact hsz)) ⟨ho, ho2, ?_⟩
    rw [e]
    exact h2 hw

/-! ### t[a:b], not the whole -/
/-- a slice's bound as a place among n (d where it is left out) -/
def sIx (n d : Nat) : Option Int → Nat
  | none => d
  | some v => if v < 0 then (v + (n : Int)).toNat else min v.toNat n
theorem sIx_le (n d : Nat) (hd : d ≤ n) (o : Option Int) : sIx n d o ≤ n := by
  cases o with
  | none => exact hd
  | some v =>
    show (if v < 0 then (v + (n : Int)).toNat else min v.toNat n) ≤ n
    by_cases hv : v < 0
    · rw [if_pos hv]; omega
    · rw [if_neg hv]; exact Nat.min_le_right _ _
theorem clip_eq (v : Int) (n d : Nat) : (if v < 0 then max (v + (n : Int)) 0 else min v (n : Int)) = ((sIx n d (some v) : Nat) : Int) := by
  show (if v < 0 then max (v + (n : Int)) 0 else min v (n : Int)) = (((if v < 0 then (v + (n : Int)).toNat else min v.toNat n) : Nat) : Int)
  by_cases hv : v < 0
  · simp only [if_pos hv]; omega
  · simp only [if_neg hv]; omega
theorem adjust_gen (lo hi : Option Int) (n : Nat) : Builtin.Slice.sliceAdjust lo hi 1 (n : Int) = (((sIx n 0 lo : Nat) : Int), ((sIx n n hi : Nat) : Int)) := by
  have h1 : ¬ ((1 : Int) < 0) := by omega
  unfold Builtin.Slice.sliceAdjust
  simp only [h1, if_false]
  refine Prod.ext ?_ ?_
  · cases lo with
    | none => rfl
    | some v => exact clip_eq v n 0
  · cases hi with
    | none => rfl
    | some v => exact clip_eq v n n
theorem places_gen (i j : Nat) : Builtin.Slice.slicePlaces (i : Int) (j : Int) 1 = j - i := by
  unfold Builtin.Slice.slicePlaces
  have h1 : (1 : Int) > 0 := by omega
  simp only [h1, if_true, Int.ediv_one]
  split <;> omega
theorem slicePart_ {v : Value} {o : Option Int} {Q : Option Int → Shared → Prop} (p : IsPart v o) (h : Q o s) : wpAny (model prog w) A (Builtin.Slice.slicePartIndex v) Q E s := by
  cases p with
  | none => exact slicePart_none h
  | int i t => exact slicePart_int h
theorem sliceApplied_gen {sl : Addr} {vl vu : Value} {lo hi : Option Int} {n : Nat} {Q : Int × Int × Nat → Shared → Prop} (hs : s.heap.IsSliceOf sl vl vu .none) (pl : IsPart vl lo) (pu : IsPart vu hi)
    (h : Q (((sIx n 0 lo : Nat) : Int), 1, sIx n n hi - sIx n 0 lo) s) : wpAny (model prog w) A (Builtin.Slice.sliceApplied (.ref sl) (pure (n : Int))) Q E s := by
  obtain ⟨os, hos, hcs, hds⟩ := id hs
  unfold Builtin.Slice.sliceApplied Builtin.Slice.sliceFields
  refine wpAny_bind (wpAny_bind (wpAny_field hos hds (x := vl) rfl (wpAny_bind (wpAny_field hos hds (x := vu) rfl (wpAny_bind (wpAny_field hos hds (x := .none) rfl (wpAny_pure ?_)))))))
  refine wpAny_bind (slicePart_none ?_)
  show wpAny _ _ (if ((1 : Int) == 0) = true then _ else _) _ _ s
  rw [if_neg (by decide)]
  refine wpAny_bind (slicePart_ pl (wpAny_bind (slicePart_ pu (wpAny_bind (wpAny_pure ?_)))))
  show wpAny _ _ (match Builtin.Slice.sliceAdjust lo hi 1 (n : Int) with | (lo, hi) => pure (lo, (1 : Int), Builtin.Slice.slicePlaces lo hi 1)) _ _ s
  rw [adjust_gen lo hi n]
  show wpAny _ _ (pure (((sIx n 0 lo : Nat) : Int), (1 : Int), Builtin.Slice.slicePlaces ((sIx n 0 lo : Nat) : Int) ((sIx n n hi : Nat) : Int) 1)) _ _ s
  rw [places_gen]
  exact wpAny_pure h
theorem pick_gen (xs : Array Value) (i k : Nat) : ((List.range k).filterMap fun (m : Nat) => xs[((i : Int) + (m : Int) * 1).toNat]?).toArray = ((xs.toList.drop i).take k).toArray := by
  have e : (fun (m : Nat) => xs[((i : Int) + (m : Int) * 1).toNat]?) = fun m => xs[i + m]? := by
    funext m
    have : ((i : Int) + (m : Int) * 1).toNat = i + m := by omega
    rw [this]
  rw [e]
  have := pick_run xs i k
  rw [List.filterMap_map] at this
  have e2 : ((fun x => xs[x]?) ∘ fun x => i + x) = fun m => xs[i + m]? := rfl
  rw [e2] at this
  rw [this]

theorem getItem_tuple_cut {t sl : Addr} {items : Array Value} {vl vu : Value} {lo hi : Option Int} {Q : Value → Shared → Prop} (ht : IsTup s.heap t items) (hs : s.heap.IsSliceOf sl vl vu .none) (pl : IsPart vl lo) (pu : IsPart vu hi)
    (hw : ¬ (sIx items.size 0 lo = 0 ∧ sIx items.size items.size hi = items.size))
    (h : Q (.ref s.heap.objs.size) { s with heap := s.heap.push { cls := .type "tuple", data := .seq ((items.toList.drop (sIx items.size 0 lo)).take (sIx items.size items.size hi - sIx items.size 0 lo)).toArray } })
    (hsz : items.size ≤ sizeLine) : wpAny (model prog w) A (getItem (.ref t) (.ref sl)) Q E s := by
  have htake : sizeOk (.seq ((items.toList.drop (sIx items.size 0 lo)).take (sIx items.size items.size hi - sIx items.size 0 lo)).toArray) := by
    show ((items.toList.drop (sIx items.size 0 lo)).take (sIx items.size items.size hi - sIx items.size 0 lo)).toArray.size ≤ sizeLine
    rw [List.size_toArray, List.length_take, List.length_drop, Array.length_toList]
    omega
  have hj : sIx items.size items.size hi ≤ items.size := sIx_le _ _ (Nat.le_refl _) hi
  obtain ⟨os, hos, hcs, hds⟩ := id hs
  have hTs : s.TypeIs (.ref sl) "slice" := ⟨os, hos, hcs⟩
  unfold getItem
  try with_reducible refine wpAny_holding ?_
  first | refine wpAny_bind (wpAny_pure ?_) | skip
  refine wpAny_bind (wpAny_sequenceKey ht.typeIs (by decide) ?_)
  refine wpAny_bind (wpAny_callSpecial?_slot (name := Str.ofString "__getitem__") ht.typeIs PyProof.Rows.slot_tuple_getitem
    (wpAny_call_entry PyProof.Rows.slot_tuple_getitem ht.typeIs entry_tuple_getitem ?_ (args_tuple_getitem _ _)))
  show wpAny _ _ (Builtin.Tuple.tupleItemsOf (.ref t) >>= _) _ _ s
  refine wpAny_bind (tupleItemsOf_ ht ?_)
  refine wpAny_bind (wpAny_typeOf hTs ?_)
  rw [if_pos (by decide)]
  refine wpAny_bind (sliceApplied_gen hs pl pu ?_)
  have hno : ¬ ((((sIx items.size 0 lo : Nat) : Int) == 0 && (1 : Int) == 1 && (sIx items.size items.size hi - sIx items.size 0 lo) == items.size) = true) := by
    intro q
    rw [Bool.and_eq_true, Bool.and_eq_true] at q
    have q1 : ((sIx items.size 0 lo : Nat) : Int) = 0 := eq_of_beq q.1.1
    have q2 : sIx items.size items.size hi - sIx items.size 0 lo = items.size := eq_of_beq q.2
    exact hw ⟨by omega, by omega⟩
  show wpAny _ _ (if (((sIx items.size 0 lo : Nat) : Int) == 0 && (1 : Int) == 1 && (sIx items.size items.size hi - sIx items.size 0 lo) == items.size) = true then _ else _) _ _ s
  rw [if_neg hno, pick_gen]
  first
    | exact wpAny_bind (m := Builtin.Tuple.tupleExact _) (wpAny_newObj_type (wpAny_pure ⟨_, rfl, wpAny_pure h⟩) htake)
    | exact wpAny_bind (m := Builtin.Tuple.tupleExact _) (wpAny_newObj_type (wpAny_bind (wpAny_pure (wpAny_pure ⟨_, rfl, wpAny_pure h⟩))) htake)
    | exact wpAny_bind (wpAny_bind (m := Builtin.Tuple.tupleExact _) (wpAny_newObj_type (wpAny_pure (wpAny_pure ⟨_, rfl, wpAny_pure h⟩)) htake))
    | exact wpAny_bind (wpAny_bind (m := Builtin.Tuple.tupleExact _) (wpAny_newObj_type (wpAny_pure ⟨_, rfl, wpAny_pure h⟩) htake))
end
end HT

namespace L2
open PySem PySem.Spec PyProof.Rows

/-! ### the parts of a slice -/
abbrev TO := St → Hp → (Option Int → Hp → Prop) → Prop
/-- a slice's part (left out, or an int) -/
def PO (X : Cx) (e : Option Expr) (t : TO) : Prop :=
  ∀ (pins : List (Addr × Obj)) (s : Shared) (σ : St) (H : Hp) (Q : Option Int → Hp → Prop), Inv X pins σ H s → t σ H Q →
    wpAny (model X.prog X.w) X.A (evalPart e X.env) (fun u s' => ∃ o H', Inv X pins σ H' s' ∧ IsPart u o ∧ Q o H') X.xe s
def tNoPart : TO := fun _ H Q => Q none H
def tPart (t : TE) : TO := fun σ H Q => t σ H fun x H1 => ∃ i, x = .int i ∧ Q (some i) H1


section
variable {X : Cx} {e : Expr} {te : TE} {lo hi : Option Expr} {tl th : TO} {pos p2 : Pos}

theorem po_none : PO X none tNoPart := by
  intro pins s σ H Q I h
  rw [evalPart_none]
  exact wpAny_pure ⟨none, H, I, .none, h⟩
theorem po_some (h : PE X e te) : PO X (some e) (tPart te) := by
  intro pins s σ H Q I hw
  rw [evalPart_some]
  refine thn (h pins s σ H _ I hw) fun u s1 ⟨x, H1, I1, r1, q1⟩ => ?_
  obtain ⟨i, rfl, q⟩ := q1
  obtain ⟨t, rfl⟩ := r1
  exact ⟨some i, H1, I1, .int i t, q⟩

/-- what a slice of a value is, by values: the slice object stands at sl -/
def SlR (X : Cx) (r : V → Option Int → Option Int → Hp → VK → Prop) : Prop :=
  ∀ (pins : List (Addr × Obj)) (s : Shared) (σ : St) (H : Hp) (x : V) (v vl vu : Value) (lo hi : Option Int) (sl : Addr) (Q : VK), Inv X pins σ H s → RelV x v → s.heap.IsSliceOf sl vl vu .none → IsPart vl lo → IsPart vu hi → r x lo hi H Q →
    ∃ T id, typeLookup (.type T) "__getitem__" = pure (some (.builtin id)) ∧ s.TypeIs v T ∧ wpAny (model X.prog X.w) X.A (getItem v (.ref sl)) (EP X pins σ Q) X.xe s
theorem SlR.or {r r' : V → Option Int → Option Int → Hp → VK → Prop} (h : SlR X r) (h' : SlR X r') : SlR X (fun x lo hi H Q => r x lo hi H Q ∨ r' x lo hi H Q) := by
  intro pins s σ H x v vl vu lo hi sl Q I rx hs pl pu q
  rcases q with q | q
  · exact h pins s σ H x v vl vu lo hi sl Q I rx hs pl pu q
  · exact h' pins s σ H x v vl vu lo hi sl Q I rx hs pl pu q
def tSl (r : V → Option Int → Option Int → Hp → VK → Prop) (te : TE) (tl th : TO) : TE := fun σ H Q => te σ H fun x H1 => tl σ H1 fun l H2 => th σ H2 fun u H3 => r x l u H3 Q
/-- a[lo:hi], any a -/
theorem pe_slice {r : V → Option Int → Option Int → Hp → VK → Prop} (hr : SlR X r) (he : PE X e te) (hl : PO X lo tl) (hu : PO X hi th) : PE X (.Subscript e (.Slice lo hi none p2) pos) (tSl r te tl th) := by
  intro pins s σ H Q I h
  refine Subscript_ (thn (he pins s σ H _ I h) fun v s1 ⟨x, H1, I1, r1, q1⟩ => ?_)
  refine wpAny_Slice (thn (hl pins s1 σ H1 _ I1 q1) fun vl s2 ⟨l, H2, I2, pl, q2⟩ => thn (hu pins s2 σ H2 _ I2 q2) fun vu s3 ⟨u, H3, I3, pu, q3⟩ => ?_)
  rw [evalPart_none]
  refine wpAny_pure ?_
  have I4 : Inv X pins σ H3 { s3 with heap := s3.heap.push { cls := .type "slice", data := .fields #[vl, vu, .none] } } := I3.kept (t' := s3.toks) fun b ob q => Heap.get?_push_of_some _ q
  obtain ⟨T, id, hT, ht, hg⟩ := hr pins { s3 with heap := s3.heap.push { cls := .type "slice", data := .fields #[vl, vu, .none] } } σ H3 x v vl vu l u s3.heap.objs.size Q I4 r1 (Heap.IsSliceOf.new ..) pl pu q3
  show wpAny (model X.prog X.w) X.A (subscriptTail e (.Slice lo hi none p2) v (.ref s3.heap.objs.size)) (EP X pins σ Q) X.xe { s3 with heap := s3.heap.push { cls := .type "slice", data := .fields #[vl, vu, .none] } }
  exact tail_any (ops := [.ref s3.heap.objs.size, v]) ht hT hg (by with_unfolding_all rfl)

/-- the items of xs[lo:hi] -/
def cutV (xs : List V) (lo hi : Option Int) : List V := (xs.drop (HT.sIx xs.length 0 lo)).take (HT.sIx xs.length xs.length hi - HT.sIx xs.length 0 lo)
theorem cutV_length (xs : List V) (lo hi : Option Int) : (cutV xs lo hi).length ≤ xs.length := by
  unfold cutV
  rw [List.length_take, List.length_drop]
  omega
/-- t[lo:hi], not the whole of it (the whole would be t itself) -/
def rSlT (K : PySem.W.Frag) : V → Option Int → Option Int → Hp → VK → Prop := fun x lo hi H Q => ∃ a xs, x = .ref a ∧ SqT K H a xs ∧
  ¬ (HT.sIx xs.length 0 lo = 0 ∧ HT.sIx xs.length xs.length hi = xs.length) ∧ ∀ p, H p = none → Q (.ref p) (upd H p (.tup (cutV xs lo hi)))
theorem sl_tup : SlR X (rSlT X.K) := by
  intro pins s σ H x v vl vu lo hi sl Q I rx hs pl pu h
  obtain ⟨a, xs, rfl, hx, hw, q⟩ := h
  cases rx
  obtain ⟨its, r, ht, hz⟩ := I.tuple hx
  have hlen : its.toArray.size = xs.length := by rw [List.size_toArray]; exact r.length.symm
  refine ⟨"tuple", _, PyProof.Rows.slot_tuple_getitem.lookup, ht.typeIs, ?_⟩
  refine HT.getItem_tuple_cut ht hs pl pu (by rw [hlen]; exact hw) ?_ (by rw [hlen]; exact hz)
  rw [hlen]
  refine ⟨.ref s.heap.objs.size, _, I.laid (t' := s.toks) (o := .tup (cutV xs lo hi)) (fun b ob q => Heap.get?_push_of_some _ q) (Nat.le_refl _) ?_, rfl, q _ (I.hok.fresh (Nat.le_refl _))⟩
  exact ⟨Nat.le_trans (cutV_length xs lo hi) hz, _, (r.drop (HT.sIx xs.length 0 lo)).take (HT.sIx xs.length xs.length hi - HT.sIx xs.length 0 lo), IsTup.new _ _⟩

/-! ### t < u, t + u -/
/-- t + u, t not empty: u empty gives t itself -/
def rCatT (K : PySem.W.Frag) : R2 := fun x y H Q => ∃ a b xs ys, x = .ref a ∧ y = .ref b ∧ SqT K H a xs ∧ SqT K H b ys ∧ xs ≠ [] ∧ xs.length + ys.length ≤ sizeLine ∧
  (ys = [] → Q (.ref a) H) ∧ (ys ≠ [] → ∀ p, H p = none → Q (.ref p) (upd H p (.tup (xs ++ ys))))
theorem Vals.nil_iff {xs : List V} {us : List Value} (r : Vals xs us) : us = [] ↔ xs = [] := by
  cases r with
  | nil => simp
  | cons _ _ => simp
theorem op_catT : OpR X (binaryOp .Add) (rCatT X.K) := by
  intro pins s σ H x y v u Q I rx ry h
  obtain ⟨a, b, xs, ys, rfl, rfl, ha, hb, hx, hz, q1, q2⟩ := h
  cases rx
  cases ry
  obtain ⟨its, r1, p1, _⟩ := I.tuple ha
  obtain ⟨its2, r2, p2, _⟩ := I.tuple hb
  refine HT.cat_tup p1 p2 (fun z => hx (r1.nil_iff.mp z)) (fun z => ⟨.ref a, H, I, rfl, q1 (r2.nil_iff.mp z)⟩) (fun z => ?_) (by rw [← r1.length, ← r2.length]; exact hz)
  refine ⟨.ref s.heap.objs.size, _, I.laid (t' := s.toks) (o := .tup (xs ++ ys)) (fun b ob q => Heap.get?_push_of_some _ q) (Nat.le_refl _) ?_, rfl, q2 (fun w => z (r2.nil_iff.mpr w)) _ (I.hok.fresh (Nat.le_refl _))⟩
  exact ⟨by rw [List.length_append]; exact hz, _, r1.append r2, IsTup.new _ _⟩
end
end L2

namespace L2
open PySem PySem.Spec PyProof.Rows

/-! ### places -/
/-- the place that an index of any sign means -/
def ixN (n : Nat) (i : Int) : Option Nat := if 0 ≤ i then (if i < n then some i.toNat else none) else if -(n : Int) ≤ i then some (i + n).toNat else none
def atI {α : Type} (xs : List α) (i : Int) : Option α := (ixN xs.length i).bind fun j => xs[j]?
theorem ixN_seq {n : Nat} {i : Int} {j : Nat} (h : ixN n i = some j) : seqIndex? i n = some j ∧ j < n ∧ -(n : Int) ≤ i ∧ i < n := by
  unfold ixN at h
  by_cases h0 : 0 ≤ i
  · rw [if_pos h0] at h
    by_cases h1 : i < n
    · rw [if_pos h1] at h
      have e : i.toNat = j := Option.some.inj h
      exact ⟨by rw [seqIndex_of h0 h1, e], by omega, by omega, h1⟩
    · rw [if_neg h1] at h; cases h
  · rw [if_neg h0] at h
    by_cases h1 : -(n : Int) ≤ i
    · rw [if_pos h1] at h
      have e : (i + n).toNat = j := Option.some.inj h
      exact ⟨by rw [seqIndex_neg (by omega) h1, e], by omega, h1, by omega⟩
    · rw [if_neg h1] at h; cases h
theorem atI_get {α : Type} {xs : List α} {i : Int} {v : α} (h : atI xs i = some v) : ∃ j, seqIndex? i xs.length = some j ∧ xs[j]? = some v ∧ j < xs.length ∧ -(xs.length : Int) ≤ i ∧ i < xs.length := by
  unfold atI at h
  cases e : ixN xs.length i with
  | none => rw [e] at h; cases h
  | some j =>
    rw [e] at h
    obtain ⟨h1, h2, h3, h4⟩ := ixN_seq e
    exact ⟨j, h1, h, h2, h3, h4⟩
theorem atI_nat {α : Type} {xs : List α} {j : Nat} {v : α} (h : xs[j]? = some v) : atI xs (j : Int) = some v := by
  have hj : j < xs.length := (List.getElem?_eq_some_iff.mp h).1
  have e : ixN xs.length (j : Int) = some j := by
    unfold ixN
    rw [if_pos (by omega), if_pos (by omega)]; simp
  unfold atI; rw [e]; exact h

/-! ### what may be subscripted -/
/-- what stands as an index of a plain subscript -/
def PlainIx (b : Expr) : Prop := ∀ o i, subscripted b false o i = operate [o, i] (getItem o i)
/-- a subscript by values -/
def IxR (X : Cx) (r : R2) : Prop :=
  ∀ (value slice : Expr) (pins : List (Addr × Obj)) (s : Shared) (σ : St) (H : Hp) (x y : V) (v u : Value) (Q : VK), Inv X pins σ H s → RelV x v → RelV y u → r x y H Q →
    subscripted slice false v u = operate [v, u] (getItem v u) → wpAny (model X.prog X.w) X.A (subscriptTail value slice v u) (EP X pins σ Q) X.xe s
/-- a call of a builtin's method by values: the receiver, the arguments -/
def MtR (X : Cx) (id : String) (r : V → List V → Hp → VK → Prop) : Prop :=
  ∀ (pins : List (Addr × Obj)) (s : Shared) (σ : St) (H : Hp) (x : V) (xs : List V) (v : Value) (us : List Value) (Q : VK), Inv X pins σ H s → RelV x v → Vals xs us → r x xs H Q →
    wpAny (model X.prog X.w) X.A (call (.builtin id) (v :: us)) (EP X pins σ Q) X.xe s
section
variable {X : Cx} {a b : Expr} {ta tb : TE} {pos : Pos}
theorem IxR.or {r r' : R2} (h : IxR X r) (h' : IxR X r') : IxR X (fun x y H Q => r x y H Q ∨ r' x y H Q) := by
  intro value slice pins s σ H x y v u Q I rx ry q hs
  rcases q with q | q
  · exact h value slice pins s σ H x y v u Q I rx ry q hs
  · exact h' value slice pins s σ H x y v u Q I rx ry q hs
theorem MtR.or {id : String} {r r' : V → List V → Hp → VK → Prop} (h : MtR X id r) (h' : MtR X id r') : MtR X id (fun x xs H Q => r x xs H Q ∨ r' x xs H Q) := by
  intro pins s σ H x xs v us Q I rx rs q
  rcases q with q | q
  · exact h pins s σ H x xs v us Q I rx rs q
  · exact h' pins s σ H x xs v us Q I rx rs q
/-- a[b] -/
theorem pe_ix {r : R2} (hr : IxR X r) (ha : PE X a ta) (hb : PE X b tb) (hs : PlainIx b) : PE X (.Subscript a b pos) (tOp r ta tb) := by
  intro pins s σ H Q I h
  exact Subscript_ (binT ha hb I h fun v u s2 x y H2 I2 rx ry q => hr a b pins s2 σ H2 x y v u Q I2 rx ry q (hs _ _))

def rIxL (K : PySem.W.Frag) : R2 := fun x y H Q => ∃ p xs i v, x = .ref p ∧ y = .int i ∧ SqL K H p xs ∧ atI xs i = some v ∧ Q v H
def rIxT (K : PySem.W.Frag) : R2 := fun x y H Q => ∃ p xs i v, x = .ref p ∧ y = .int i ∧ SqT K H p xs ∧ atI xs i = some v ∧ Q v H
theorem ix_list : IxR X (rIxL X.K) := by
  intro value slice pins s σ H x y v u Q I rx ry h hs
  obtain ⟨p, xs, i, z, rfl, rfl, hq, he, q⟩ := h
  cases rx
  obtain ⟨t, rfl⟩ := ry
  obtain ⟨its, r, pl, hz⟩ := I.list hq
  obtain ⟨j, h1, h2, h3, h4, h5⟩ := atI_get he
  obtain ⟨w, ew, rw'⟩ := r.get h2
  have hl := r.length
  have hn := line63
  have fin : EP X pins σ Q w s := ⟨z, H, I, rw', q⟩
  by_cases h0 : 0 ≤ i
  · have hj : i.toNat = j := by
      rw [seqIndex_of h0 h5] at h1
      exact Option.some.inj h1
    exact item_listR pl.isList h0 (by omega) (by rw [hj]; simpa using ew) fin hs
  · have hj : (i + (its.toArray.size : Int)).toNat = j := by
      rw [seqIndex_neg (by omega) h4] at h1
      rw [List.size_toArray, ← hl]
      exact Option.some.inj h1
    exact subscriptTail_builtinR (x := w) pl.isList.typeIs slot_list_getitem.lookup
      (wpAny_getItem_list_neg (Q := fun r s' => r = w ∧ EP X pins σ Q r s') pl.isList (by omega) (by rw [List.size_toArray] <;> omega) (by omega) (by rw [hj]; simpa using ew) ⟨rfl, fin⟩) hs
theorem ix_tup : IxR X (rIxT X.K) := by
  intro value slice pins s σ H x y v u Q I rx ry h hs
  obtain ⟨p, xs, i, z, rfl, rfl, hq, he, q⟩ := h
  cases rx
  obtain ⟨t, rfl⟩ := ry
  obtain ⟨its, r, pl, hz⟩ := I.tuple hq
  obtain ⟨j, h1, h2, h3, h4, h5⟩ := atI_get he
  obtain ⟨w, ew, rw'⟩ := r.get h2
  have hl := r.length
  have hn := line63
  have fin : EP X pins σ Q w s := ⟨z, H, I, rw', q⟩
  exact subscriptTail_builtinR (x := w) pl.typeIs slot_tuple_getitem.lookup
    (getItem_tuple (j := j) (Q := fun r s' => r = w ∧ EP X pins σ Q r s') pl (by omega) (by omega) (by rw [List.size_toArray, ← hl]; exact h1) (by simpa using ew) ⟨rfl, fin⟩) hs

/-! ### xs[i] = v, any sign -/
/-- the list's object behind a store -/
theorem mapSeq_set (its : List Value) (n j : Nat) (u : Value) : Obj.mapSeq (·.setIfInBounds j u) { cls := .type "list", data := .seq its.toArray n } = { cls := .type "list", data := .seq (its.set j u).toArray n } := by
  simp [Obj.mapSeq]
theorem Inv.lst {pins : List (Addr × Obj)} {σ : St} {H : Hp} {s : Shared} {p : Addr} {xs : List V} (I : Inv X pins σ H s) (h : H p = some (.lst xs)) :
    ∃ (its : List Value) (n : Nat), Vals xs its ∧ s.heap.get? p = some { cls := .type "list", data := .seq its.toArray n } ∧ xs.length ≤ sizeLine := by
  obtain ⟨z, its, n, r, e⟩ := I.hok p _ h
  exact ⟨its, n, r, e, z⟩
/-- the list at p is written by an update of its object -/
theorem Inv.lstUpd {pins : List (Addr × Obj)} {σ : St} {H : Hp} {s : Shared} {p : Addr} {xs ys : List V} {its its' : List Value} {n n' : Nat} {f : Obj → Obj} (I : Inv X pins σ H s) (h : H p = some (.lst xs))
    (ho : s.heap.get? p = some { cls := .type "list", data := .seq its.toArray n }) (hf : f { cls := .type "list", data := .seq its.toArray n } = { cls := .type "list", data := .seq its'.toArray n' }) (r : Vals ys its') (hz : ys.length ≤ sizeLine) (t : Nat) :
    Inv X pins σ (upd H p (.lst ys)) { s with heap := s.heap.update p f, toks := t } := by
  have e : (s.heap.update p f).get? p = some { cls := .type "list", data := .seq its'.toArray n' } := by
    rw [Heap.get?_update_self f ho (by rw [hf] <;> rfl), hf]
  refine I.write (x := p) (e := p) (by rw [h]; trivial) (.inl rfl) (fun b u hb q => (Heap.get?_update_other _ _ (Ne.symm hb)).trans q) ⟨_, e⟩ ?_
  exact ⟨hz, its', n', r, e⟩
def rSetL : V → V → V → Hp → (Hp → Prop) → Prop := fun o i v H Q => ∃ p xs k j, o = .ref p ∧ i = .int k ∧ H p = some (.lst xs) ∧ ixN xs.length k = some j ∧ Q (upd H p (.lst (xs.set j v)))
theorem set_list : PSet X rSetL := by
  intro pins s σ H o i v ov iv u Q I ro ri rv h
  obtain ⟨p, xs, k, j, rfl, rfl, hp, hj, q⟩ := h
  cases ro
  obtain ⟨t, rfl⟩ := ri
  obtain ⟨its, n, r, ho, hz⟩ := I.lst hp
  obtain ⟨h1, h2, h3, h4⟩ := ixN_seq hj
  have hl := r.length
  have hn := line63
  have I' : Inv X pins σ (upd H p (.lst (xs.set j v))) { s with heap := s.heap.update p (Obj.mapSeq (·.setIfInBounds j u)) } :=
    I.lstUpd hp ho (mapSeq_set its n j u) (r.set rv j) (by rw [List.length_set]; exact hz) s.toks
  by_cases h0 : 0 ≤ k
  · have hk : k.toNat = j := by
      rw [seqIndex_of h0 h4] at h1
      exact Option.some.inj h1
    exact PySem.W.ki_setAt ho h0 (by omega) (by rw [List.size_toArray, ← hl]; exact h4) (by rw [hk]; exact ⟨_, I', q⟩)
  · have hk : (k + (its.toArray.size : Int)).toNat = j := by
      rw [seqIndex_neg (by omega) h3] at h1
      rw [List.size_toArray, ← hl]
      exact Option.some.inj h1
    exact PySem.W.ki_setBack ho (by omega) (by rw [List.size_toArray, ← hl]; exact h3) (by omega) (by rw [hk]; exact ⟨_, I', q⟩)

/-! ### slices -/
theorem slice_bounds (lo hi : Option Int) (n : Nat) : (sliceBounds lo hi none n).1 = ((HT.sIx n 0 lo : Nat) : Int) ∧ (sliceBounds lo hi none n).2.1 = ((HT.sIx n n hi : Nat) : Int) ∧ (sliceBounds lo hi none n).2.2 = 1 := by
  refine ⟨?_, ?_, rfl⟩
  · cases lo with
    | none => simp [sliceBounds, HT.sIx]
    | some i =>
      simp only [sliceBounds, HT.sIx, Option.getD_none, show (1 : Int) > 0 by decide, if_true]
      by_cases h : i < 0
      · simp only [h, if_true] <;> omega
      · simp only [h, if_false] <;> omega
  · cases hi with
    | none => simp [sliceBounds, HT.sIx]
    | some i =>
      simp only [sliceBounds, HT.sIx, Option.getD_none, show (1 : Int) > 0 by decide, if_true]
      by_cases h : i < 0
      · simp only [h, if_true] <;> omega
      · simp only [h, if_false] <;> omega
theorem slicePick_cut (its : List Value) (lo hi : Option Int) : slicePick its.toArray lo hi none = ((its.drop (HT.sIx its.length 0 lo)).take (HT.sIx its.length its.length hi - HT.sIx its.length 0 lo)).toArray := by
  obtain ⟨h1, h2, h3⟩ := slice_bounds lo hi its.toArray.size
  unfold slicePick
  rw [h1, h2, h3]
  simp only [sliceRange_one, pick_run, List.size_toArray] <;> rfl
/-- xs[lo:hi] of a list: a new list -/
def rSlL (K : PySem.W.Frag) : V → Option Int → Option Int → Hp → VK → Prop := fun x lo hi H Q => ∃ a xs, x = .ref a ∧ SqL K H a xs ∧ ∀ p, H p = none → Q (.ref p) (upd H p (.lst (cutV xs lo hi)))
theorem sl_list : SlR X (rSlL X.K) := by
  intro pins s σ H x v vl vu lo hi sl Q I rx hs pl pu h
  obtain ⟨a, xs, rfl, hx, q⟩ := h
  cases rx
  obtain ⟨its, r, ht, hz⟩ := I.list hx
  have hlen := r.length
  refine ⟨"list", _, slot_list_getitem.lookup, ht.isList.typeIs, ?_⟩
  refine wpAny_getItem_list_slice ht.isList hs pl pu .none (by simp) ?_ (by rw [List.size_toArray] <;> omega)
  rw [slicePick_cut, ← hlen]
  refine ⟨.ref s.heap.objs.size, _, I.laid (t' := s.toks) (o := .lst (cutV xs lo hi)) (fun b ob q => Heap.get?_push_of_some _ q) (Nat.le_refl _) ?_, rfl, q _ (I.hok.fresh (Nat.le_refl _))⟩
  exact ⟨Nat.le_trans (cutV_length xs lo hi) hz, _, 0, (r.drop (HT.sIx xs.length 0 lo)).take (HT.sIx xs.length xs.length hi - HT.sIx xs.length 0 lo), Heap.get?_push_size _ rfl⟩

/-! ### in, not in: flat items -/
def flatV : V → Bool
  | .non => true
  | .bl _ => true
  | .int _ => true
  | .str _ => true
  | _ => false
/-- == of flat values -/
def eqV : V → V → Bool
  | .non, .non => true
  | .bl a, .bl b => a == b
  | .bl a, .int b => (if a then 1 else 0) == b
  | .int a, .bl b => a == (if b then 1 else 0)
  | .int a, .int b => a == b
  | .str a, .str b => a == b
  | _, _ => false
theorem eqAt_V {A : Around} {s : Shared} {y x : V} {u v : Value} (ry : RelV y u) (rx : RelV x v) (fy : flatV y = true) (fx : flatV x = true) : SeqAt.EqAt A s u v (eqV y x) := by
  cases y with
  | non =>
    cases ry
    cases x with
    | non => cases rx; exact SeqAt.EqAt.same _
    | bl b => cases rx; exact SeqAt.EqAt.none_bool b
    | int b => obtain ⟨t, rfl⟩ := rx; exact SeqAt.EqAt.none_int b t
    | str b => obtain ⟨t, rfl⟩ := rx; exact SeqAt.EqAt.none_str b t
    | _ => exact absurd (show false = true from fx) Bool.false_ne_true
  | bl a =>
    cases ry
    cases x with
    | non => cases rx; exact SeqAt.EqAt.bool_none a
    | bl b => cases rx; exact SeqAt.EqAt.bool_bool a b
    | int b => obtain ⟨t, rfl⟩ := rx; exact SeqAt.EqAt.bool_int a b t
    | str b => obtain ⟨t, rfl⟩ := rx; exact SeqAt.EqAt.bool_str a b t
    | _ => exact absurd (show false = true from fx) Bool.false_ne_true
  | int a =>
    obtain ⟨t', rfl⟩ := ry
    cases x with
    | non => cases rx; exact SeqAt.EqAt.int_none a t'
    | bl b => cases rx; exact SeqAt.EqAt.int_bool a t' b
    | int b => obtain ⟨t, rfl⟩ := rx; exact SeqAt.EqAt.int_int a t' b t
    | str b => obtain ⟨t, rfl⟩ := rx; exact SeqAt.EqAt.int_str a t' b t
    | _ => exact absurd (show false = true from fx) Bool.false_ne_true
  | str a =>
    obtain ⟨t', rfl⟩ := ry
    cases x with
    | non => cases rx; exact SeqAt.EqAt.str_none a t'
    | bl b => cases rx; exact SeqAt.EqAt.str_bool a t' b
    | int b => obtain ⟨t, rfl⟩ := rx; exact SeqAt.EqAt.str_int a t' b t
    | str b => obtain ⟨t, rfl⟩ := rx; exact SeqAt.EqAt.str_str a t' b t
    | _ => exact absurd (show false = true from fx) Bool.false_ne_true
  | _ => exact absurd (show false = true from fy) Bool.false_ne_true
/-- the items' answers, read off the values (a value's own answer does not lean on its token) -/
def eqU (x : V) (u : Value) : Bool := match u with
  | .none => eqV .non x
  | .bool b => eqV (.bl b) x
  | .int i _ => eqV (.int i) x
  | .str z _ => eqV (.str z) x
  | _ => false
theorem eqU_of {x y : V} {u : Value} (r : RelV y u) (f : flatV y = true) : eqU x u = eqV y x := by
  cases y with
  | non => cases r; rfl
  | bl b => cases r; rfl
  | int i => obtain ⟨t, rfl⟩ := r; rfl
  | str z => obtain ⟨t, rfl⟩ := r; rfl
  | _ => exact absurd (show false = true from f) Bool.false_ne_true
theorem any_eqU {x : V} : ∀ {xs : List V} {us : List Value}, Vals xs us → xs.all flatV = true → us.any (eqU x) = xs.any fun y => eqV y x
  | _, _, .nil, _ => rfl
  | y :: xs, u :: us, .cons r t, f => by
    rw [List.all_cons, Bool.and_eq_true] at f
    rw [List.any_cons, List.any_cons, eqU_of r f.1, any_eqU t f.2]
theorem mem_eqAt {A : Around} {s : Shared} {x : V} {v : Value} (rx : RelV x v) (fx : flatV x = true) : ∀ {xs : List V} {us : List Value}, Vals xs us → xs.all flatV = true → ∀ u ∈ us, SeqAt.EqAt A s u v (eqU x u)
  | _, _, .nil, _ => fun u hu => by cases hu
  | y :: xs, u :: us, .cons r t, f => fun u' hu => by
    rw [List.all_cons, Bool.and_eq_true] at f
    rcases List.mem_cons.mp hu with rfl | hu
    · rw [eqU_of r f.1]; exact eqAt_V r rx f.1 fx
    · exact mem_eqAt rx fx t f.2 u' hu
def inV (x : V) (xs : List V) : Bool := xs.any fun y => eqV y x
/-- x in a list or tuple of flat items -/
def rIn (K : PySem.W.Frag) (neg : Bool) : R2 := fun x y H Q => ∃ p xs, y = .ref p ∧ (SqL K H p xs ∨ SqT K H p xs) ∧ flatV x = true ∧ xs.all flatV = true ∧ Q (.bl (if neg then !inV x xs else inV x xs)) H
theorem op_in_seq : OpR X (compareOp .In) (rIn X.K false) := by
  intro pins s σ H x y v u Q I rx ry h
  obtain ⟨p, xs, rfl, hq, fx, fs, q⟩ := h
  cases ry
  rcases hq with hq | hq
  · obtain ⟨its, r, pl, hz⟩ := I.list hq
    refine SeqAt.in_listAt (eqU x) pl.isList (fun w hw => mem_eqAt rx fx r fs w (by simpa using hw)) ⟨.bl _, H, I, rfl, ?_⟩
    rw [show its.toArray.any (eqU x) = its.any (eqU x) by simp, any_eqU r fs]
    exact q
  · obtain ⟨its, r, pl, hz⟩ := I.tuple hq
    refine SeqAt.in_tupleAt (eqU x) pl (fun w hw => mem_eqAt rx fx r fs w (by simpa using hw)) ⟨.bl _, H, I, rfl, ?_⟩
    rw [show its.toArray.any (eqU x) = its.any (eqU x) by simp, any_eqU r fs]
    exact q
theorem op_notIn_seq : OpR X (compareOp .NotIn) (rIn X.K true) := by
  intro pins s σ H x y v u Q I rx ry h
  obtain ⟨p, xs, rfl, hq, fx, fs, q⟩ := h
  cases ry
  rcases hq with hq | hq
  · obtain ⟨its, r, pl, hz⟩ := I.list hq
    refine SeqAt.notIn_listAt (eqU x) pl.isList (fun w hw => mem_eqAt rx fx r fs w (by simpa using hw)) ⟨.bl _, H, I, rfl, ?_⟩
    rw [show its.toArray.any (eqU x) = its.any (eqU x) by simp, any_eqU r fs]
    exact q
  · obtain ⟨its, r, pl, hz⟩ := I.tuple hq
    refine SeqAt.notIn_tupleAt (eqU x) pl (fun w hw => mem_eqAt rx fx r fs w (by simpa using hw)) ⟨.bl _, H, I, rfl, ?_⟩
    rw [show its.toArray.any (eqU x) = its.any (eqU x) by simp, any_eqU r fs]
    exact q

/-! ### len, list(x), tuple(x) of any list or tuple that is read -/
theorem call_len_seq : CallR X (.builtin "len") (fun xs H Q => ∃ p ys, xs = [.ref p] ∧ (SqL X.K H p ys ∨ SqT X.K H p ys) ∧ Q (.int ys.length) H) := by
  intro pins s σ H xs us Q I r h
  obtain ⟨p, ys, rfl, hq, q⟩ := h
  obtain ⟨u, rfl, rx⟩ := vals1 r
  cases rx
  have hn := line63
  rcases hq with hq | hq
  · obtain ⟨its, r', pl, hz⟩ := I.list hq
    have hlen := r'.length
    exact Calls.call_len_list pl.isList (by simp only [List.size_toArray] <;> omega) ⟨.int ys.length, H, I.tok _, ⟨s.toks + 1, by rw [List.size_toArray, hlen]⟩, q⟩
  · obtain ⟨its, r', pl, hz⟩ := I.tuple hq
    have hlen := r'.length
    exact len_tuple pl (by simp only [List.size_toArray] <;> omega) ⟨.int ys.length, H, I.tok _, ⟨s.toks + 1, by rw [List.size_toArray, hlen]⟩, q⟩
theorem call_len_str : CallR X (.builtin "len") (fun xs H Q => ∃ z, xs = [.str z] ∧ z.length ≤ sizeLine ∧ Q (.int z.length) H) := by
  intro pins s σ H xs us Q I r h
  obtain ⟨z, rfl, hz, q⟩ := h
  obtain ⟨u, rfl, t, rfl⟩ := vals1 r
  have hn := line63
  exact len_str (by omega) ⟨.int z.length, H, I.tok _, ⟨_, rfl⟩, q⟩
theorem CallR.or {f : Value} {r r' : List V → Hp → VK → Prop} (h : CallR X f r) (h' : CallR X f r') : CallR X f (fun xs H Q => r xs H Q ∨ r' xs H Q) := by
  intro pins s σ H xs us Q I rs q
  rcases q with q | q
  · exact h pins s σ H xs us Q I rs q
  · exact h' pins s σ H xs us Q I rs q
theorem call_list_of : CallR X (.type "list") (fun xs H Q => ∃ p ys, xs = [.ref p] ∧ (SqL X.K H p ys ∨ SqT X.K H p ys) ∧ ∀ l, H l = none → Q (.ref l) (upd H l (.lst ys))) := by
  intro pins s σ H xs us Q I r h
  obtain ⟨p, ys, rfl, hq, q⟩ := h
  obtain ⟨u, rfl, rx⟩ := vals1 r
  cases rx
  have fin : ∀ (its : List Value), Vals ys its → ys.length ≤ sizeLine → ∀ (h' : Heap) (c' : Nat), (∀ b o', s.heap.get? b = some o' → h'.get? b = some o') →
      h'.get? s.heap.objs.size = some { cls := .type "list", dict := none, data := .seq its.toArray c', slots := #[] } → EP X pins σ Q (.ref s.heap.objs.size) { s with heap := h' } := fun its r' hz h' c' kp e =>
    ⟨.ref s.heap.objs.size, _, I.laid (t' := s.toks) kp (Nat.le_refl _) (show ObjOk X.prog X.w _ h' _ (.lst ys) from ⟨hz, its, c', r', e⟩), rfl, q _ (I.hok.fresh (Nat.le_refl _))⟩
  rcases hq with hq | hq
  · obtain ⟨its, r', pl, hz⟩ := I.list hq
    have hlen := r'.length
    obtain ⟨o, ho, hc, n, hd⟩ := pl.isList
    exact call_list_seq p (.inl rfl) ho hc hd (fun h' c' kp e => fin its r' hz h' c' kp e) (by simp only [List.size_toArray] <;> omega)
  · obtain ⟨its, r', pl, hz⟩ := I.tuple hq
    have hlen := r'.length
    obtain ⟨o, ho, hc, n, hd⟩ := pl
    exact call_list_seq p (.inr rfl) ho hc hd (fun h' c' kp e => fin its r' hz h' c' kp e) (by simp only [List.size_toArray] <;> omega)
theorem call_tuple_of : CallR X (.type "tuple") (fun xs H Q => ∃ p ys, xs = [.ref p] ∧ ((SqL X.K H p ys ∧ ∀ l, H l = none → Q (.ref l) (upd H l (.tup ys))) ∨ (SqT X.K H p ys ∧ Q (.ref p) H))) := by
  intro pins s σ H xs us Q I r h
  obtain ⟨p, ys, rfl, h⟩ := h
  obtain ⟨u, rfl, rx⟩ := vals1 r
  cases rx
  rcases h with ⟨hq, q⟩ | ⟨hq, q⟩
  · obtain ⟨its, r', pl, hz⟩ := I.list hq
    have hlen := r'.length
    refine call_tuple_list pl.isList (fun h' kp => ?_) (by simp only [List.size_toArray] <;> omega)
    have I1 : Inv X pins σ H { s with heap := h' } := I.kept (t' := s.toks) kp
    have I2 : Inv X pins σ (upd H h'.objs.size (.tup ys)) { s with heap := h'.push { cls := .type "tuple", data := .seq its.toArray } } :=
      I1.laid (t' := s.toks) (fun b o e => Heap.get?_push_of_some _ e) (Nat.le_refl _) (show ObjOk X.prog X.w _ _ _ (.tup ys) from ⟨hz, its, r', IsTup.new _ _⟩)
    exact ⟨.ref h'.objs.size, _, I2, rfl, q _ (I1.hok.fresh (Nat.le_refl _))⟩
  · obtain ⟨its, r', pl, hz⟩ := I.tuple hq
    exact call_tuple_same pl ⟨.ref p, H, I, rfl, q⟩

/-! ### the call of a builtin's method: o.m(..) -/
/-- the value is of that builtin type -/
def tyV (K : PySem.W.Frag) (T : String) (x : V) (H : Hp) : Prop := match x with
  | .str _ => T = "str"
  | .int _ => T = "int"
  | .ref p => (T = "list" ∧ ∃ xs, SqL K H p xs) ∨ (T = "tuple" ∧ ∃ o, K.lookup p = some o ∧ o.cls = .type "tuple" ∧ o.dict = none) ∨
      (T = "dict" ∧ ((∃ kvs, H p = some (.dK kvs)) ∨ ∃ kvs, H p = some (.dT kvs))) ∨ (T = "set" ∧ ∃ S n, H p = some (.set S n))
  | _ => False
theorem tyV_is {pins : List (Addr × Obj)} {σ : St} {H : Hp} {s : Shared} {T : String} {x : V} {v : Value} (I : Inv X pins σ H s) (r : RelV x v) (ty : tyV X.K T x H) :
    s.TypeIs v T ∧ ∀ a, v = .ref a → ∃ ob, s.heap.get? a = some ob ∧ ob.dict = none := by
  cases x with
  | str z =>
    obtain ⟨t, rfl⟩ := r
    cases (show T = "str" from ty)
    exact ⟨typeIs_str s z t, fun _ e => nomatch e⟩
  | int i =>
    obtain ⟨t, rfl⟩ := r
    cases (show T = "int" from ty)
    exact ⟨typeIs_int s i t, fun _ e => nomatch e⟩
  | ref p =>
    cases r
    rcases ty with ⟨rfl, xs, hq⟩ | ⟨rfl, o, hk, hc, hd⟩ | ⟨rfl, hk⟩ | ⟨rfl, S, n, hk⟩
    · obtain ⟨its, _, pl, _⟩ := I.list hq
      refine ⟨pl.isList.typeIs, fun a e => ?_⟩
      cases e
      obtain ⟨o, n, e, c, hd, _⟩ := pl
      exact ⟨o, e, hd⟩
    · refine ⟨⟨o, I.kIn p o hk, hc⟩, fun a e => ?_⟩
      cases e
      exact ⟨o, I.kIn _ o hk, hd⟩
    · have z : ∃ o, s.heap.get? p = some o ∧ o.ExactDict := by
        rcases hk with ⟨kvs, hk⟩ | ⟨kvs, hk⟩
        · obtain ⟨_, _, _, _, o, _, _, e, ex, _⟩ := I.hok p _ hk
          exact ⟨o, e, ex⟩
        · obtain ⟨_, _, _, _, o, _, _, e, ex, _⟩ := I.hok p _ hk
          exact ⟨o, e, ex⟩
      obtain ⟨o, e, ex⟩ := z
      refine ⟨⟨o, e, ex.1⟩, fun a e2 => ?_⟩
      cases e2
      exact ⟨o, e, ex.2.1⟩
    · obtain ⟨o, _, _, _, e, ex, _⟩ := I.hok p _ hk
      refine ⟨⟨o, e, ex.1⟩, fun a e2 => ?_⟩
      cases e2
      exact ⟨o, e, ex.2.1⟩
  | _ => exact False.elim ty
def tBM0 (K : PySem.W.Frag) (T : String) (r : V → List V → Hp → VK → Prop) (to : TE) : TE := fun σ H Q => to σ H fun x H1 => tyV K T x H1 ∧ r x [] H1 Q
def tBM (K : PySem.W.Frag) (T : String) (r : V → List V → Hp → VK → Prop) (to : TE) (t : TA) : TE := fun σ H Q => to σ H fun x H1 => tyV K T x H1 ∧ t σ H1 fun xs H2 => r x xs H2 Q
variable {o e : Expr} {es : List Expr} {to : TE} {t : TA} {name : Str} {apos cpos : Pos} {T id : String} {r : V → List V → Hp → VK → Prop}
theorem pe_bm0 (pa : PlainAttrs T) (slot : Slot T name id) (hty : typeOf (.builtin id) = pure (.type "method_descriptor")) (hm : MtR X id r) (ho : PE X o to)
    (hbase : attributeBase o name X.env (eval o X.env) = eval o X.env := by rfl) (hline : (apos.endLine == cpos.line) = true := by rfl) : PE X (.Call (.Attribute o name apos) [] [] cpos) (tBM0 X.K T r to) := by
  intro pins s σ H Q I h
  refine wpAny_Call_method0_late hbase hline (thn (ho pins s σ H _ I h) fun v s1 ⟨x, H1, I1, r1, ty, q1⟩ => ?_)
  obtain ⟨h1, h2⟩ := tyV_is I1 r1 ty
  exact ⟨T, id, pa, slot, hty, h1, h2, Calls.callWith_builtin rfl (PySem.evalArgs_none (hm pins s1 σ H1 x [] v [] Q I1 r1 .nil q1))⟩
theorem pe_bm (pa : PlainAttrs T) (slot : Slot T name id) (hty : typeOf (.builtin id) = pure (.type "method_descriptor")) (hm : MtR X id r) (ho : PE X o to) (ha : PA X (e :: es) t)
    (hbase : attributeBase o name X.env (eval o X.env) = eval o X.env := by rfl)
    (hfew : ((backTo cpos (starEach (e :: es) X.env)).all (fun x => !x.1) && (backToKw cpos (keywordEach [] X.env)).all (fun x => x.1.isSome)
      && decide ((e :: es).length + ([] : List Keyword).length + (if ([] : List Keyword).isEmpty then 0 else 1) < 30)) = true := by rfl)
    (hline : (apos.endLine == cpos.line) = true := by rfl) (hs : starEach (e :: es) X.env = (false, eval e X.env) :: starEach es X.env := by rfl) (hplain : (backTo cpos (starEach es X.env)).any (·.1) = false := by rfl) :
    PE X (.Call (.Attribute o name apos) (e :: es) [] cpos) (tBM X.K T r to t) := by
  intro pins s σ H Q I h
  refine wpAny_Call_method_late hbase hfew hline rfl (thn (ho pins s σ H _ I h) fun v s1 ⟨x, H1, I1, r1, ty, q1⟩ => ?_)
  obtain ⟨h1, h2⟩ := tyV_is I1 r1 ty
  refine ⟨T, id, pa, slot, hty, h1, h2, ?_⟩
  have hA := ha cpos pins s1 σ H1 _ I1 q1
  rw [hs] at hA ⊢
  refine Calls.callWith_builtin (by show (false || (backTo cpos (starEach es X.env)).any (·.1)) = false; rw [hplain] <;> rfl) (Calls.evalArgs_plain ?_)
  exact thn hA fun us s2 ⟨vs, H2, I2, r2, q2⟩ => hm pins s2 σ H2 x vs v us Q I2 r1 r2 q2
/- xs.append(e), list.index on a module's tuple .. are MtR facts of 06m -/
end
end L2

namespace L2
open PySem PySem.Spec PyProof.Rows

def MtM (X : Cx) (id : String) (r : V → List V → Hp → VK → Prop) : Prop :=
  ∀ (pins : List (Addr × Obj)) (s : Shared) (σ : St) (H : Hp) (x : V) (xs : List V) (v : Value) (us : List Value) (Q : VK), Inv X pins σ H s → RelV x v → Vals xs us → r x xs H Q →
    wpAny (model X.prog X.w) X.A (call (.builtin id) (v :: us)) (EP X pins σ Q) X.xe s

/-! ### lists of values -/
theorem Vals.one : ∀ {x : V} {us : List Value}, Vals [x] us → ∃ u, us = [u] ∧ RelV x u
  | _, _, .cons r .nil => ⟨_, rfl, r⟩
theorem Vals.two : ∀ {x y : V} {us : List Value}, Vals [x, y] us → ∃ u v, us = [u, v] ∧ RelV x u ∧ RelV y v
  | _, _, _, .cons r (.cons q .nil) => ⟨_, _, rfl, r, q⟩
theorem Vals.zero : ∀ {us : List Value}, Vals [] us → us = []
  | _, .nil => rfl
theorem Vals.reverse {xs : List V} {us : List Value} (h : Vals xs us) : Vals xs.reverse us.reverse := by
  induction h with
  | nil => exact .nil
  | cons r t ih => rw [List.reverse_cons, List.reverse_cons]; exact Vals.append ih (.cons r .nil)
theorem Vals.rep {xs : List V} {us : List Value} (h : Vals xs us) : ∀ k : Nat, Vals (List.replicate k xs).flatten (List.replicate k us).flatten
  | 0 => .nil
  | k + 1 => by
    rw [List.replicate_succ, List.replicate_succ, List.flatten_cons, List.flatten_cons]
    exact Vals.append h (Vals.rep h k)
theorem foldl_rep (its : List Value) : ∀ (k : Nat) (acc : List Value),
    List.foldl (fun x1 x2 => x1 ++ x2) acc.toArray (List.replicate k its.toArray) = (acc ++ (List.replicate k its).flatten).toArray
  | 0, acc => by simp
  | k + 1, acc => by
    have e : acc.toArray ++ its.toArray = (acc ++ its).toArray := by simp
    have e2 : (acc ++ its) ++ (List.replicate k its).flatten = acc ++ (List.replicate (k + 1) its).flatten := by
      rw [List.replicate_succ, List.flatten_cons, List.append_assoc]
    rw [← e2, ← foldl_rep its k (acc ++ its), ← e, List.replicate_succ, List.foldl_cons]

section
variable {X : Cx} {pins : List (Addr × Obj)} {σ : St} {H : Hp} {s : Shared} {l b : Addr} {xs ys zs : List V}

/-! ### the two steps: a tracked list is rewritten, a new list is laid -/
theorem Inv.lset {its its' : List Value} {n : Nat} {f : Array Value → Array Value} {t' : Nat} (I : Inv X pins σ H s) (hH : H l = some (.lst xs))
    (e : s.heap.get? l = some { cls := .type "list", data := .seq its.toArray n }) (hf : f its.toArray = its'.toArray) (hv : Vals ys its') (hz : ys.length ≤ sizeLine) :
    Inv X pins σ (upd H l (.lst ys)) { s with heap := s.heap.update l (Obj.mapSeq f), toks := t' } := by
  have q := PySem.IsL.update e f
  rw [hf] at q
  refine I.write (x := l) (e := l) (by rw [hH]; exact trivial) (.inl rfl) (fun b' u hb hu => (Heap.get?_update_other s.heap (Obj.mapSeq f) (Ne.symm hb)).trans hu) ⟨_, q⟩ ?_
  exact ⟨hz, its', _, hv, q⟩
theorem Inv.lnew {its : List Value} {t' : Nat} (I : Inv X pins σ H s) (hv : Vals ys its) (hz : ys.length ≤ sizeLine) :
    Inv X pins σ (upd H s.heap.objs.size (.lst ys)) { s with heap := s.heap.push { cls := .type "list", data := .seq its.toArray }, toks := t' } :=
  I.laid (fun _ _ q => Heap.get?_push_of_some _ q) (Nat.le_refl _) ⟨hz, its, 0, hv, Heap.get?_push_size _ rfl⟩
theorem Inv.fresh (I : Inv X pins σ H s) : H s.heap.objs.size = none := I.hok.fresh (Nat.le_refl _)
theorem Inv.lstM (I : Inv X pins σ H s) (hH : H l = some (.lst xs)) : xs.length ≤ sizeLine ∧ ∃ (its : List Value) (n : Nat), Vals xs its ∧ xs.length = its.length ∧ s.heap.get? l = some { cls := .type "list", data := .seq its.toArray n } := by
  obtain ⟨z, its, n, r, e⟩ := I.hok l _ hH
  exact ⟨z, its, n, r, r.length, e⟩

theorem notLongL {n : Nat} (h : n ≤ sizeLine) : Builtin.List.listTooLong n = false := by
  unfold Builtin.List.listTooLong
  exact decide_eq_false (by omega)
end

section
variable {X : Cx}

/-! ### methods -/
def rAppend : V → List V → Hp → VK → Prop := fun x vs H Q => ∃ l xs y, x = .ref l ∧ vs = [y] ∧ H l = some (.lst xs) ∧ xs.length < sizeLine ∧ Q .non (upd H l (.lst (xs ++ [y])))
theorem mt_append : MtM X "list.append" rAppend := by
  intro pins s σ H x vs v us Q I rx rv h
  obtain ⟨l, xs, y, rfl, rfl, hH, hz, q⟩ := h
  cases rx
  obtain ⟨u, rfl, ru⟩ := rv.one
  obtain ⟨z, its, n, r, hl, e⟩ := I.lstM hH
  refine call_meets F.slot_list_append ⟨_, e, rfl⟩ F.entry_list_append (F.args_list_append_2 _ _) (PySem.list_append l its.toArray n u (by rw [List.size_toArray]; omega)) ⟨e, ?_⟩
  refine ⟨.non, _, I.lset (its' := its ++ [u]) hH e (by simp) (r.append (.cons ru .nil)) ?_, rfl, q⟩
  rw [List.length_append, List.length_singleton]
  omega






/-! ### list + list, list += list, list * int -/
def rCat : R2 := fun x y H Q => ∃ l b xs zs, x = .ref l ∧ y = .ref b ∧ H l = some (.lst xs) ∧ H b = some (.lst zs) ∧ xs.length + zs.length ≤ sizeLine ∧ ∀ p, H p = none → Q (.ref p) (upd H p (.lst (xs ++ zs)))
theorem op_cat : OpR X (binaryOp .Add) rCat := by
  intro pins s σ H x y v u Q I rx ry h
  obtain ⟨l, b, xs, zs, rfl, rfl, hH, hB, hz, q⟩ := h
  cases rx
  cases ry
  obtain ⟨z, its, n, r, hl, e⟩ := I.lstM hH
  obtain ⟨z2, its2, n2, r2, hl2, e2⟩ := I.lstM hB
  refine PySem.P.add_list e e2 ?_ (by rw [List.size_toArray, List.size_toArray]; omega)
  have ea : its.toArray ++ its2.toArray = (its ++ its2).toArray := by simp
  rw [ea]
  exact ⟨.ref _, _, I.lnew (t' := s.toks) (r.append r2) (by rw [List.length_append]; omega), rfl, q _ I.fresh⟩
/-- a list times an int (a negative one is nothing) -/
def rRep : R2 := fun x y H Q => ∃ l k xs, x = .ref l ∧ y = .int k ∧ H l = some (.lst xs) ∧ -(2 ^ 63) ≤ k ∧ k < 2 ^ 63 ∧ xs.length * k.toNat ≤ sizeLine ∧
  ∀ p, H p = none → Q (.ref p) (upd H p (.lst (List.replicate k.toNat xs).flatten))
theorem len_rep {α : Type} (xs : List α) (k : Nat) : (List.replicate k xs).flatten.length = k * xs.length := by
  induction k with
  | zero => simp
  | succ k ih => rw [List.replicate_succ, List.flatten_cons, List.length_append, ih, Nat.succ_mul, Nat.add_comm]
theorem op_rep : OpR X (binaryOp .Mult) rRep := by
  intro pins s σ H x y v u Q I rx ry h
  obtain ⟨l, k, xs, rfl, rfl, hH, h1, h2, hz, q⟩ := h
  cases rx
  obtain ⟨t, rfl⟩ := ry
  obtain ⟨z, its, n, r, hl, e⟩ := I.lstM hH
  have hlen : its.toArray.size * k.toNat ≤ sizeLine := by rw [List.size_toArray, ← hl]; exact hz
  have hcap : ¬ its.toArray.size * k.toNat > (2 ^ 63 - 1) / 8 := by
    have : (sizeLine : Nat) ≤ (2 ^ 63 - 1) / 8 := by decide
    omega
  have hfit : ¬ (!Builtin.List.listFitsIndex k) = true := by
    rw [fitsIndex_both h1 h2]
    exact Bool.false_ne_true
  have hlong : ¬ Builtin.List.listTooLong (its.toArray.size * k.toNat) = true := by
    rw [notLongL hlen]
    exact Bool.false_ne_true
  have hnew : List.foldl (fun x1 x2 => x1 ++ x2) #[] (List.replicate (if its.toArray.isEmpty = true then 0 else k.toNat) its.toArray) = (List.replicate k.toNat its).flatten.toArray := by
    have f0 : ∀ m : Nat, List.foldl (fun x1 x2 => x1 ++ x2) #[] (List.replicate m its.toArray) = (List.replicate m its).flatten.toArray := fun m => by
      have := foldl_rep its m []
      rw [List.nil_append] at this
      exact this
    rw [f0]
    cases its with
    | nil => simp
    | cons a r' => rw [if_neg (by simp)]
  refine wpAny_binaryOp_repeat_ref (T := "list") (U := "int") (by decide) ⟨_, e, rfl⟩ (fun s' => typeIs_int s' k t) noFill_list_mul F.fills_int_mul F.slot_int_rmul repeat_list F.slot_int_index.lookup
    (call_meets F.slot_int_rmul (typeIs_int s k t) F.entry_int_rmul (F.args_int_rmul_2 _ _) (int___rmul___int_list k t l its.toArray n)
      ⟨e, rfl, ⟨_, e, rfl⟩, call_meets F.slot_list_mul ⟨_, e, rfl⟩ F.entry_list_mul (F.args_list_mul_2 _ _) (AutoListH.list___mul___list_int_3 l its.toArray n k t hfit hcap hlong) ⟨e, ?_⟩⟩)
  rw [hnew]
  exact ⟨.ref _, _, I.lnew (t' := s.toks) (r.rep k.toNat) (by rw [len_rep, Nat.mul_comm]; exact hz), rfl, q _ I.fresh⟩

/-! ### del xs[i] -/
end

/-! ### xs[a:b] = ys -/
section
variable {prog : Program} {w : World} {A : Around} {E : Value → Shared → Prop} {s : Shared}
end

section
variable {X : Cx}
end
end L2

namespace Att
open PySem PySem.W PySem.Calls PyProof.Rows

/-! ### the script -/
theorem ints_of_wellAll {P : Params} {h : Heap} : ∀ (ns : List Int) (vs : List Value), WellAll P h vs (ns.map WData.int) → IntsAre vs ns := by
  intro ns
  induction ns with
  | nil =>
    intro vs w
    rw [List.map_nil] at w
    cases w
    exact .nil
  | cons n ns ih =>
    intro vs w
    rw [List.map_cons] at w
    cases w with
    | cons a b =>
      cases a
      exact .cons _ _ (ih _ b)

theorem script_of {l : OpenLaw} {n : Nat} (hn : l.most = some n) {P : Params} {h : Heap} {args : List WData} {vals : List Value}
    (hpre : l.row.toRowW.claim.pre args = true) (hwl : WellAll P h vals args) :
    ∃ a vs ns, vals = [Value.ref a] ∧ args = [WData.list (ns.map WData.int)] ∧ h.get? a = some { cls := .type "list", data := .seq vs.toArray } ∧ IntsAre vs ns ∧ ns.length ≤ n := by
  have hsh : WShape.hasAll [] args [.list .int] = true := (pre_splitW hpre).1
  have hc : l.pre.holds [] { args := args } = true := (pre_splitW hpre).2
  obtain ⟨d, r, rfl, h1, h2⟩ := hasAllW_cons hsh
  obtain rfl := hasAllW_nil h2
  obtain ⟨xs, rfl, h3⟩ := hasW_list h1
  obtain ⟨ns, rfl⟩ := items_int h3
  have hlen : ns.length ≤ n := by
    unfold OpenLaw.pre at hc
    have h4 : (WTm.not (.lt (.lit (.int (n : Int))) (.len (.arg 0)))).holds [] { args := [.list (ns.map .int)] } = true := by
      have h4 := (holds_andW hc).1
      rw [hn] at h4
      exact h4
    have h5 := condW_of h4 (w_not (w_lt w_lit (w_len_list (w_arg rfl))))
    rw [List.length_map] at h5
    refine Nat.le_of_not_lt fun q => ?_
    have q' : (n : Int) < ((ns.length : Nat) : Int) := by omega
    first
      | (rw [decide_eq_true q'] at h5; exact absurd h5 (by decide))
      | (simp at h5; omega)
  cases hwl with
  | cons w1 w2 =>
    cases w2
    cases w1 with
    | list ho hall => exact ⟨_, _, ns, rfl, rfl, ho, ints_of_wellAll ns _ hall, hlen⟩

theorem post_true (l : OpenLaw) (args : List WData) : l.row.toRowW.claim.post args (.bool true) args = true :=
  postW_of (r := l.row.toRowW) (X := (true == true))
    (show WShape.has [] (.bool true) .bool = true by first | rfl | decide | simp [WShape.has, WShape.arms, WShape.armsAll])
    (show (WTm.eq .res (.lit (.bool true))).value [] { args := args, res := some (.bool true), after := args } = some (.bool (true == true)) from w_eq_bool (w_res rfl) w_lit) rfl

/-! ### the attachment: holds_open's last premise (the goal 'hc' behind k_head) from a wpAny of the law's body -/

/-- the same from a codeAny of the CALL (for a layer whose function contracts speak of calls) -/
theorem attach_call {l : OpenLaw} {n : Nat} {q : Program} {loose : List Str} {XP : (Str → Option Value) → Heap → Prop} {YP : World → Heap → Prop} {d : DefRec}
    (hn : l.most = some n) (hdf : d.params.defaults = [])
    (call : ∀ (w : World) (s₀ s₁ : Shared) (mg mb : Str → Option Value) (fa : Addr) (o : Obj) (pm cd doc : Value) (a : Addr) (vs : List Value) (ns : List Int),
      Ground q loose [] XP w s₀ mg mb s₁.heap → YP w s₁.heap →
      s₁.heap.get? fa = some o → o.data = .func (docDef d.name d.params d.body d.scope pm cd doc) → s₁.heap.CodeRec cd d.name → mg d.name = some (.ref fa) →
      s₁.heap.get? a = some { cls := .type "list", data := .seq vs.toArray } → IntsAre vs ns → ns.length ≤ n → s₁.gens = #[] →
      codeAny (model l.prog w) callerA (.call (.ref fa) ⟨[.ref a], []⟩) (fun r s' => r = .ok (.ret (.bool true)) ∧ OldK s₁.heap s'.heap ∧ s'.os = s₁.os ∧ AllBare s'.gens) s₁) :
    WalkO q loose XP YP l.row.toRowW d [] (fun f vs => PySem.call f vs) := by
  intro w s₀ s₁ mg mb G Y fa o pm cd doc dV kV ho hd hcd hD hmg hg args vals as hpre hlay hrd hwl hlo
  obtain rfl : dV = .none := Dflts.none hD hdf
  obtain rfl : kV = .none := Dflts.noKw hD
  obtain ⟨a, vs, ns, rfl, rfl, hobj, hints, hlen⟩ := script_of hn hpre hwl
  refine enter_call (codeAny_mono (call w s₀ s₁ mg mb fa o pm cd doc a vs ns G Y ho (fd_plain hd) hcd hmg hobj hints hlen hg) fun r s' hq => ?_)
  obtain ⟨rfl, h2, h3, h4⟩ := hq
  exact ⟨.inl ⟨.bool true, .bool true, [], rfl, fun _ => rfl, .bool true, post_true l _, fun _ => ⟨List.Pairwise.nil, fun _ hm => (nomatch hm)⟩⟩, h2, h3, h4⟩


/-! ### rules over ANY heap (no ledger) from facts about the written part K: the library's own take a ledger (News) for what they write -/
section
variable {prog : Program} {w : World} {A : Around} {E : Value → Shared → Prop} {s : Shared} {K : Frag}





/-! the whole heap as the ledger: makes every rule that writes through a ledger a rule over any heap -/
def ledger (h : Heap) (L d : Addr) : List (Addr × Obj) := (List.range h.objs.size).filterMap fun a => if a = L ∨ a = d then none else (h.get? a).map fun o => (a, o)

end
end Att

namespace L2
open PySem PySem.Spec PyProof.Rows

theorem vals_ints : ∀ {vs : List Value} {ns : List Int}, IntsAre vs ns → Vals (ns.map V.int) vs
  | _, _, .nil => .nil
  | _, _, .cons n t h => .cons ⟨t, rfl⟩ (vals_ints h)

/-- nothing is tracked but the script, known to the object (or it is an object of the module) -/
def Only (H : Hp) : Prop := ∀ b, H b = none ∨ ∃ o xs, H b = some (.frz o (.lst xs))

/-- THE HEAD: the law's promise, at the heap behind the top. F, the promise of the law's def, may use that base is part of the heap (so K.In base, base.Ns mainGlobals mg stand in Mod) -/
theorem law_call {P : Program} {w : World} {K : PySem.W.Frag} {mg mb : Str → Option Value} {CX : CXT} {k : Nat} {fa a : Addr} {fd : FuncData} {x : Str} {sp : Sp} {s₁ : Shared} {vs : List Value} {ns : List Int}
    (KX : K.In s₁.heap) (hns : s₁.heap.Ns mainGlobals mg) (hb : s₁.heap.Ns builtinsNs mb) (hbb : ∀ x : Str, x ≠ "__name__" → mb x = bootBuiltins x) (hlim : s₁.heap.NoLimit) (hg : s₁.gens = #[])
    (ha : s₁.heap.get? a = some { cls := .type "list", data := .seq vs.toArray }) (hi : IntsAre vs ns) (hl : ns.length ≤ sizeLine) (hr : Room k callerA)
    (F : ∀ base : Heap, K.In base → base.Ns mainGlobals mg → FnOk P w K mg base CX k fa fd [x] sp) (hbind : ∀ (s : Shared) (u : Value), BindsTo s fd ⟨[u], []⟩ [(x, u)])
    (hsp : ∀ H : Hp, Only H → SqL K H a (ns.map V.int) → sp [.ref a] H (fun v _ => v = .bl true) fun _ _ _ => False)
    (hCX : ∀ H e s', CX [] H s₁ (fun _ _ _ => False) e s' → False) :
    codeAny (model P w) callerA (.call (.ref fa) ⟨[.ref a], []⟩) (fun r s' => r = .ok (.ret (.bool true)) ∧ OldK s₁.heap s'.heap ∧ s'.os = s₁.os ∧ AllBare s'.gens) s₁ := by
  have rv := vals_ints hi
  have lenV := hi.length
  -- from an abstract heap in which nothing but the script may be tracked
  have core : ∀ H : Hp, Only H → SqL K H a (ns.map V.int) → HOk P w H s₁.heap → (∀ b, H b ≠ none → b = a) → (H a ≠ none → K.lookup a = none) →
      codeAny (model P w) callerA (.call (.ref fa) ⟨[.ref a], []⟩) (fun r s' => r = .ok (.ret (.bool true)) ∧ OldK s₁.heap s'.heap ∧ s'.os = s₁.os ∧ AllBare s'.gens) s₁ := by
    intro H hO hS hok hA hK
    have base_of : ∀ {b : Addr} {o : Obj}, s₁.heap.get? b = some o → H b = none → (hidT s₁.heap H).get? b = some o := fun e n => hidT_get e n
    have noA : ∀ {b : Addr} {o : Obj} {es : Array DictEntry} {ep : Nat}, s₁.heap.get? b = some o → o.data = .dict es ep → H b = none := fun {b o es ep} e d => by
      cases q : H b with
      | none => rfl
      | some u =>
        have e' : b = a := hA b (by rw [q]; simp)
        subst e'
        rw [ha] at e; cases e
        have d' : Data.seq vs.toArray _ = Data.dict es ep := d
        cases d'
    have nsK : ∀ {b : Addr} {m : Str → Option Value}, s₁.heap.Ns b m → (hidT s₁.heap H).Ns b m := fun {b m} ⟨o, es, ep, e, d, r⟩ => ⟨o, es, ep, base_of e (noA e d), d, r⟩
    have hKb : K.In (hidT s₁.heap H) := fun b o e => base_of (KX b o e) (by
      cases q : H b with
      | none => rfl
      | some u =>
        have e' : b = a := hA b (by rw [q]; simp)
        subst e'
        rw [hK (by rw [q]; simp)] at e; cases e)
    have hM : Mod K mg (hidT s₁.heap H) := ⟨hKb, nsK hns, ⟨mb, nsK hb, hbb⟩, let ⟨mc, h1, h2⟩ := hlim; ⟨mc, nsK h1, h2⟩⟩
    have e0 : Env0 P w K mg (hidT s₁.heap H) callerA [] s₁ H := ⟨rfl, hM, fun b o e => of_hidT e, Nat.le_of_eq (hidT_size _ _), trivial, fun b hb => absurd (show b ∈ ([] : List Addr) from hb) (by simp), hok, .of_eq hg⟩
    refine codeAny_mono ((F _ hKb (nsK hns)).run callerA [] s₁ H ⟨[.ref a], []⟩ [.ref a] [.ref a] _ _ hr e0 (hbind s₁ (.ref a)) (.cons rfl .nil) (hsp H hO hS)) fun r s' h => ?_
    cases r with
    | error e => exact (hCX H e s' h).elim
    | ok fl =>
      cases fl with
      | next => exact False.elim h
      | brk => exact False.elim h
      | cont => exact False.elim h
      | ret u =>
        obtain ⟨v, H', os, bare, un, hok', r', q⟩ := h
        have q' : v = .bl true := q
        subst q'
        obtain rfl : u = Value.bool true := r'
        refine ⟨rfl, OldK.of_keep fun b o e => ?_, os, bare⟩
        cases q : H b with
        | none => exact un.keep b o e q (by intro z; exact absurd (show b ∈ ([] : List Addr) from z) (by simp)) (by simp)
        | some u =>
          rcases hO b with z | ⟨ob, xs, z⟩
          · rw [q] at z; cases z
          · have z2 := un.frzs b ob _ z
            obtain ⟨e1, _⟩ := hok b _ z
            obtain ⟨e2, _⟩ := hok' b _ z2
            rw [e] at e1; cases e1
            exact e2
  cases hk : K.lookup a with
  | some o =>
    -- the script is one of the module's own objects
    have e := KX a o hk
    rw [ha] at e
    cases e
    refine core (fun _ => none) (fun _ => .inl rfl) (.inr ⟨_, vs.toArray, _, hk, rfl, rfl, rfl, by rw [List.size_toArray, lenV]; exact hl, by simpa using rv⟩) (fun b u z => by have z' : (none : Option HO) = some u := z; cases z') (fun b z => absurd rfl z) fun z => absurd rfl z
  | none =>
    refine core (fun b => if b = a then some (.frz { cls := .type "list", data := .seq vs.toArray } (.lst (ns.map V.int))) else none) (fun b => ?_) (.inl (.inr ⟨{ cls := .type "list", data := .seq vs.toArray }, if_pos rfl⟩)) (fun b u z => ?_) (fun b z => ?_) fun _ => hk
    · by_cases hb : b = a
      · exact .inr ⟨_, _, if_pos hb⟩
      · exact .inl (if_neg hb)
    · by_cases hb : b = a
      · have z' := (if_pos hb).symm.trans z
        cases z'
        subst hb
        exact ⟨ha, by rw [List.length_map]; exact hl, vs, _, rv, ha⟩
      · have z' := (if_neg hb).symm.trans z
        cases z'
    · by_cases hb : b = a
      · exact hb
      · exact absurd (if_neg hb) z
end L2

namespace L2
open PySem PySem.Spec PyProof.Rows

abbrev KOf {K : PySem.W.Frag} {h : Heap} (_ : K.In h) : PySem.W.Frag := K

/-- the goal that k_head leaves (case hc), from the law's promise. F gives the function object fd (K's own) once, then the promise over every base -/
theorem walk_of {l : PySem.W.OpenLaw} {n k : Nat} {q : Program} {loose : List Str} {XP : (Str → Option Value) → Heap → Prop} {YP : World → Heap → Prop} {d : DefRec} {K : Params → PySem.W.Frag} {CX : World → CXT} {sp : World → Sp} {x : Str}
    (hn : l.most = some n) (hn2 : n ≤ sizeLine) (hdf : d.params.defaults = []) (hr : Room k callerA)
    (hY : ∀ (w : World) (h : Heap), YP w h → (K w.params).In h)
    (F : ∀ (w : World) (mg : Str → Option Value) (fa : Addr) (h : Heap), (K w.params).In h → h.Ns mainGlobals mg → mg d.name = some (.ref fa) →
      ∃ fd : FuncData, (∀ (s : Shared) (u : Value), BindsTo s fd ⟨[u], []⟩ [(x, u)]) ∧
        ∀ base : Heap, (K w.params).In base → base.Ns mainGlobals mg → FnOk l.prog w (K w.params) mg base (CX w) k fa fd [x] (sp w))
    (hsp : ∀ (w : World) (H : Hp) (a : Addr) (ns : List Int), ns.length ≤ n → Only H → SqL (K w.params) H a (ns.map V.int) → sp w [.ref a] H (fun v _ => v = .bl true) fun _ _ _ => False)
    (hCX : ∀ (w : World) (H : Hp) (s : Shared) (e : Value) (s' : Shared), CX w [] H s (fun _ _ _ => False) e s' → False) :
    PySem.W.WalkO q loose XP YP l.row.toRowW d [] (fun f vs => PySem.call f vs) := by
  refine Att.attach_call hn hdf fun w s₀ s₁ mg mb fa o pm cd doc a vs ns G Y ho hd hcd hmg hobj hints hlen hg => ?_
  have KX := hY w _ Y
  obtain ⟨fd, hb, hF⟩ := F w mg fa _ KX G.T.g hmg
  exact law_call KX G.T.g G.T.b G.T.builtins G.T.nolimit hg hobj hints (Nat.le_trans hlen hn2) hr hF hb (fun H hO hS => hsp w H a ns hlen hO hS) fun H e s' => hCX w H s₁ e s'
end L2

/- THE LAST THEOREM (shape; LID, My.* are yours):
   My.Adr: a structure of the addresses that your layer names (classes, functions); My.Txt K t: a structure (Prop) of the equations over K;
   My.txt_mk : {K} {implicit addresses ..} (e1 : nsIn K mainGlobals "law" = some (some (.ref f))) (e2 : K.lookup f = some ⟨oc, od, .func (fnOf "law" "law" params body scope dV kV doc pm an cdv ct), sl⟩) (e3 : codeIn K cdv "law" = true) .. : ∃ t, My.Txt K t

set_option maxRecDepth 100000 in
set_option maxHeartbeats 0 in
theorem PySem.Challenge.cw_LID_holds : PySem.Challenge.rw_LID.Holds := by
  w_on; o_law; k_head; (case hw => w_witness2)
  k_fill
  refine L2.walk_of (l := PySem.Challenge.rw_LID) (n := 63) (k := 40) (x := "script") (CX := fun w => ..) (sp := fun _ => My.sp_law) rfl (by decide) rfl ⟨rfl, by decide, by decide⟩ (fun w h Y => PySem.W.kIn_of Y) ?F ?S ?C
  case F =>
    intro w mg fa h KX G hmg
    have T : ∃ t, My.Txt (L2.KOf KX) t := by
      dsimp only [L2.KOf]                          -- K must stand as «<heap const> w.params» for k_is
      refine' My.txt_mk ?e1 ?e2 ?e3 ..
      (case e1 => PySem.W.k_is)                    -- in the order: a name -> its address -> its object -> its parts
      (case e2 => PySem.W.k_is)
      ..
    obtain ⟨t, T⟩ := T
    have e0 := hmg.symm.trans (PySem.W.mg_of KX G T.law)
    cases e0                                       -- fa is the law's own address
    exact ⟨_, fun s u => .of_eq rfl, fun base kb nb => My.law_fn T kb nb⟩     -- if «.of_eq rfl» comes too early: refine' ⟨_, ?b, fun base kb nb => My.law_fn T kb nb⟩; exact fun s u => .of_eq rfl
  case S => exact fun w H a ns hl hO hS => ..
  case C => exact ..
(the tactic k_is has no namespace: write k_is) -/

/-! SHORT WORDS over the layer: a def of the text, its body, what a loop and a test want. -/
namespace L2
open PySem PySem.Spec PyProof.Rows

/-! ### the text by places -/
def defArgs (s : Stmt) : Arguments := match s with
  | .FunctionDef _ a _ _ _ _ _ _ _ _ => a
  | _ => { posonlyargs := [], args := [], vararg := none, kwonlyargs := [], kw_defaults := [], kwarg := none, defaults := [] }
def defBody (s : Stmt) : List Stmt := match s with
  | .FunctionDef _ _ b _ _ _ _ _ _ _ => b
  | _ => []
def defScope (s : Stmt) : Scope := match s with
  | .FunctionDef _ _ _ _ _ _ sc _ _ _ => sc
  | _ => { kind := .function, names := [], isGenerator := false, isCoroutine := false }

/-! ### no exception leaves a def -/
abbrev CX0 : CXT := fun _ _ _ _ _ _ => False
abbrev E0 : XK := fun _ _ _ => False
theorem pass0 {X : Cx} : Passes CX0 X E0 := fun _ _ _ _ _ _ _ h => h.elim

/-! ### a def (or method) of the text as it stands behind the top -/
structure Fun (K : PySem.W.Frag) (x qual : Str) (st : Stmt) (f : Addr) (fd : FuncData) : Prop where
  ex : ∃ (oc : Value) (od : Option Addr) (kV doc pm : Value) (an : Option Addr) (cdv ct : Value) (osl : Array (Option Value)),
    fd = PySem.W.fnOf x qual (defArgs st) (defBody st) (defScope st) .none kV doc pm an cdv ct ∧ K.lookup f = some ⟨oc, od, .func fd, osl⟩ ∧ PySem.W.codeIn K cdv qual = true
  kp : PySem.W.keepIn K (.ref f) = true
section
variable {P : Program} {w : World} {K : PySem.W.Frag} {mg : Str → Option Value} {base : Heap}
/-- THE RULE for a def: its body as a term of rules, and the reading of that term -/
theorem Fun.ok {x qual : Str} {st : Stmt} {f : Addr} {fd : FuncData} {N ps : List Str} {k : Nat} {sp : Sp} (F : Fun K x qual st f fd) (S : FnScope N ps (defScope st)) (len : ∀ vs H Q E, sp vs H Q E → vs.length = ps.length)
    (hbody : ∀ (cdv : Value) (A : Around) (outer : List Env) (s : Shared) (H : Hp) (vs : List V) (Q : VK) (E : XK), Room k (A.deeper (envOfC qual (defScope st) s.heap.objs.size f cdv)) → sp vs H Q E →
      ∃ t, PSs (cxOf CX0 P w K mg base N qual (defScope st) f cdv A outer s H E).nox (defBody st) t ∧ t { nx := fun _ H' => Q .non H', rt := Q } (start N vs) H) : FnOk P w K mg base CX0 (k + 1) f fd ps sp := by
  obtain ⟨oc, od, kV, doc, pm, an, cdv, ct, osl, rfl, lk, hcd⟩ := F.ex
  refine fn_of lk hcd S len fun A outer s H vs Q E hr hsp => ?_
  obtain ⟨t, h, q⟩ := hbody cdv A outer s H vs Q E hr hsp
  exact ⟨t, h.nox, q⟩
/-- how its arguments bind (no defaults): h is «fun _ _ _ _ _ _ us hl => match us, hl with | [_, _], _ => rfl», one _ a parameter -/
theorem Fun.binds {x qual : Str} {st : Stmt} {f : Addr} {fd : FuncData} {ps : List Str} (F : Fun K x qual st f fd)
    (h : ∀ (kV doc pm : Value) (an : Option Addr) (cdv ct : Value) (us : List Value), us.length = ps.length → bindArgs (PySem.W.fnOf x qual (defArgs st) (defBody st) (defScope st) .none kV doc pm an cdv ct) ⟨us, []⟩ = pure (ps.zip us)) : Binds K fd ps [] := by
  obtain ⟨oc, od, kV, doc, pm, an, cdv, ct, osl, rfl, lk, hcd⟩ := F.ex
  exact .all (h kV doc pm an cdv ct)
theorem fun_mk {x qual : Str} {st : Stmt} {f : Addr} {oc : Value} {od an : Option Addr} {osl : Array (Option Value)} {kV doc pm cdv ct : Value} (l : K.lookup f = some ⟨oc, od, .func (PySem.W.fnOf x qual (defArgs st) (defBody st) (defScope st) .none kV doc pm an cdv ct), osl⟩)
    (c : PySem.W.codeIn K cdv qual = true) (k : PySem.W.keepIn K (.ref f) = true) : Fun K x qual st f (PySem.W.fnOf x qual (defArgs st) (defBody st) (defScope st) .none kV doc pm an cdv ct) := ⟨⟨oc, od, kV, doc, pm, an, cdv, ct, osl, rfl, l, c⟩, k⟩
end

/-! ### expressions in short: the name that stands in the i-th slot -/
section
variable {X : Cx}
theorem pv (i : Nat) {x : Str} {pos : Pos} (hN : X.N[i]? = some x := by rfl) (hv : Vis X.env.scope x := by first | exact Or.inl rfl | exact Or.inr (Or.inl rfl) | exact Or.inr (Or.inr rfl)) (hd : (x == ("__debug__" : Str)) = false := by decide)
    (hcd : (x == ("__classdict__" : Str)) = false := by decide) : PE X (.Name x pos) (tVar i) := pe_var hN hv hd hcd
end

/-! ### tests -/
theorem iteF {A B : Prop} (h : B) : if false = true then A else B := by
  rw [if_neg Bool.false_ne_true]
  exact h
theorem iteT {A B : Prop} (h : A) : if true = true then A else B := by
  rw [if_pos rfl]
  exact h

/-! ### heaps -/
/-- all that was tracked is as it was -/
def Same (H H' : Hp) : Prop := ∀ b o, H b = some o → H' b = some o
theorem Same.refl (H : Hp) : Same H H := fun _ _ h => h
theorem Same.trans {H H1 H2 : Hp} (a : Same H H1) (b : Same H1 H2) : Same H H2 := fun c o h => b c o (a c o h)
theorem Same.free {H H' : Hp} (e : Same H H') {l : Addr} (h : H' l = Option.none) : H l = Option.none := by
  cases q : H l with
  | none => rfl
  | some o =>
    rw [e l o q] at h
    cases h
theorem Same.seq {K : PySem.W.Frag} {H H' : Hp} {a : Addr} {xs : List V} (e : Same H H') (h : SqL K H a xs) : SqL K H' a xs := by
  rcases h with (h | ⟨o, h⟩) | h
  · exact .inl (.inl (e _ _ h))
  · exact .inl (.inr ⟨o, e _ _ h⟩)
  · exact .inr h

end L2
end
section
set_option Elab.async false
set_option linter.all false
set_option maxRecDepth 100000
set_option maxHeartbeats 4000000
namespace L2
open PySem PySem.Spec PyProof.Rows

/-! ### the cells that a block takes over -/
def closL (cells : List (Str × Addr)) : List (Str × NameKind) → List (Str × Addr) → List (Str × Addr)
  | [], cs => cs
  | (n, k) :: r, cs => if (k == NameKind.free) = true then closL cells r ((n, (cells.lookup n).getD 0) :: cs) else closL cells r cs
theorem closL_for {env : Env} : ∀ (names : List (Str × NameKind)) (cs : List (Str × Addr)), (∀ y ∈ names, y.2 = .free → ∃ a, env.cells.lookup y.1 = some a) →
    (forIn names cs fun (x : Str × NameKind) r => match x with | (name, kind) => if (kind == NameKind.free) = true then (do let a ← cellOf env name; pure (ForInStep.yield ((name, a) :: r))) else pure (ForInStep.yield r) : Sem (List (Str × Addr))) = pure (closL env.cells names cs)
  | [], cs, _ => by simp [closL]
  | (n, k) :: r, cs, h => by
    rw [List.forIn_cons]
    have ih := fun cs => closL_for r cs fun y hy => h y (List.mem_cons_of_mem _ hy)
    by_cases hk : (k == NameKind.free) = true
    · obtain ⟨a, ha⟩ := h (n, k) List.mem_cons_self (by simpa using hk)
      have ha' : env.cells.lookup n = some a := ha
      have e : cellOf env n = pure a := by unfold cellOf; rw [ha']
      simp only [hk, if_true, e, pure_bind, closL, ha', Option.getD_some]
      exact ih _
    · simp only [hk, if_false, pure_bind, closL]
      exact ih _
theorem closL_eq {scope : Scope} {env : Env} (h : ∀ y ∈ scope.names, y.2 = .free → ∃ a, env.cells.lookup y.1 = some a) : closureFor scope env = pure (closL env.cells scope.names []) := by
  unfold closureFor
  have := closL_for (env := env) scope.names [] h
  simp only [bind_pure] at this ⊢
  exact this
theorem closL_sub {cells : List (Str × Addr)} {x : Str} {c : Addr} : ∀ {names : List (Str × NameKind)} {cs : List (Str × Addr)}, (∀ y ∈ names, y.2 = .free → ∃ a, cells.lookup y.1 = some a) →
    (closL cells names cs).lookup x = some c → cs.lookup x = some c ∨ cells.lookup x = some c
  | [], cs, _, h => .inl h
  | (n, k) :: r, cs, hh, h => by
    have hr : ∀ y ∈ r, y.2 = .free → ∃ a, cells.lookup y.1 = some a := fun y hy => hh y (List.mem_cons_of_mem _ hy)
    unfold closL at h
    by_cases hk : (k == NameKind.free) = true
    · rw [if_pos hk] at h
      rcases closL_sub hr h with q | q
      · obtain ⟨a, ha⟩ := hh (n, k) List.mem_cons_self (by simpa using hk)
        have ha' : cells.lookup n = some a := ha
        rw [List.lookup_cons] at q
        cases hx : x == n with
        | true =>
          rw [hx, ha'] at q
          have e : x = n := by simpa using hx
          subst e
          cases q
          exact .inr ha'
        | false =>
          rw [hx] at q
          exact .inl q
      · exact .inr q
    · rw [if_neg hk] at h
      exact closL_sub hr h
theorem closL_has {cells : List (Str × Addr)} {x : Str} : ∀ {names : List (Str × NameKind)} {cs : List (Str × Addr)}, ((x, NameKind.free) ∈ names ∨ ∃ c, cs.lookup x = some c) → ∃ c, (closL cells names cs).lookup x = some c
  | [], cs, h => h.elim (fun z => nomatch z) id
  | (n, k) :: r, cs, h => by
    unfold closL
    by_cases hk : (k == NameKind.free) = true
    · rw [if_pos hk]
      refine closL_has ?_
      by_cases hx : x = n
      · subst hx
        exact .inr ⟨_, by rw [List.lookup_cons, beq_self_eq_true]⟩
      · rcases h with h | ⟨c, h⟩
        · rcases List.mem_cons.mp h with e | e
          · cases e; exact absurd rfl hx
          · exact .inl e
        · refine .inr ⟨c, ?_⟩
          rw [List.lookup_cons, show (x == n) = false by simpa using hx]
          exact h
    · rw [if_neg hk]
      refine closL_has ?_
      rcases h with h | h
      · rcases List.mem_cons.mp h with e | e
        · cases e; exact absurd rfl hk
        · exact .inl e
      · exact .inr h

theorem relabel_free {env : Env} {x : Str} : ∀ {names : List (Str × NameKind)}, names.lookup x = some .free →
    (names.map fun (n, k) => if (k == NameKind.free && env.scope.kind == .function && env.kindOf n == some .cell) then (n, NameKind.cell) else (n, k)).lookup x = some .cell ∨
    (names.map fun (n, k) => if (k == NameKind.free && env.scope.kind == .function && env.kindOf n == some .cell) then (n, NameKind.cell) else (n, k)).lookup x = some .free
  | [], h => by simp at h
  | (n, k) :: r, h => by
    have ih := @relabel_free env x r
    show List.lookup x ((if (k == NameKind.free && env.scope.kind == .function && env.kindOf n == some .cell) = true then (n, NameKind.cell) else (n, k)) :: _) = _ ∨ List.lookup x ((if (k == NameKind.free && env.scope.kind == .function && env.kindOf n == some .cell) = true then (n, NameKind.cell) else (n, k)) :: _) = _
    cases hx : x == n with
    | true =>
      simp only [List.lookup_cons, hx] at h
      cases h
      by_cases hc : (NameKind.free == NameKind.free && env.scope.kind == .function && env.kindOf n == some .cell) = true
      · rw [if_pos hc]; simp only [List.lookup_cons, hx]; exact .inl trivial
      · rw [if_neg hc]; simp only [List.lookup_cons, hx]; exact .inr trivial
    | false =>
      simp only [List.lookup_cons, hx] at h
      by_cases hc : (k == NameKind.free && env.scope.kind == .function && env.kindOf n == some .cell) = true
      · rw [if_pos hc]; simp only [List.lookup_cons, hx]; exact ih h
      · rw [if_neg hc]; simp only [List.lookup_cons, hx]; exact ih h
theorem relabel_mem {env : Env} {scope : Scope} {x : Str} {k' : NameKind} (hn : ∀ y ∈ scope.names, y.2 ≠ .cell) (hk : k' = .cell ∨ k' = .free) (h : (relabel scope env).names.lookup x = some k') : (x, NameKind.free) ∈ scope.names := by
  have hm := PySem.mem_of_lookup h
  obtain ⟨⟨n, k⟩, hy, e⟩ := List.mem_map.mp (show (x, k') ∈ scope.names.map _ from hm)
  by_cases hc : (k == NameKind.free && env.scope.kind == .function && env.kindOf n == some .cell) = true
  · simp only [hc, if_true] at e
    cases e
    have : k = .free := by
      have := ((Bool.and_eq_true _ _).mp hc).1
      exact beq_iff_eq.mp ((Bool.and_eq_true _ _).mp this).1
    subst this
    exact hy
  · simp only [hc, if_false] at e
    cases e
    rcases hk with rfl | rfl
    · exact absurd rfl (hn _ hy)
    · exact hy
end L2
end
section
set_option Elab.async false
set_option linter.all false
set_option maxRecDepth 100000
set_option maxHeartbeats 4000000
namespace L2
open PySem PySem.Spec PyProof.Rows

/-! ### a comprehension's block -/
def ixOk (N : List Str) (osc scope : Scope) : List Str → List (Option Nat) → Bool
  | [], [] => true
  | _ :: r, none :: q => ixOk N osc scope r q
  | x :: r, some i :: q => decide (N[i]? = some x) && (decide (osc.names.lookup x = some .cell) || decide (osc.names.lookup x = some .free)) && decide (scope.names.lookup x = some .free) && ixOk N osc scope r q
  | _, _ => false
theorem ix_len {N : List Str} {osc scope : Scope} : ∀ {N' : List Str} {ix : List (Option Nat)}, ixOk N osc scope N' ix = true → ix.length = N'.length
  | [], [], _ => rfl
  | _ :: r, none :: q, h => by
    unfold ixOk at h
    simp [ix_len h]
  | x :: r, some i :: q, h => by
    unfold ixOk at h
    have := ((Bool.and_eq_true _ _).mp h).2
    simp [ix_len this]
  | [], _ :: _, h => by simp [ixOk] at h
  | _ :: _, [], h => by simp [ixOk] at h
theorem ix_at {N : List Str} {osc scope : Scope} : ∀ {N' : List Str} {ix : List (Option Nat)}, ixOk N osc scope N' ix = true → ∀ {j i : Nat} {x : Str}, N'[j]? = some x → ix[j]? = some (some i) →
    N[i]? = some x ∧ (osc.names.lookup x = some .cell ∨ osc.names.lookup x = some .free) ∧ scope.names.lookup x = some .free
  | [], [], _, j, _, _, h, _ => by simp at h
  | _ :: r, none :: q, h, j, i, x, h1, h2 => by
    unfold ixOk at h
    cases j with
    | zero => simp at h2
    | succ j => exact ix_at h (by simpa using h1) (by simpa using h2)
  | y :: r, some k :: q, h, j, i, x, h1, h2 => by
    unfold ixOk at h
    obtain ⟨ha, hr⟩ := (Bool.and_eq_true _ _).mp h
    obtain ⟨ha, h3⟩ := (Bool.and_eq_true _ _).mp ha
    obtain ⟨h4, h5⟩ := (Bool.and_eq_true _ _).mp ha
    cases j with
    | zero =>
      simp at h1 h2
      subst h1 h2
      refine ⟨of_decide_eq_true h4, ?_, of_decide_eq_true h3⟩
      rcases (Bool.or_eq_true _ _).mp h5 with z | z
      · exact .inl (of_decide_eq_true z)
      · exact .inr (of_decide_eq_true z)
    | succ j => exact ix_at hr (by simpa using h1) (by simpa using h2)
  | [], _ :: _, h, _, _, _, _, _ => by simp [ixOk] at h
  | _ :: _, [], h, _, _, _, _, _ => by simp [ixOk] at h

structure CompScope (N : List Str) (osc : Scope) (N' : List Str) (ix : List (Option Nat)) (scope : Scope) : Prop where
  kind : scope.kind = .function
  nocell : ∀ y ∈ scope.names, y.2 ≠ .cell
  names : ∀ y ∈ scope.names, y.2 = .local → scope.names.lookup y.1 = some .local
  free : ∀ y ∈ scope.names, y.2 = .free → (osc.names.lookup y.1 = some .cell ∨ osc.names.lookup y.1 = some .free)
  ok : ixOk N osc scope N' ix = true

/-- the block's names at its entry: its own are not there, the others as they are -/
def sig (ix : List (Option Nat)) (σ : St) : St := ix.map fun o => o.bind fun i => (σ[i]?).join

def cxComp (X : Cx) (N' : List Str) (scope : Scope) (s : Shared) (H : Hp) (fp : List Addr) : Cx where
  prog := X.prog
  w := X.w
  K := X.K
  mg := X.mg
  base := X.base
  A := X.A
  N := N'
  s₀ := s
  H₀ := H
  env := compEnvC scope (closL X.env.cells scope.names []) s.heap.objs.size X.env
  outer := X.stack
  stack := X.stack
  ex := fp
  fn := fun _ => false
  calm := true
  pn := []
  xe := fun _ _ => False

section
variable {X : Cx} {pins : List (Addr × Obj)} {σ : St} {H : Hp} {s : Shared} {N' : List Str} {ix : List (Option Nat)} {scope : Scope} {fp : List Addr}

theorem Inv.cellsOf (I : Inv X pins σ H s) (S : CompScope X.N X.env.scope N' ix scope) : ∀ y ∈ scope.names, y.2 = .free → ∃ a, X.env.cells.lookup y.1 = some a := fun y hy hk => I.ok.has y.1 (S.free y hy hk)

theorem inv_comp (S : CompScope X.N X.env.scope N' ix scope) (hc : X.calm = true) (I : Inv X pins σ H s) (hf : ∀ b ∈ fp, FpOk X pins H b) (hlt : ∀ b ∈ fp, b < s.heap.objs.size) {h1 : Heap} {m1 : Str → Option Value} {tk : Nat}
    (hn : h1.Ns s.heap.objs.size m1) (hk : ∀ b o, s.heap.get? b = some o → h1.get? b = some o) :
    Inv (cxComp X N' scope s H fp) [] (sig ix σ) H { s with heap := h1, toks := tk } := by
  have hcl := I.cellsOf S
  have sub : ∀ {x : Str} {c : Addr}, (closL X.env.cells scope.names []).lookup x = some c → X.env.cells.lookup x = some c := fun {x c} h => by
    rcases closL_sub hcl h with z | z
    · simp at z
    · exact z
  refine ⟨⟨I.ok.mod, S.kind, I.ok.glob, I.ok.blt, Nat.le_refl _, fun x y c h1 h2 => I.ok.inj x y c (sub h1) (sub h2), fun x hx => ?_, fun x c h => (nomatch h), fun _ => I.ok.hd hc, I.ok.frames, .inl rfl, fun b hb => ?_, I.bs, Nat.le_trans I.ok.bsz I.sz, fun b o e hb => ?_, fun b hb hs => ?_, I.stack, I.stkFree⟩,
    rfl, I.bare, Un.kept hk, ⟨m1, hn, fun j x v h1 h2 h3 => ?_⟩, fun x c h => ?_, I.hok.fresh (Nat.le_refl _), fun x c h => I.freeC x c (sub h), fun p hp => absurd (show p ∈ ([] : List (Addr × Obj)) from hp) (by simp), I.hok.kept hk, ?_⟩
  · -- has
    have hx' : (relabel scope X.env).names.lookup x = some .cell ∨ (relabel scope X.env).names.lookup x = some .free := hx
    refine closL_has (.inl ?_)
    rcases hx' with z | z
    · exact relabel_mem S.nocell (.inl rfl) z
    · exact relabel_mem S.nocell (.inr rfl) z
  · -- exf
    refine ⟨Nat.ne_of_lt (hlt b hb), fun x c h => (hf b hb).2.2.2.2.1 x c (sub h)⟩
  · -- noex
    rcases (hf b hb).2.2.2.1 with z | z
    · exact I.ok.noex b o e z
    · exact absurd (Nat.lt_of_lt_of_le (Heap.lt_size (I.ok.bs b o e).1) z) (Nat.lt_irrefl _)
  · -- exfs
    rcases List.mem_cons.mp (I.stkSub b hs) with z | z
    · exact (hf b hb).2.1 z
    · exact (hf b hb).2.2.1 z
  · -- loc
    unfold sig at h2
    rw [List.getElem?_map] at h2
    cases e : ix[j]? with
    | none => rw [e] at h2; cases h2
    | some o =>
      rw [e] at h2
      cases o with
      | none => cases h2
      | some i =>
        have h2' : (σ[i]?).join = some v := by simpa using h2
        have h4 : σ[i]? = some (some v) := by
          cases e4 : σ[i]? with
          | none => rw [e4] at h2'; cases h2'
          | some q => rw [e4] at h2'; exact congrArg some h2'
        obtain ⟨q1, q2, q3⟩ := ix_at S.ok h1 e
        obtain ⟨m, _, hl⟩ := I.loc
        obtain ⟨u, r, l⟩ := hl i x v q1 h4 (q2.elim (fun z => .inr (.inl z)) fun z => .inr (.inr z))
        refine ⟨u, r, ?_⟩
        rcases l with ⟨l, _⟩ | ⟨_, c, lc, z⟩
        · have l' : X.env.scope.names.lookup x = some .local := l
          rcases q2 with z | z <;> (rw [z] at l'; cases l')
        · refine .inr ⟨relabel_free q3, ?_⟩
          obtain ⟨c', hc'⟩ := closL_has (cells := X.env.cells) (cs := []) (.inl (PySem.mem_of_lookup q3))
          have ec := sub hc'
          rw [lc] at ec
          cases ec
          refine ⟨c, hc', ?_⟩
          obtain ⟨oc, ho, hd⟩ := z
          exact ⟨oc, hk _ _ ho, hd⟩
  · obtain ⟨v, oc, ho, hd⟩ := I.cell x c (sub h)
    exact ⟨v, oc, hk _ _ ho, hd⟩
  · show (sig ix σ).length = N'.length
    unfold sig
    rw [List.length_map]
    exact ix_len S.ok
end
end L2
end
section
set_option Elab.async false
set_option linter.all false
set_option maxRecDepth 100000
set_option maxHeartbeats 4000000
namespace L2
open PySem PySem.Spec PyProof.Rows

/-- the tests of a clause -/
def PTs (X : Cx) (ifs : List Expr) (t : TT) : Prop :=
  ∀ (pins : List (Addr × Obj)) (s : Shared) (σ : St) (H : Hp) (Q : Bool → Hp → Prop), Inv X pins σ H s → t σ H Q →
    wpAny (model X.prog X.w) X.A (forIn ifs true fun c r => if r = true then do let ok ← isTrue c X.env (eval c X.env); pure (ForInStep.yield ok) else pure (ForInStep.yield r)) (TP X pins σ Q) X.xe s
def tTrue : TT := fun _ H Q => Q true H
theorem pts_nil {X : Cx} : PTs X [] tTrue := fun _ _ _ H _ I h => wpAny_tests_nil ⟨H, I, h⟩

theorem wpAny_ff {α : Type} {M : Model} {A : Around} {t : Sem α} {Q : α → Shared → Prop} {E : Value → Shared → Prop} {s : Shared} (h : wpAny M A t Q (fun _ _ => False) s) : wpAny M A t Q E s := wpAny_mono h (fun _ _ q => q) fun _ _ f => f.elim

/-- what a comprehension does: W holds at turn i with a measure m, the block's names, the heap, and what is in the list so far -/
def CompR (ix : List (Option Nat)) (g : TG) (tc : TT) (te : TE) (J : It) (σ : St) (H : Hp) (Q : VK) : Prop :=
  ∀ D, H D = none → ∃ W : Nat → Nat → St → Hp → List V → Prop, (∃ m, W 0 m (sig ix σ) (upd H D (.lst [])) []) ∧ ∀ i m σ H ys, W i m σ H ys → H D = some (.lst ys) ∧
    ((J.stop i H ∧ Q (.ref D) H) ∨ (J.go i H ∧ ys.length < sizeLine ∧ ∀ x H', J.yld i H x H' → g x σ H' fun σ2 H2 => tc σ2 H2 fun b H3 =>
      if b = true then te σ2 H3 fun y H4 => H4 D = some (.lst ys) ∧ ∃ m', m' < m ∧ W (i + 1) m' σ2 (upd H4 D (.lst (ys ++ [y]))) (ys ++ [y]) else ∃ m', m' < m ∧ W (i + 1) m' σ2 H3 ys))
def tComp (ix : List (Option Nat)) (wi : TI) (g : TG) (tc : TT) (te : TE) : TE := fun σ H Q => wi σ H fun J H1 => CompR ix g tc te J σ H1 Q

section
variable {X : Cx} {pins : List (Addr × Obj)} {σ : St} {s₂ : Shared} {N' : List Str} {ix : List (Option Nat)} {scope : Scope} {elt tg iter : Expr} {ifs : List Expr} {pos : Pos} {g : TG} {tc : TT} {te : TE}

/-- what a block's parts are worth, wherever it is entered -/
def Block (X : Cx) (N' : List Str) (scope : Scope) (tg : Expr) (ifs : List Expr) (elt : Expr) (g : TG) (tc : TT) (te : TE) : Prop :=
  ∀ (s : Shared) (H : Hp) (fp : List Addr), PG (cxComp X N' scope s H fp) tg g ∧ PTs (cxComp X N' scope s H fp) ifs tc ∧ PE (cxComp X N' scope s H fp) elt te

theorem comp_loop {X' : Cx} {it : Addr} {fp : List Addr} {tn : Nat → Heap → Prop} {J : It} {D : Addr} {Q : VK} {R : Result → Shared → Prop} {W : Nat → Nat → St → Hp → List V → Prop} {s : Shared} {e : Env} {n : Nat}
    (he : X'.env = e) (hx : X'.xe = fun _ _ => False) (hcm : X'.calm = true) (T : Turn X'.prog X'.w X'.K tg J fp it tn) (hfp : ∀ H : Hp, (∀ b ∈ fp, H b = none) → ∀ b ∈ fp, FpOk X' [] H b)
    (hg : PG X' tg g) (ht : PTs X' ifs tc) (hb : PE X' elt te)
    (turn : ∀ i m σ H ys, W i m σ H ys → H D = some (.lst ys) ∧
      ((J.stop i H ∧ Q (.ref D) H) ∨ (J.go i H ∧ ys.length < sizeLine ∧ ∀ x H', J.yld i H x H' → g x σ H' fun σ2 H2 => tc σ2 H2 fun b H3 =>
        if b = true then te σ2 H3 fun y H4 => H4 D = some (.lst ys) ∧ ∃ m', m' < m ∧ W (i + 1) m' σ2 (upd H4 D (.lst (ys ++ [y]))) (ys ++ [y]) else ∃ m', m' < m ∧ W (i + 1) m' σ2 H3 ys)))
    (hR : ∀ s' σ' H', Inv X' [] σ' H' s' → Q (.ref D) H' → R (.ok .next) s')
    (h0 : ∃ i σ' H' ys, Inv X' [] σ' H' s ∧ tn i s.heap ∧ (∀ b ∈ fp, H' b = none) ∧ W i n σ' H' ys) :
    codeAny (model X'.prog X'.w) X'.A (.compLoop (.ListComp elt [⟨tg, iter, ifs, 0⟩] scope pos) 0 (.ref it) (.ref D) e) R s := by
  subst he
  refine codeAny_loop rfl (fun n s => ∃ i σ' H' ys, Inv X' [] σ' H' s ∧ tn i s.heap ∧ (∀ b ∈ fp, H' b = none) ∧ W i n σ' H' ys) (fun n s3 hI => ?_) n h0
  show wpAny _ X'.A ((compTurn (.ListComp elt [⟨tg, iter, ifs, 0⟩] scope pos) 0 (.ref it) (.ref D) X'.env).onRaise (fun x => do noteFrame x X'.env; theTreesLotGoes x)) _ _ s3
  refine wpAny_noted (wpAny_ff ?_)
  rw [compTurn_list]
  obtain ⟨i, σ3, H3, ys, I3, st3, fr3, w3⟩ := hI
  obtain ⟨hD, alt⟩ := turn i n σ3 H3 ys w3
  rcases alt with ⟨stop, q⟩ | ⟨go, hlen, step⟩
  · refine wpAny_bind (wpAny_standAt (wpAny_bind (thn (T.done X' rfl rfl rfl hcm i [] s3 σ3 H3 _ I3 (hfp H3 fr3) st3 stop) fun r s4 ⟨hr, I4⟩ => ?_)))
    subst hr
    exact wpAny_pure (hR s4 σ3 H3 I4 q)
  · refine wpAny_bind (wpAny_standAt (wpAny_bind (thn (T.item X' rfl rfl rfl hcm i [] s3 σ3 H3 _ I3 (hfp H3 fr3) st3 go) fun r s4 ⟨u, hr, h4⟩ => ?_)))
    subst hr
    refine wpAny_bind (thn h4 fun _ s5 ⟨x, H5, I5, r5, y5, st5, fr5⟩ => ?_)
    have I5' := I5.pinned (hfp H5 fr5) (T.obj _ _ st5)
    have hg' := hg _ s5 σ3 H5 x u _ I5' r5 (step x H5 y5)
    rw [hx] at hg'
    refine wpAny_bind (thn hg' fun _ s6 ⟨σ6, H6, I6, q6⟩ => ?_)
    have ht' := ht _ s6 σ6 H6 _ I6 q6
    rw [hx] at ht'
    refine wpAny_bind (thn ht' fun ok s7 ⟨H7, I7, q7⟩ => ?_)
    have again : ∀ {s8 : Shared} {H8 : Hp} {zs : List V} {m' : Nat}, Inv X' ([] ++ pinsAt fp s5.heap) σ6 H8 s8 → m' < n → W (i + 1) m' σ6 H8 zs → ∃ m, m < n ∧ ∃ i σ' H' ys, Inv X' [] σ' H' s8 ∧ tn i s8.heap ∧ (∀ b ∈ fp, H' b = none) ∧ W i m σ' H' ys := fun {s8 H8 zs m'} I8 hm w8 => by
      refine ⟨m', hm, i + 1, σ6, H8, zs, I8.unpinned, T.keep _ _ _ st5 fun b hb o e => (I8.pin (b, o) (List.mem_append_right _ (List.mem_append_right _ (mem_pinsAt hb e)))).1, fun b hb => ?_, w8⟩
      obtain ⟨o, e, d⟩ := T.obj _ _ st5 b hb
      exact (I8.pin (b, o) (List.mem_append_right _ (List.mem_append_right _ (mem_pinsAt hb e)))).2.1
    cases ok with
    | false =>
      rw [if_neg (by decide)] at q7
      obtain ⟨m', hm, w7⟩ := q7
      exact wpAny_pure ⟨rfl, again I7 hm w7⟩
    | true =>
      rw [if_pos rfl] at q7
      have hb' := hb _ s7 σ6 H7 _ I7 q7
      rw [hx] at hb'
      refine wpAny_bind (wpAny_bind (thn hb' fun v s8 ⟨y, H8, I8, r8, hD8, m', hm, w8⟩ => ?_))
      have ha := mt_append (X := X') _ s8 σ6 H8 (.ref D) [y] (.ref D) [v] (fun _ H9 => H9 = upd H8 D (.lst (ys ++ [y]))) I8 rfl (.cons r8 .nil) ⟨D, ys, y, rfl, rfl, hD8, hlen, rfl⟩
      rw [hx] at ha
      refine wpAny_bind (thn ha fun _ s9 ⟨_, H9, I9, _, e9⟩ => ?_)
      subst e9
      exact wpAny_pure (wpAny_pure ⟨rfl, again I9 hm w8⟩)

theorem comp_run (hc : X.calm = true) (S : CompScope X.N X.env.scope N' ix scope) (hb : Block X N' scope tg ifs elt g tc te) {it : Addr} {fp : List Addr} {tn : Nat → Heap → Prop} {J : It} {H₂ : Hp} {Q : VK} {E : Value → Shared → Prop}
    {RR : Value → Addr → Result → Shared → Prop} (I2 : Inv X pins σ H₂ s₂) (T : Turn X.prog X.w X.K tg J fp it tn) (st2 : tn 0 s₂.heap) (f2 : ∀ b ∈ fp, FpOk X pins H₂ b) (hW : CompR ix g tc te J σ H₂ Q)
    (hRR : ∀ D C H' s', Inv X pins σ H' s' → (∃ m, s'.heap.Ns C m) → FpOk X pins H' C → Q (.ref D) H' → RR (.ref D) C (.ok .next) s') :
    wpAny (model X.prog X.w) X.A (newList []) (fun acc s₃ => wpAny (model X.prog X.w) X.A (newFunctionEnv scope X.env.globals (closL X.env.cells scope.names []) [] X.env.qual none .none (some X.env)) (fun cenv s₄ =>
      codeAny (model X.prog X.w) X.A (.compStart (.ListComp elt [⟨tg, iter, ifs, 0⟩] scope pos) 0 (.ref it) acc { cenv with scope := relabel scope X.env }) (RR acc cenv.locals) s₄) E s₃) E s₂ := by
  have hD0 : H₂ s₂.heap.objs.size = none := I2.hok.fresh (Nat.le_refl _)
  have hlt2 : ∀ b ∈ fp, b < s₂.heap.objs.size := fun b hb => by
    obtain ⟨o, e, _⟩ := T.obj _ _ st2 b hb
    exact Heap.lt_size e
  refine wpAny_newObj_type (wpAny_newFunctionEnv S.nocell (by intro y hy; simp at hy) (fun h₁ hns₁ hsb₁ => ?_) S.kind)
  have I3 : Inv X pins σ (upd H₂ s₂.heap.objs.size (.lst [])) { s₂ with heap := s₂.heap.push { cls := .type "list", dict := none, data := .seq ([] : List Value).toArray } } :=
    I2.laid (t' := s₂.toks) (fun b u e => Heap.get?_push_of_some _ e) (Nat.le_refl _) ⟨Nat.zero_le _, [], 0, .nil, Heap.get?_push_size _ rfl⟩
  have f3 : ∀ b ∈ fp, FpOk X pins (upd H₂ s₂.heap.objs.size (.lst [])) b := fun b hb => ⟨by rw [upd_ne (Nat.ne_of_lt (hlt2 b hb))]; exact (f2 b hb).1, (f2 b hb).2⟩
  have k3 : ∀ b o, s₂.heap.get? b = some o → (s₂.heap.push { cls := .type "list", dict := none, data := .seq ([] : List Value).toArray }).get? b = some o := fun b o e => Heap.get?_push_of_some _ e
  dsimp only at hns₁ hsb₁ ⊢
  generalize hs3 : ({ s₂ with heap := s₂.heap.push { cls := .type "list", dict := none, data := .seq ([] : List Value).toArray } } : Shared) = s₃ at I3
  have eh : s₂.heap.push { cls := .type "list", dict := none, data := .seq ([] : List Value).toArray } = s₃.heap := by rw [← hs3]
  have et : s₂.toks = s₃.toks := by rw [← hs3]
  have es : ∀ (h : Heap) (t : Nat), ({ s₂ with heap := h, toks := t } : Shared) = { s₃ with heap := h, toks := t } := fun h t => by rw [← hs3]
  rw [eh] at hns₁ hsb₁ k3 ⊢
  have hlt3 : ∀ b ∈ fp, b < s₃.heap.objs.size := fun b hb => by
    obtain ⟨o, e, _⟩ := T.obj _ _ st2 b hb
    exact Heap.lt_size (k3 b o e)
  have k4 : ∀ b o, s₃.heap.get? b = some o → h₁.get? b = some o := fun b o e => hsb₁.extBut b o (Nat.ne_of_lt (Heap.lt_size e)) (Heap.get?_push_of_some _ e)
  obtain ⟨W, ⟨m0, w0⟩, turn⟩ := hW _ hD0
  have I4 : ∀ tk, Inv (cxComp X N' scope s₃ (upd H₂ s₂.heap.objs.size (.lst [])) fp) [] (sig ix σ) (upd H₂ s₂.heap.objs.size (.lst [])) { s₃ with heap := h₁, toks := tk } := fun tk => inv_comp S hc I3 f3 hlt3 hns₁ k4
  have st4 : tn 0 h₁ := T.keep _ _ _ st2 fun b hb o e => k4 b o (k3 b o e)
  obtain ⟨bg, bt, be⟩ := hb s₃ (upd H₂ s₂.heap.objs.size (.lst [])) fp
  have noX : ∀ (H : Hp), (∀ b ∈ fp, H b = none) → ∀ b ∈ fp, FpOk (cxComp X N' scope s₃ (upd H₂ s₂.heap.objs.size (.lst [])) fp) [] H b := fun H hn b hb => by
    obtain ⟨_, h2, h3⟩ := f3 b hb
    refine ⟨hn b hb, Nat.ne_of_lt (hlt3 b hb), fun hs => (I4 0).ok.exfs b hb hs, .inl hb, fun x c h => ?_, fun p hp => absurd (show p ∈ ([] : List (Addr × Obj)) from hp) (by simp)⟩
    exact ((I4 0).ok.exf b hb).2 x c h
  have fin : ∀ (s' : Shared) (σ' : St) (H' : Hp), Inv (cxComp X N' scope s₃ (upd H₂ s₂.heap.objs.size (.lst [])) fp) [] σ' H' s' → Q (.ref s₂.heap.objs.size) H' → RR (.ref s₂.heap.objs.size) s₃.heap.objs.size (.ok .next) s' := fun s' σ' H' I' q => by
    refine hRR _ _ H' s' ?_ (let ⟨m, hn, _⟩ := I'.loc; ⟨m, hn⟩) (I3.fpOk (Nat.le_refl _) I'.free) q
    exact I3.call' I'.os I'.base I'.hok I'.bare fun b hb => ⟨(f3 b hb).2.2.2.1, (f3 b hb).2.1, (f3 b hb).2.2.2.2.1, (f3 b hb).2.2.2.2.2⟩
  have loop : ∀ tk, codeAny (model X.prog X.w) X.A (.compLoop (.ListComp elt [⟨tg, iter, ifs, 0⟩] scope pos) 0 (.ref it) (.ref s₂.heap.objs.size) (compEnvC scope (closL X.env.cells scope.names []) s₃.heap.objs.size X.env)) (RR (.ref s₂.heap.objs.size) s₃.heap.objs.size) { s₃ with heap := h₁, toks := tk } := fun tk =>
    comp_loop (X' := cxComp X N' scope s₃ (upd H₂ s₂.heap.objs.size (.lst [])) fp) (D := s₂.heap.objs.size) (Q := Q) (W := W) rfl rfl rfl T noX bg bt be turn fin ⟨0, _, _, _, I4 tk, st4, fun b hb => (f3 b hb).1, w0⟩
  rw [es]
  exact codeAny_compStart_list (loop _) (T.self _ 0 _ _ _ st4 (loop _))

/-- [elt for tg in iter if ..], within an expression -/
theorem pe_comp {wi : TI} (hc : X.calm = true) (S : CompScope X.N X.env.scope N' ix scope) (hi : PI X tg iter wi) (hb : Block X N' scope tg ifs elt g tc te) (hs : ∀ x, foldedSetIterable iter X.env x = pure x := by intro _; rfl) :
    PE X (.ListComp elt [⟨tg, iter, ifs, 0⟩] scope pos) (tComp ix wi g tc te) := by
  intro pins s σ H Q I h
  rw [eval_ListComp]
  refine wpAny_comprehension_free (use := none) rfl hs (closL_eq (I.cellsOf S)) S.kind S.names (thn (hi pins s σ H _ I h) fun v s1 h1 => thn h1 fun itv s2 h2 => ?_)
  obtain ⟨it, fp, tn, J, H2, e, I2, T, st2, f2, hW⟩ := h2
  subst e
  refine comp_run (RR := fun acc C => compPost (model X.prog X.w) X.A X.xe none (EP X pins σ Q) acc C) hc S hb I2 T st2 f2 hW ?_
  intro D C H' s' I' hm hC q
  obtain ⟨m, hm⟩ := hm
  refine ⟨m, hm, fun h' hs' => ⟨.ref D, H', I'.turned (it := C) (t' := s'.toks) (fun b o hb e => hs'.extBut b o hb e) hC.1 hC.2.1 hC.2.2.2.1 hC.2.2.2.2.1 hC.2.2.2.2.2, rfl, q⟩⟩
end
end L2
end
section
set_option Elab.async false
set_option linter.all false
set_option maxRecDepth 100000
set_option maxHeartbeats 4000000
namespace L2
open PySem PySem.Spec PyProof.Rows
section
variable {X : Cx} {N' : List Str} {ix : List (Option Nat)} {scope : Scope} {elt tg iter : Expr} {ifs : List Expr} {pos spos py : Pos} {g : TG} {tc : TT} {te : TE} {wi : TI} {i : Nat} {y : Str}
/-- y = [elt for tg in iter if ..], y a plain local: it is stored ahead of the block's names' going -/
theorem ps_setcomp (hc : X.calm = true) (hN : X.N.Nodup) (hi' : X.N[i]? = some y) (hx : X.env.scope.names.lookup y = some .local) (S : CompScope X.N X.env.scope N' ix scope) (hi : PI X tg iter wi) (hb : Block X N' scope tg ifs elt g tc te)
    (hsw : swapsWith (.ListComp elt [⟨tg, iter, ifs, 0⟩] scope pos) (some (.Name y py)) spos.line X.env = pure true := by rfl) (hs : ∀ x, foldedSetIterable iter X.env x = pure x := by intro _; rfl) :
    PS X (.Assign [.Name y py] (.ListComp elt [⟨tg, iter, ifs, 0⟩] scope pos) spos) (tAsg (tComp ix wi g tc te) (gName i)) := by
  intro pins s σ H D I h
  rw [exec_Assign_Name_used _ _ _ _ hsw]
  refine wpAny_bind (wpAny_standAt (wpAny_bind ?_))
  show wpAny _ X.A (do let _ ← comprehension (.ListComp elt [⟨tg, iter, ifs, 0⟩] scope pos) scope X.env _ (newList []) false (eval iter X.env) (some (assign (.Name y py) X.env))) _ _ s
  refine wpAny_bind (wpAny_mono (wpAny_comprehension_free (use := some (assign (.Name y py) X.env)) (Q := fun _ s' => SP X pins D .next s') rfl hs (closL_eq (I.cellsOf S)) S.kind S.names
    (thn (hi pins s σ H _ I h) fun v s1 h1 => thn h1 fun itv s2 h2 => ?_)) (fun _ s' hq => wpAny_pure (wpAny_pure hq)) fun _ _ e => e)
  obtain ⟨it, fp, tn, J, H2, e, I2, T, st2, f2, hW⟩ := h2
  subst e
  refine comp_run (RR := fun acc C => compPost (model X.prog X.w) X.A X.xe (some (assign (.Name y py) X.env)) (fun _ s' => SP X pins D .next s') acc C) hc S hb I2 T st2 f2 hW ?_
  intro L C H' s' I' hm hC q
  obtain ⟨m, hm⟩ := hm
  show wpAny _ X.A (assign (.Name y py) X.env (.ref L)) _ _ _
  refine wpAny_assign_Name (store_ok2 I' hN hi' (.inl hx) (v := .ref L) rfl (fun s'' I'' ⟨a, sb, ha⟩ => ?_) (.inr hx))
  have hCa : C ≠ a := by
    rcases ha with rfl | ha
    · exact hC.2.1
    · exact Ne.symm (hC.2.2.2.2.1 y a ha)
  refine ⟨m, hm.sameBut sb hCa, fun h' hs' => ?_⟩
  exact ⟨_, H', I''.turned (it := C) (t' := s''.toks) (fun b o hb e => hs'.extBut b o hb e) hC.1 hC.2.1 hC.2.2.2.1 hC.2.2.2.2.1 hC.2.2.2.2.2, q⟩
end
end L2
end
section
set_option Elab.async false
set_option maxRecDepth 100000
set_option maxHeartbeats 4000000
namespace L2
open PySem PySem.Spec PyProof.Rows

/-! ### lists of pairs as tables -/
section
variable {κ : Type} [DecidableEq κ]
def valV (kvs : List (κ × V)) (k : κ) : Option V := (kvs.find? fun kv => decide (kv.1 = k)).map (·.2)
/-- in its place, or at the end -/
def putK (kvs : List (κ × V)) (k : κ) (v : V) : List (κ × V) :=
  if (kvs.any fun kv => decide (kv.1 = k)) = true then kvs.map (fun kv => if kv.1 = k then (kv.1, v) else kv) else kvs ++ [(k, v)]
def dropK (kvs : List (κ × V)) (k : κ) : List (κ × V) := kvs.filter fun kv => decide (kv.1 ≠ k)

theorem valV_pos {p : κ × V} {r : List (κ × V)} {k : κ} (e : p.1 = k) : valV (p :: r) k = some p.2 := by simp [valV, List.find?_cons, e]
theorem valV_neg {p : κ × V} {r : List (κ × V)} {k : κ} (e : ¬ p.1 = k) : valV (p :: r) k = valV r k := by simp [valV, List.find?_cons, e]
theorem valV_any (k : κ) : ∀ kvs : List (κ × V), (kvs.any fun kv => decide (kv.1 = k)) = (valV kvs k).isSome
  | [] => rfl
  | p :: r => by
    rw [List.any_cons]
    by_cases e : p.1 = k
    · simp only [valV_pos e, decide_eq_true e, Bool.true_or, Option.isSome_some]
    · rw [valV_neg e, decide_eq_false e, Bool.false_or]; exact valV_any k r
theorem length_putK (kvs : List (κ × V)) (k : κ) (v : V) : (putK kvs k v).length ≤ kvs.length + 1 := by
  unfold putK
  split
  · rw [List.length_map]; omega
  · rw [List.length_append, List.length_cons, List.length_nil]; omega

theorem RelO.isSome_eq {o : Option V} {u : Option Value} (r : RelO o u) : o.isSome = u.isSome := by
  cases o with
  | none => cases u with
    | none => rfl
    | some _ => exact (show False from r).elim
  | some _ => cases u with
    | none => exact (show False from r).elim
    | some _ => rfl
theorem RelO.getD {o : Option V} {u : Option Value} {d : V} {d' : Value} (r : RelO o u) (rd : RelV d d') : RelV (o.getD d) (u.getD d') := by
  cases o with
  | none => cases u with
    | none => exact rd
    | some _ => exact (show False from r).elim
  | some _ => cases u with
    | none => exact (show False from r).elim
    | some _ => exact r

/-- raw tables of the same keys -/
theorem KV.val {kvs : List (κ × V)} {vs : List (κ × Value)} (r : KV kvs vs) (k : κ) : RelO (valV kvs k) (valueAt vs k) := by
  unfold KV at r
  induction r with
  | nil => exact True.intro
  | @cons p q ps qs h t ih =>
    obtain ⟨h1, h2⟩ := h
    by_cases e : p.1 = k
    · have e' : q.1 = k := h1.symm.trans e
      have b : valueAt (q :: qs) k = some q.2 := by simp [valueAt, List.find?_cons, e']
      rw [valV_pos e, b]; exact h2
    · have e' : ¬ q.1 = k := fun z => e (h1.trans z)
      have b : valueAt (q :: qs) k = valueAt qs k := by simp [valueAt, List.find?_cons, e']
      rw [valV_neg e, b]; exact ih
theorem KV.any {kvs : List (κ × V)} {vs : List (κ × Value)} (r : KV kvs vs) (k : κ) : (kvs.any fun kv => decide (kv.1 = k)) = vs.any fun kv => decide (kv.1 = k) := by
  unfold KV at r
  induction r with
  | nil => rfl
  | cons h t ih => rw [List.any_cons, List.any_cons, ih, h.1]
theorem KV.repl {kvs : List (κ × V)} {vs : List (κ × Value)} (r : KV kvs vs) (k : κ) {y : V} {u : Value} (ry : RelV y u) :
    KV (kvs.map fun kv => if kv.1 = k then (kv.1, y) else kv) (vs.map fun kv => if kv.1 = k then (kv.1, u) else kv) := by
  unfold KV at r ⊢
  induction r with
  | nil => exact .nil
  | @cons p q ps qs h t ih =>
    rw [List.map_cons, List.map_cons]
    refine .cons ?_ ih
    obtain ⟨h1, h2⟩ := h
    by_cases e : p.1 = k
    · rw [if_pos e, if_pos (h1.symm.trans e)]; exact ⟨h1, ry⟩
    · rw [if_neg e, if_neg (fun z => e (h1.trans z))]; exact ⟨h1, h2⟩
theorem KV.put {kvs : List (κ × V)} {vs : List (κ × Value)} (r : KV kvs vs) (k : κ) {y : V} {u : Value} (ry : RelV y u) : KV (putK kvs k y) (stored vs k u) := by
  unfold putK stored
  rw [r.any k]
  by_cases e : (vs.any fun kv => decide (kv.1 = k)) = true
  · rw [if_pos e, if_pos e]; exact r.repl k ry
  · rw [if_neg e, if_neg e]; exact Paired.snoc r ⟨rfl, ry⟩
theorem KV.drop {kvs : List (κ × V)} {vs : List (κ × Value)} (r : KV kvs vs) (k : κ) : KV (dropK kvs k) (without vs k) := by
  unfold KV at r ⊢
  unfold dropK without
  induction r with
  | nil => exact .nil
  | @cons p q ps qs h t ih =>
    obtain ⟨h1, h2⟩ := h
    rw [List.filter_cons, List.filter_cons]
    by_cases e : p.1 = k
    · have a : ¬ decide (p.1 ≠ k) = true := by simp [e]
      have b : ¬ decide (q.1 ≠ k) = true := by simp [h1.symm.trans e]
      rw [if_neg a, if_neg b]; exact ih
    · have e' : ¬ q.1 = k := fun z => e (h1.trans z)
      have a : decide (p.1 ≠ k) = true := by simp [e]
      have b : decide (q.1 ≠ k) = true := by simp [e']
      rw [if_pos a, if_pos b]; exact .cons ⟨h1, h2⟩ ih
theorem KV.keys {kvs : List (κ × V)} {vs : List (κ × Value)} (r : KV kvs vs) : kvs.map (·.1) = vs.map (·.1) := by
  unfold KV at r
  induction r with
  | nil => rfl
  | cons h t ih => rw [List.map_cons, List.map_cons, ih, h.1]
theorem KV.length {kvs : List (κ × V)} {vs : List (κ × Value)} (r : KV kvs vs) : kvs.length = vs.length := Paired.length r
end


/-! ### a tracked dict, its keys ints and texts or tuples of these -/
theorem kV_is {P : Program} {w : World} {k : Key} {u : Value} (r : RelV (kV k) u) : (mixKind P w).is k u = true := by
  cases k with
  | inl i => obtain ⟨t, e⟩ := (show ∃ t, u = Value.int i t from r); subst e; exact mixKind_int P w i t
  | inr x => obtain ⟨t, e⟩ := (show ∃ t, u = Value.str x t from r); subst e; exact mixKind_str P w x t
theorem items_are {P : Program} {w : World} : ∀ {ks : List Key} {us : List Value}, Vals (ks.map kV) us → ItemsAre (mixKind P w) ks us
  | [], _, r => by rw [List.map_nil] at r; cases r; exact .nil
  | k :: ks, _, r => by
    rw [List.map_cons] at r
    cases r with
    | cons h t => exact .cons (kV_is h) (items_are t)

/-- raw entries of a dict with tuple keys -/
abbrev KT (H : Hp) : List (List Key × V) → List (List Key × Addr × Value) → Prop := Paired fun p q => p.1 = q.1 ∧ H q.2.1 = some (.tup (p.1.map kV)) ∧ RelV p.2 q.2.2
theorem KT.val {H : Hp} {kvs : List (List Key × V)} {xs : List (List Key × Addr × Value)} (r : KT H kvs xs) (k : List Key) : RelO (valV kvs k) ((atKey xs k).map (·.2)) := by
  induction r with
  | nil => exact True.intro
  | @cons p q ps qs h t ih =>
    obtain ⟨h1, _, h2⟩ := h
    by_cases e : p.1 = k
    · have e' : q.1 = k := h1.symm.trans e
      have b : atKey (q :: qs) k = some q.2 := by simp [atKey, List.find?_cons, e']
      rw [valV_pos e, b]; exact h2
    · have e' : ¬ q.1 = k := fun z => e (h1.trans z)
      have b : atKey (q :: qs) k = atKey qs k := by simp [atKey, List.find?_cons, e']
      rw [valV_neg e, b]; exact ih
theorem KT.repl {H : Hp} {kvs : List (List Key × V)} {xs : List (List Key × Addr × Value)} (r : KT H kvs xs) (k : List Key) {y : V} {u : Value} (ry : RelV y u) :
    KT H (kvs.map fun kv => if kv.1 = k then (kv.1, y) else kv) (xs.map (putAt k u)) := by
  induction r with
  | nil => exact .nil
  | @cons p q ps qs h t ih =>
    rw [List.map_cons, List.map_cons]
    refine .cons ?_ ih
    obtain ⟨h1, h2, h3⟩ := h
    unfold putAt
    by_cases e : p.1 = k
    · rw [if_pos e, if_pos (h1.symm.trans e)]; exact ⟨h1, h2, ry⟩
    · rw [if_neg e, if_neg (fun z => e (h1.trans z))]; exact ⟨h1, h2, h3⟩
theorem KT.put {H : Hp} {kvs : List (List Key × V)} {xs : List (List Key × Addr × Value)} (r : KT H kvs xs) (k : List Key) {b : Addr} {y : V} {u : Value} (hb : H b = some (.tup (k.map kV))) (ry : RelV y u) :
    KT H (putK kvs k y) (storedH xs k b u) := by
  have e : (kvs.any fun kv => decide (kv.1 = k)) = (atKey xs k).isSome := by
    rw [valV_any, (r.val k).isSome_eq, Option.isSome_map]
  unfold putK storedH
  rw [e]
  by_cases q : (atKey xs k).isSome = true
  · rw [if_pos q, if_pos q]; exact r.repl k ry
  · rw [if_neg q, if_neg q]; exact Paired.snoc r ⟨rfl, hb, ry⟩
theorem KT.keeps {H H' : Hp} {kvs : List (List Key × V)} {xs : List (List Key × Addr × Value)} (r : KT H kvs xs) (ht : ∀ b ys, H b = some (.tup ys) → H' b = some (.tup ys)) : KT H' kvs xs :=
  Paired.mapP r fun _ _ z => ⟨z.1, ht _ _ z.2.1, z.2.2⟩

section
variable {P : Program} {w : World} {H : Hp} {h : Heap} {a : Addr}
theorem rd_of {u : HO} (ok : HOk P w H h) (e : Rd H a u) : ObjOk P w H h a u := e.ok ok
theorem dk_rd {kvs : List (Key × V)} (ok : HOk P w H h) (e : Rd H a (.dK kvs)) : kvs.length ≤ sizeLine ∧ (a == sysModules) = false ∧ ∃ vs, KV kvs vs ∧ h.DictOf (mixKind P w) a vs :=
  show ObjOk P w H h a (.dK kvs) from rd_of ok e
theorem dk_of {kvs : List (Key × V)} (ok : HOk P w H h) (e : H a = some (.dK kvs)) : kvs.length ≤ sizeLine ∧ (a == sysModules) = false ∧ ∃ vs, KV kvs vs ∧ h.DictOf (mixKind P w) a vs := dk_rd ok (.inl e)
/-- a tracked tuple of ints and texts is a key -/
theorem key_of {ks : List Key} (ok : HOk P w H h) (e : H a = some (.tup (ks.map kV))) : (tupleKind (mixKind P w)).is h ks a := by
  obtain ⟨_, its, r, o, h1, h2, n, h3⟩ := (show ObjOk P w H h a (.tup (ks.map kV)) from ok a _ e)
  exact ⟨o, its.toArray, n, h1, h2, h3, by simpa using items_are r⟩
theorem dt_rd {kvs : List (List Key × V)} (ok : HOk P w H h) (e : Rd H a (.dT kvs)) : kvs.length ≤ sizeLine ∧ (a == sysModules) = false ∧
    ∃ xs, KT H kvs xs ∧ h.DictOfH (tupleKind (mixKind P w)) a xs := by
  obtain ⟨z, y, xs, r, o, es, ep, h1, h2, h3, h4, h5⟩ := (show ObjOk P w H h a (.dT kvs) from rd_of ok e)
  refine ⟨z, y, xs, r, o, es, ep, h1, h2, h3, h4, fun x hx => ?_, h5⟩
  have all : ∀ {l : List (List Key × V)} {m : List (List Key × Addr × Value)}, KT H l m → ∀ x ∈ m, (tupleKind (mixKind P w)).is h x.1 x.2.1 := by
    intro l m q
    induction q with
    | nil => intro x hx; exact nomatch hx
    | @cons p q ps qs hq t ih =>
      intro x hx
      rcases List.mem_cons.mp hx with e | hx
      · subst e
        exact key_of ok (by rw [← hq.1]; exact hq.2.1)
      · exact ih x hx
  exact all r x hx
theorem dt_of {kvs : List (List Key × V)} (ok : HOk P w H h) (e : H a = some (.dT kvs)) : kvs.length ≤ sizeLine ∧ (a == sysModules) = false ∧
    ∃ xs, KT H kvs xs ∧ h.DictOfH (tupleKind (mixKind P w)) a xs := dt_rd ok (.inl e)
end

/-- what the dict at a holds at the key y -/
def DGet (H : Hp) (a : Addr) (y : V) (r : Option V) : Prop :=
  (∃ kvs k, Rd H a (.dK kvs) ∧ y = kV k ∧ r = valV kvs k) ∨ ∃ kvs k b, Rd H a (.dT kvs) ∧ y = .ref b ∧ H b = some (.tup (k.map kV)) ∧ r = valV kvs k
/-- the heap behind a[y] = v -/
def DPut (H : Hp) (a : Addr) (y v : V) (H' : Hp) : Prop :=
  (∃ kvs k, H a = some (.dK kvs) ∧ y = kV k ∧ kvs.length < sizeLine ∧ H' = upd H a (.dK (putK kvs k v))) ∨
  ∃ kvs k b, H a = some (.dT kvs) ∧ y = .ref b ∧ H b = some (.tup (k.map kV)) ∧ kvs.length < sizeLine ∧ H' = upd H a (.dT (putK kvs k v))
theorem DGet.k {H : Hp} {a : Addr} {kvs : List (Key × V)} {k : Key} (e : H a = some (.dK kvs)) : DGet H a (kV k) (valV kvs k) := .inl ⟨kvs, k, .inl e, rfl, rfl⟩
theorem DGet.t {H : Hp} {a b : Addr} {kvs : List (List Key × V)} {k : List Key} (e : H a = some (.dT kvs)) (eb : H b = some (.tup (k.map kV))) : DGet H a (.ref b) (valV kvs k) := .inr ⟨kvs, k, b, .inl e, rfl, eb, rfl⟩
theorem DPut.k {H : Hp} {a : Addr} {kvs : List (Key × V)} {k : Key} {v : V} (e : H a = some (.dK kvs)) (hl : kvs.length < sizeLine) : DPut H a (kV k) v (upd H a (.dK (putK kvs k v))) := .inl ⟨kvs, k, e, rfl, hl, rfl⟩
theorem DPut.t {H : Hp} {a b : Addr} {kvs : List (List Key × V)} {k : List Key} {v : V} (e : H a = some (.dT kvs)) (eb : H b = some (.tup (k.map kV))) (hl : kvs.length < sizeLine) :
    DPut H a (.ref b) v (upd H a (.dT (putK kvs k v))) := .inr ⟨kvs, k, b, e, rfl, eb, hl, rfl⟩


section
variable {X : Cx} {pins : List (Addr × Obj)} {σ : St} {H : Hp} {s : Shared} {a : Addr} {y v : V} {u r : Value} {o : Option V} {A : Around} {E : Value → Shared → Prop}

theorem Inv.big (I : Inv X pins σ H s) : sysModules < s.heap.objs.size := by
  have h : mainGlobals < s.heap.objs.size := (I.mod.glob.keeps I.bk).lt
  exact Nat.lt_trans (by decide) h

/-- a dict's object is replaced -/
theorem d_write {h' : Heap} {t' : Nat} {ob : HO} (I : Inv X pins σ H s) (mu : Mut (H a)) (hs : Heap.SameBut a s.heap h') (he : ∃ q, h'.get? a = some q) (new : ObjOk X.prog X.w (upd H a ob) h' a ob) :
    Inv X pins σ (upd H a ob) { s with heap := h', toks := t' } :=
  I.write (x := a) (e := a) mu (.inl rfl) (fun b q hb z => (hs.2 b hb).trans z) he new
theorem dk_new {P : Program} {w : World} {H' : Hp} {h' : Heap} {kvs : List (Key × V)} {vs : List (Key × Value)} (z : kvs.length ≤ sizeLine) (hd : (a == sysModules) = false) (rel : KV kvs vs) (dd : h'.DictOf (mixKind P w) a vs) :
    ObjOk P w H' h' a (.dK kvs) := ⟨z, hd, vs, rel, dd⟩
end

section
variable {X : Cx} {pins : List (Addr × Obj)} {σ : St} {H : Hp} {s : Shared} {a : Addr} {kvs : List (Key × V)} {k : Key} {u : Value} {A : Around} {E : Value → Shared → Prop}
end


/-! ### readings and rules -/



section
variable {X : Cx} {o i e value : Expr} {pos pos' tpos : Pos} {td ty tv : TE}
end


/-! ### displays -/
theorem dk_empty {P : Program} {w : World} {H : Hp} (h : Heap) (hb : sysModules < h.objs.size) : ObjOk P w H (h.push { cls := .type "dict", data := .dict #[] }) h.objs.size (.dK []) :=
  ⟨Nat.zero_le _, beq_eq_false_iff_ne.mpr (Ne.symm (Nat.ne_of_lt hb)), [], .nil, Heap.DictOf.new h⟩
section
variable {X : Cx} {pos : Pos}
end

/-- the pairs of a display, from the left -/
def tPairs : List (TE × TE) → St → Hp → (List (V × V) → Hp → Prop) → Prop
  | [], _, H, Q => Q [] H
  | (tk, tv) :: r, σ, H, Q => tk σ H fun x H1 => tv σ H1 fun y H2 => tPairs r σ H2 fun ps H3 => Q ((x, y) :: ps) H3
abbrev VV : List (V × V) → List (Value × Value) → Prop := Paired fun p q => RelV p.1 q.1 ∧ RelV p.2 q.2
def PPs (X : Cx) (pos : Pos) (keys : List (Option Expr)) (values : List Expr) (trs : List (TE × TE)) : Prop :=
  ∀ (pins : List (Addr × Obj)) (s : Shared) (σ : St) (H : Hp) (Q : List (V × V) → Hp → Prop), Inv X pins σ H s → tPairs trs σ H Q →
    wpAny (model X.prog X.w) X.A (evalPairs (pairTrees keys values X.env pos)) (fun vs s' => ∃ ps H', Inv X pins σ H' s' ∧ VV ps vs ∧ Q ps H') X.xe s
theorem pps_nil {X : Cx} {pos : Pos} : PPs X pos [] [] [] := fun pins s σ H Q I h => pairTrees_nil_walk ⟨[], H, I, .nil, h⟩
theorem pps_cons {X : Cx} {pos : Pos} {k v : Expr} {ks : List (Option Expr)} {vs : List Expr} {tk tv : TE} {trs : List (TE × TE)} (hk : PE X k tk) (hv : PE X v tv) (hr : PPs X pos ks vs trs) :
    PPs X pos (some k :: ks) (v :: vs) ((tk, tv) :: trs) := fun pins s σ H Q I h =>
  pairTrees_cons_walk (thn (hk pins s σ H _ I h) fun u s1 ⟨x, H1, I1, rx, q1⟩ => thn (hv pins s1 σ H1 _ I1 q1) fun w2 s2 ⟨y, H2, I2, ry, q2⟩ =>
    thn (hr pins s2 σ H2 _ I2 q2) fun ws s3 ⟨ps, H3, I3, rel, q3⟩ => ⟨(x, y) :: ps, H3, I3, .cons ⟨rx, ry⟩ rel, q3⟩)

def mergeK (kvs more : List (Key × V)) : List (Key × V) := more.foldl (fun acc kv => putK acc kv.1 kv.2) kvs
theorem KV.merge : ∀ {more : List (Key × V)} {rs : List (Key × Value)} {kvs : List (Key × V)} {vs : List (Key × Value)}, KV more rs → KV kvs vs → KV (mergeK kvs more) (merged vs rs) := by
  intro more rs kvs vs r
  unfold KV at r
  induction r generalizing kvs vs with
  | nil => intro q; exact q
  | @cons p q ps qs h t ih =>
    intro r0
    have e : KV (putK kvs p.1 p.2) (stored vs q.1 q.2) := by
      have := r0.put p.1 h.2
      rw [← h.1]; exact this
    exact ih e
theorem length_mergeK : ∀ (more kvs : List (Key × V)), (mergeK kvs more).length ≤ kvs.length + more.length
  | [], kvs => by show kvs.length ≤ kvs.length + 0; omega
  | p :: r, kvs => by
    have h1 := length_mergeK r (putK kvs p.1 p.2)
    have h2 := length_putK kvs p.1 p.2
    show (mergeK (putK kvs p.1 p.2) r).length ≤ _
    rw [List.length_cons]; omega
theorem carries_of {P : Program} {w : World} : ∀ {kvs : List (Key × V)} {ws : List (Value × Value)}, VV (kvs.map fun kv => (kV kv.1, kv.2)) ws → ∃ rs, Carries (mixKind P w) ws rs ∧ KV kvs rs
  | [], _, r => by rw [List.map_nil] at r; cases r; exact ⟨[], True.intro, .nil⟩
  | p :: kvs, _, r => by
    rw [List.map_cons] at r
    cases r with
    | @cons a b as bs h t =>
      obtain ⟨rs, c, q⟩ := carries_of (P := P) (w := w) t
      obtain ⟨b1, b2⟩ := b
      exact ⟨(p.1, b2) :: rs, ⟨kV_is h.1, rfl, c⟩, .cons ⟨rfl, h.2⟩ q⟩
/-- {k: v, ..} with keys ints and texts; the new dict stands empty while the pairs are made -/
def tDisp (trs : List (TE × TE)) : TE := fun σ H Q => ∀ p, H p = none → tPairs trs σ (upd H p (.dK [])) fun ps H2 => H2 p = some (.dK []) ∧ ∃ kvs : List (Key × V), ps = kvs.map (fun kv => (kV kv.1, kv.2)) ∧ kvs.length ≤ 15 ∧ Q (.ref p) (upd H2 p (.dK (mergeK [] kvs)))
theorem pe_disp {X : Cx} {pos : Pos} {keys : List (Option Expr)} {values : List Expr} {trs : List (TE × TE)} (h : PPs X pos keys values trs) (hall : keys.all (·.isSome) = true) (hl : keys.length = values.length) (h0 : keys ≠ [])
    (h15 : keys.length ≤ 15) : PE X (.Dict keys values pos) (tDisp trs) := by
  intro pins s σ H Q I q
  have hn := I.hok.fresh (Nat.le_refl s.heap.objs.size)
  have I1 := I.laid (a := s.heap.objs.size) (o := .dK []) (h' := s.heap.push { cls := .type "dict", data := .dict #[] }) (t' := s.toks) (fun _ _ q => Heap.get?_push_of_some _ q) (Nat.le_refl _) (dk_empty s.heap I.big)
  refine wpAny_Dict_walk (knd := mixKind X.prog X.w) hall hl h0 h15 (thn (h pins _ σ _ _ I1 (q _ hn)) fun ws s2 ⟨ps, H2, I2, rel, e, kvs, ep, lk, q2⟩ => ?_)
  subst ep
  obtain ⟨rs, c, rk⟩ := carries_of (P := X.prog) (w := X.w) rel
  obtain ⟨z, hd, vs0, r0, dd⟩ := dk_of I2.hok e
  cases r0
  refine ⟨rs, c, dd, fun h' dd' hs => ⟨.ref s.heap.objs.size, _, ?_, rfl, q2⟩⟩
  have hz : (mergeK [] kvs).length ≤ sizeLine := by
    have h1 := length_mergeK kvs []
    rw [List.length_nil] at h1
    rw [sizeLine_eq]; omega
  have he : ∃ q, h'.get? s.heap.objs.size = some q := let ⟨q, _, _, hq, _⟩ := dd'; ⟨q, hq⟩
  exact d_write I2 (by rw [e]; exact True.intro) hs he (dk_new hz hd (rk.merge .nil) dd')


/-! ### methods -/
/-- a method call o.m(e) of a built-in, with one argument: what must be seen of the text -/
structure M1 (X : Cx) (o : Expr) (m : Str) (apos : Pos) (e : Expr) (cpos : Pos) : Prop where
  base : attributeBase o m X.env (eval o X.env) = eval o X.env
  few : ((backTo cpos (starEach [e] X.env)).all (fun x => !x.1) && (backToKw cpos (keywordEach [] X.env)).all (fun x => x.1.isSome)
    && decide (([e] : List Expr).length + ([] : List Keyword).length + (if ([] : List Keyword).isEmpty then 0 else 1) < 30)) = true
  line : (apos.endLine == cpos.line) = true
  trees : backTo cpos (starEach [e] X.env) = [(false, eval e X.env)]
structure M2 (X : Cx) (o : Expr) (m : Str) (apos : Pos) (e f : Expr) (cpos : Pos) : Prop where
  base : attributeBase o m X.env (eval o X.env) = eval o X.env
  few : ((backTo cpos (starEach [e, f] X.env)).all (fun x => !x.1) && (backToKw cpos (keywordEach [] X.env)).all (fun x => x.1.isSome)
    && decide (([e, f] : List Expr).length + ([] : List Keyword).length + (if ([] : List Keyword).isEmpty then 0 else 1) < 30)) = true
  line : (apos.endLine == cpos.line) = true
  trees : backTo cpos (starEach [e, f] X.env) = [(false, eval e X.env), (false, eval f X.env)]

/-- a is a dict, whatever its keys -/
def IsD (H : Hp) (a : Addr) : Prop := (∃ kvs, Rd H a (.dK kvs)) ∨ ∃ kvs, Rd H a (.dT kvs)
theorem isD_at {X : Cx} {pins : List (Addr × Obj)} {σ : St} {H : Hp} {s : Shared} {a : Addr} (I : Inv X pins σ H s) (d : IsD H a) :
    s.TypeIs (.ref a) "dict" ∧ (∀ b, Value.ref a = .ref b → ∃ ob, s.heap.get? b = some ob ∧ ob.dict = none) ∧ (a == sysModules) = false := by
  rcases d with ⟨kvs, e⟩ | ⟨kvs, e⟩
  · obtain ⟨_, hd, vs, _, dd⟩ := dk_rd I.hok e
    refine ⟨dd.typeIs, fun b q => ?_, hd⟩
    cases q
    obtain ⟨ob, _, _, h1, h2, _⟩ := dd
    exact ⟨ob, h1, h2.2.1⟩
  · obtain ⟨_, hd, xs, _, dd⟩ := dt_rd I.hok e
    refine ⟨dd.typeIs, fun b q => ?_, hd⟩
    cases q
    obtain ⟨ob, _, _, h1, h2, _⟩ := dd
    exact ⟨ob, h1, h2.2.1⟩

section
variable {X : Cx} {pins : List (Addr × Obj)} {σ : St} {H : Hp} {s : Shared} {a : Addr} {y d : V} {u r : Value} {o : Option V} {A : Around} {E : Value → Shared → Prop}
/-- d.get(y, x) -/
theorem d_get2 {Q : Value → Shared → Prop} (hu : A.units + 1 < cLine) (I : Inv X pins σ H s) (g : DGet H a y o) (ry : RelV y u) (rd : RelV d r) (h : ∀ w' s', Inv X pins σ H s' → RelV (o.getD d) w' → Q w' s') :
    wpAny (model X.prog X.w) A (call (.builtin "dict.get") [.ref a, u, r]) Q E s := by
  rcases g with ⟨kvs, k, e, ey, l⟩ | ⟨kvs, k, b, e, ey, eb, l⟩
  · subst ey
    obtain ⟨z, hd, vs, rel, dd⟩ := dk_rd I.hok e
    refine call_meetsIn PySem.F.slot_dict_get dd.typeIs PySem.F.entry_dict_get (PySem.F.args_dict_get_3 _ _ _) (meets_dict_get_default (mixKind X.prog X.w) a (kV_is ry) hd r) ⟨_, dd.mapOf, h _ _ (I.tok _) ?_⟩
    rw [l]
    exact (rel.val k).getD rd
  · subst ey
    cases (show u = Value.ref b from ry)
    obtain ⟨z, hd, xs, rel, dd⟩ := dt_rd I.hok e
    refine call_meetsIn PySem.F.slot_dict_get dd.typeIs PySem.F.entry_dict_get (PySem.F.args_dict_get_3 _ _ _) (meetsH_dict_get_default (tupleKind (mixKind X.prog X.w)) a b hd r) ⟨tupleKind_room_in1 hu, k, xs, key_of I.hok eb, dd, h _ _ (I.tok _) ?_⟩
    rw [l]
    exact (rel.val k).getD rd
end

def tDGet2 (td ty tx : TE) : TE := fun σ H Q => td σ H fun x H1 => ∃ a, x = .ref a ∧ IsD H1 a ∧ ty σ H1 fun y H2 => tx σ H2 fun z H3 => ∃ o, DGet H3 a y o ∧ Q (o.getD z) H3
section
variable {X : Cx} {o e f : Expr} {apos cpos : Pos} {td ty tx : TE}
theorem pe_dget2 (hu : X.A.units + 1 < cLine) (ho : PE X o td) (he : PE X e ty) (hf : PE X f tx) (m : M2 X o "get" apos e f cpos) : PE X (.Call (.Attribute o "get" apos) [e, f] [] cpos) (tDGet2 td ty tx) := by
  intro pins s σ H Q I h
  refine wpAny_Call_method m.base m.few m.line PySem.F.plainAttrs_dict PySem.F.slot_dict_get PySem.F.type_dict_get (thn (ho pins s σ H _ I h) fun u s1 ⟨x, H1, I1, rx, a, ex, d, q1⟩ => ?_)
  subst ex
  obtain rfl : u = Value.ref a := rx
  obtain ⟨t1, t2, _⟩ := isD_at I1 d
  refine ⟨t1, t2, ?_⟩
  rw [m.trees]
  refine Calls.callWith_builtin rfl (Calls.evalArgs_plain (Calls.spliced_cons (thn (he pins s1 σ H1 _ I1 q1) fun iv s2 ⟨y, H2, I2, ry, q2⟩ =>
    Calls.spliced_cons (thn (hf pins s2 σ H2 _ I2 q2) fun fv s3 ⟨z, H3, I3, rz, ov, g, q3⟩ => Calls.spliced_nil ?_))))
  exact d_get2 hu I3 g ry rz fun w' s4 I4 rw' => ⟨_, H3, I4, rw', q3⟩
end

/-! ### dict(d): a copy -/
section
variable {X : Cx} {pins : List (Addr × Obj)} {σ : St} {H : Hp} {s : Shared} {a : Addr} {kvs : List (Key × V)} {A : Around} {E : Value → Shared → Prop}
end


section
variable {X : Cx} {pins : List (Addr × Obj)} {σ : St} {H : Hp} {s : Shared} {a : Addr} {y : V} {u : Value} {A : Around} {E : Value → Shared → Prop}
end
end L2
end
section
set_option Elab.async false
set_option linter.all false
set_option maxRecDepth 100000
set_option maxHeartbeats 4000000
namespace L2
open PySem PySem.Spec PyProof.Rows
section
variable {prog : Program} {w : World} {A : Around} {E : Value → Shared → Prop} {s : Shared}
/-- the iterator's place was moved on -/
theorem iter_moved {h : Heap} {it t : Addr} {i : Nat} {o : Obj} (ho : h.get? it = some o) (hc : o.cls = .type "tuple_iterator") (hd : o.data = .fields #[.ref t, .int i 0]) {h' : Heap}
    (e : h' = h.update it (fun o => o.mapFields fun a => a.setIfInBounds 1 (rawInt ((i : Int) + 1)))) : h'.IsTupleIter it t (i + 1) := by
  subst e
  have d := Obj.data_mapFields hd fun a => a.setIfInBounds 1 (rawInt ((i : Int) + 1))
  refine ⟨_, Heap.get?_update_self _ ho (Obj.isFreed_of_fields d), ?_, ?_⟩
  · rw [Obj.cls_mapFields]; exact hc
  · rw [d]; simp [rawInt]
/-- the next thing of a tuple's iterator -/
theorem tup_next {it t : Addr} {i : Nat} {items : Array Value} {x : Value} {Q : Value → Shared → Prop} (hit : s.heap.IsTupleIter it t i) (ht : s.heap.IsTuple t items) (hx : items[i]? = some x)
    (hQ : ∀ h', h'.IsTupleIter it t (i + 1) → Heap.SameBut it s.heap h' → Q x { s with heap := h' }) : wpAny (model prog w) A (Builtin.SmallTypes.nextOf (.ref it)) Q E s := by
  obtain ⟨⟨c, dd, dt, sl⟩, ho, hc, hd⟩ := id hit
  obtain ⟨⟨c2, dd2, dt2, sl2⟩, ho2, hc2, n2, hd2⟩ := id ht
  simp only at hc hd hc2 hd2
  subst hc hd hc2 hd2
  unfold Builtin.SmallTypes.nextOf
  refine wpAny_bind (wpAny_callSpecial?_slot (name := Str.ofString "__next__") hit.typeIs F.slot_tuple_iterator_next (wpAny_call_entry F.slot_tuple_iterator_next hit.typeIs F.entry_tuple_iterator_next ?_ (F.args_tuple_iterator_next_1 _)))
  unfold Builtin.«tuple_iterator.__next__»
  wp_walk using AutoSeq1.wpAny_loadPart' ho, AutoSeq1.wpAny_loadPart' ho2
  have e : items[(i : Int).toNat]? = some x := by rw [Int.toNat_natCast]; exact hx
  rw [e]
  refine wpAny_bind (wpAny_setField ho rfl (by simp) ?_)
  exact wpAny_pure ⟨x, rfl, wpAny_pure (hQ _ (iter_moved ho rfl rfl rfl) (Heap.SameBut.update ..))⟩
/-- none is left -/
theorem tup_stop {it t : Addr} {i : Nat} {items : Array Value} {Q : Value → Shared → Prop} (hh : A.handled = none) (hit : s.heap.IsTupleIter it t i) (ht : s.heap.IsTuple t items) (hx : items[i]? = none)
    (hE : ∀ h' e, Heap.ExtBut it s.heap h' → (∃ o, h'.get? e = some o ∧ o.cls = .type "StopIteration") → E (.ref e) { s with heap := h' }) : wpAny (model prog w) A (Builtin.SmallTypes.nextOf (.ref it)) Q E s := by
  obtain ⟨⟨c, dd, dt, sl⟩, ho, hc, hd⟩ := id hit
  obtain ⟨⟨c2, dd2, dt2, sl2⟩, ho2, hc2, n2, hd2⟩ := id ht
  simp only at hc hd hc2 hd2
  subst hc hd hc2 hd2
  unfold Builtin.SmallTypes.nextOf
  refine wpAny_bind (wpAny_callSpecial?_slot (name := Str.ofString "__next__") hit.typeIs F.slot_tuple_iterator_next (wpAny_call_entry F.slot_tuple_iterator_next hit.typeIs F.entry_tuple_iterator_next ?_ (F.args_tuple_iterator_next_1 _)))
  unfold Builtin.«tuple_iterator.__next__»
  wp_walk using AutoSeq1.wpAny_loadPart' ho, AutoSeq1.wpAny_loadPart' ho2
  have e : items[(i : Int).toNat]? = none := by rw [Int.toNat_natCast]; exact hx
  rw [e]
  refine wpAny_bind (wpAny_rule (wpAny_bind (wpAny_setField ho rfl (by simp) ?_)))
  have hh1 : A.in1.handled = none := hh
  unfold Builtin.SmallTypes.stopIteration
  simp only [newExc, newTuple, raiseNew]
  wp_walk
  refine hE _ _ ?_ ⟨_, Heap.get?_push_size _ rfl, rfl⟩
  have a := (Heap.SameBut.update (a := it) (h := s.heap) (f := Obj.mapFields fun x => x.setIfInBounds 0 Value.none)).extBut
  exact (a.push _).push _
theorem draws_tup (hh : A.handled = none) (it t : Addr) (hne : t ≠ it) (items : Array Value) :
    Draws prog w A it [it, t] items.size (fun i v => items[i]? = some v) (fun i h => h.IsTupleIter it t i ∧ h.IsTuple t items) where
  live := fun _ _ st => let ⟨o, ho, _⟩ := st.1; ⟨o, ho⟩
  frame := fun _ _ _ st hk => ⟨st.1.at fun o e => hk it (by simp) o e, let ⟨o, e, r⟩ := st.2; ⟨o, hk t (by simp) o e, r⟩⟩
  item := fun i s Q E hi st hQ => tup_next st.1 st.2 (x := items[i]) (by simp [hi]) fun h' a b => hQ _ h' s.toks (by simp [hi]) ⟨a, let ⟨o, e, r⟩ := st.2; ⟨o, (b.2 t hne).trans e, r⟩⟩ b
  done := fun s Q E st hE => tup_stop hh st.1 st.2 (by simp) hE
theorem enum_newT (l : Addr) (items : Array Value) (n : Nat) (dct : Option Addr) (sl : Array (Option Value)) :
    Meets (Builtin.«enumerate.__new__» ⟨[.type "enumerate", .ref l], []⟩) (fun _ R s => s.heap.get? l = some { cls := .type "tuple", dict := dct, data := .seq items n, slots := sl } ∧
      R (.ok (.ret (.ref (s.heap.objs.size + 1)))) { s with heap := (s.heap.push { cls := .type "tuple_iterator", data := .fields #[.ref l, .int 0 0] }).push { cls := .type "enumerate", data := .fields #[.none, .bool false, .ref s.heap.objs.size, rawInt 0, .none, .none] } }) :=
  .of_wp fun prog w A R s h => by
    obtain ⟨hp, g, d, tk, os⟩ := s
    obtain ⟨hl, h⟩ := h
    have hsub := sub_enumerate
    have hT : Heap.IsTuple (Shared.heap ⟨hp, g, d, tk, os⟩) l items := ⟨_, hl, rfl, n, rfl⟩
    wp_walk using AutoSeq1.wpAny_loadPart' hl
    refine wpAny_stack_any fun st => wpAny_pure ?_
    split
    · rename_i c _ _ _ _ _
      cases (c == Value.type "enumerate") <;> (wp_walk using AutoSeq1.wpAny_loadPart' hl, wpAny_pyIter_tuple hT) <;> (refine ⟨_, rfl, ?_⟩; rw [Heap.size_push]; exact h)
    · wp_walk using AutoSeq1.wpAny_loadPart' hl, wpAny_pyIter_tuple hT
      refine ⟨_, rfl, ?_⟩
      rw [Heap.size_push]
      exact h
theorem call_enumT {l : Addr} {items : Array Value} {Q : Value → Shared → Prop} (hT : s.heap.IsTuple l items)
    (h : ∀ h', IsEnum h' (s.heap.objs.size + 1) s.heap.objs.size 0 .none → h'.IsTupleIter s.heap.objs.size l 0 → (∀ b o, s.heap.get? b = some o → h'.get? b = some o) → Q (.ref (s.heap.objs.size + 1)) { s with heap := h' }) :
    wpAny (model prog w) A (call (.type "enumerate") [.ref l]) Q E s := by
  obtain ⟨⟨c, dct, dt, sl⟩, hl, hc, n, hd⟩ := hT
  simp only at hc hd
  subst hc hd
  refine callType_new F.called_enumerate (by decide) (F.typeCall_enumerate_1 _) (F.newCall_enumerate_1 _) (fun obj => F.args_object_init_2 obj _) F.entry_enumerate_new (enum_newT l items n dct sl) ⟨hl, ?_⟩
  have z := Heap.get?_push_size (s.heap.push { cls := .type "tuple_iterator", data := .fields #[.ref l, .int 0 0] }) (o := { cls := .type "enumerate", data := .fields #[.none, .bool false, .ref s.heap.objs.size, rawInt 0, .none, .none] }) rfl
  rw [Heap.size_push] at z
  exact ⟨⟨_, z, rfl⟩, h _ z ⟨_, Heap.get?_push_of_some _ (Heap.get?_push_size _ rfl), rfl, rfl⟩ fun b o x => Heap.get?_push_of_some _ (Heap.get?_push_of_some _ x)⟩
end
/-- the pairs (place, thing) of a tuple -/
def Ite (K : PySem.W.Frag) (a : Addr) : It :=
  ⟨fun i H => ∃ xs x, SqT K H a xs ∧ xs[i]? = some x, fun i H x H' => ∃ p y, H p = none ∧ x = .ref p ∧ (∀ xs, SqT K H a xs → xs[i]? = some y) ∧ H' = upd H p (.tup [.int i, y]), fun i H => ∃ xs, SqT K H a xs ∧ xs.length ≤ i⟩
theorem turn_enum {P : Program} {w : World} {K : PySem.W.Frag} {elts : List Expr} {k : Nat} {pos : Pos} (a e it : Addr) (hei : e ≠ it) : Turn P w K (.Tuple elts k pos) (Ite K a) [e, it] e (fun i h => (∃ old, IsEnum h e it i old) ∧ h.IsTupleIter it a i) where
  mem := by simp
  obj := fun i h st b hb => by
    obtain ⟨⟨old, h1⟩, ⟨o, h2, h3, h4⟩⟩ := st
    simp only [List.mem_cons, List.not_mem_nil, or_false] at hb
    rcases hb with rfl | rfl
    · exact ⟨_, h1, fun v z => nomatch z⟩
    · exact ⟨o, h2, fun v z => by rw [h4] at z; cases z⟩
  keep := fun i h h' st k => by
    obtain ⟨⟨old, h1⟩, h2⟩ := st
    exact ⟨⟨old, k e (by simp) _ h1⟩, h2.at fun o q => k it (by simp) o q⟩
  item := by
    intro X hP hw hK hc i pins s σ H E I hf st hg
    subst hP hw hK
    obtain ⟨xs, x, hq, hx⟩ := hg
    obtain ⟨its, rv, p, hz⟩ := I.tuple hq
    obtain ⟨u, hu, ru⟩ := rv.get hx
    obtain ⟨⟨old, h1⟩, h2⟩ := st
    obtain ⟨oi, hi1, hi2, hi3⟩ := id h2
    obtain ⟨oa, ha1, ha2, _⟩ := id p
    have hea : a ≠ e := fun z => by rw [z, h1] at ha1; cases ha1; injection ha2 with q; exact absurd q (by decide)
    have hia : a ≠ it := fun z => by rw [z, hi1] at ha1; cases ha1; rw [hi2] at ha2; injection ha2 with q; exact absurd q (by decide)
    have hil : i < its.toArray.size := by
      have := (List.getElem?_eq_some_iff.mp hu).1
      simpa using this
    have hh : X.A.in1.handled = none := I.ok.hd hc
    have D := draws_tup (prog := X.prog) (w := X.w) hh it a hia its.toArray
    refine wpAny_pyNext_enum_itemD D h1 ⟨h2, p⟩ hil hei (by simp [hei, Ne.symm hea]) ?_
    intro y h' tk hy out st' tup size kept
    have ey : y = u := by
      have : its[i]? = some y := by simpa using hy
      rw [hu] at this
      exact (Option.some.inj this).symm
    subst ey
    refine ⟨_, rfl, wpAny_letOwnedTupleGo_enum out fun h'' en sb => ?_⟩
    have hfe := hf e (by simp)
    have hfi := hf it (by simp)
    have lt : ∀ b o, s.heap.get? b = some o → b ≠ s.heap.objs.size := fun b o q => Nat.ne_of_lt (Heap.lt_size q)
    have kept2 : ∀ b o, b ≠ e → b ≠ it → s.heap.get? b = some o → h''.get? b = some o := fun b o b1 b2 q => (sb.2 b b1).trans (kept b o b1 b2 q)
    have fr : H s.heap.objs.size = none := I.hok.fresh (Nat.le_refl _)
    have tup2 : h''.get? s.heap.objs.size = some { cls := .type "tuple", data := .seq #[.int i tk, y] } := (sb.2 _ (Ne.symm (lt e _ h1))).trans tup
    have ne1 : ∀ b u, H b = some u → b ≠ e := fun b u q z => by rw [z, hfe.1] at q; cases q
    have ne2 : ∀ b u, H b = some u → b ≠ it := fun b u q z => by rw [z, hfi.1] at q; cases q
    refine ⟨.ref s.heap.objs.size, upd H s.heap.objs.size (.tup [.int i, x]), ?_, rfl, ⟨_, x, fr, rfl, fun ys hys => by rw [I.tuple_inj hys hq]; exact hx, rfl⟩, ⟨⟨y, en⟩, ?_⟩, ?_⟩
    · show Inv X pins σ _ { s with heap := h'', gens := s.gens, drawn := s.drawn, toks := tk + 1 }
      refine I.step (g' := s.gens) (d' := s.drawn) (ch := [e, it]) ?_ ?_ ?_ ?_ ?_ ?_ ?_ ?_ ?_ ?_ I.bare
      · intro b hb
        simp only [List.mem_cons, List.not_mem_nil, or_false] at hb
        rcases hb with rfl | rfl
        · exact ⟨hfe.2.2.2.1, hfe.2.1, hfe.2.2.2.2.1, hfe.2.2.2.2.2⟩
        · exact ⟨hfi.2.2.2.1, hfi.2.1, hfi.2.2.2.2.1, hfi.2.2.2.2.2⟩
      · exact fun b o _ _ hc q _ => kept2 b o (fun z => hc (by simp [z])) (fun z => hc (by simp [z])) q
      · exact fun b o _ _ hc q _ => ⟨o.slots, kept2 b o (fun z => hc (by simp [z])) (fun z => hc (by simp [z])) q⟩
      · exact fun b o _ q n => by rw [upd_ne (lt b o q)]; exact n
      · exact fun b o hc q => ⟨o, kept2 b o (fun z => hc (by simp [z])) (fun z => hc (by simp [z])) q⟩
      · exact fun b ys q => by rw [upd_ne (ne_of_none q fr)]; exact q
      · exact fun b o u q => by rw [upd_ne (ne_of_none q fr)]; exact q
      · exact fun b ps q => ⟨#[], by rw [upd_ne (ne_of_none q fr), q]; simp⟩
      · rintro m ⟨o, es, ep, ho, r⟩
        exact ⟨o, es, ep, kept2 _ o (Ne.symm hfe.2.1) (Ne.symm hfi.2.1) ho, r⟩
      · intro b v q
        by_cases hb : b = s.heap.objs.size
        · subst hb
          rw [upd_same] at q
          cases q
          exact ⟨by show 2 ≤ sizeLine; decide, [.int i tk, y], .cons ⟨tk, rfl⟩ (.cons ru .nil), ⟨_, tup2, rfl, 0, rfl⟩⟩
        · rw [upd_ne hb] at q
          refine (I.hok b v q).stay (fun c z hc r => kept2 c z ?_ ?_ r) (fun c r => by rw [upd_ne (ne_of_none r fr)]; exact r) (fun c ys r => by rw [upd_ne (ne_of_none r fr)]; exact r)
          · rcases hc with z | z
            · rw [z]; exact ne1 b v q
            · exact ne1 c _ z
          · rcases hc with z | z
            · rw [z]; exact ne2 b v q
            · exact ne2 c _ z
    · exact st'.1.at fun o q => (sb.2 it (Ne.symm hei)).trans q
    · intro b hb
      simp only [List.mem_cons, List.not_mem_nil, or_false] at hb
      rcases hb with rfl | rfl
      · rw [upd_ne (lt b _ h1)]; exact hfe.1
      · rw [upd_ne (lt b _ hi1)]; exact hfi.1
  done := by
    intro X hP hw hK hc i pins s σ H E I hf st hg
    subst hP hw hK
    obtain ⟨xs, hq, hx⟩ := hg
    obtain ⟨its, rv, p, hz⟩ := I.tuple hq
    obtain ⟨⟨old, h1⟩, h2⟩ := st
    have hl := rv.length
    have hh : X.A.in1.handled = none := I.ok.hd hc
    obtain ⟨f0, f1, f2, f3, f4, f5⟩ := hf it (by simp)
    have D : Draws X.prog X.w X.A.in1 it [it, a] i (fun _ _ => True) (fun j h => j = i ∧ h.IsTupleIter it a i ∧ h.IsTuple a its.toArray) :=
      { live := fun _ _ st => let ⟨o, ho, _⟩ := st.2.1; ⟨o, ho⟩
        frame := fun _ _ _ st hk => ⟨st.1, st.2.1.at fun o e => hk it (by simp) o e, let ⟨o, e, r⟩ := st.2.2; ⟨o, hk a (by simp) o e, r⟩⟩
        item := fun j s Q E hj st _ => absurd st.1 (Nat.ne_of_lt hj)
        done := fun s Q E st hE => tup_stop hh st.2.1 st.2.2 (by simp; omega) hE }
    exact wpAny_pyNext_enum_endD D h1 ⟨rfl, h2, p⟩ fun h' eb => ⟨rfl, I.turned (t' := s.toks) (fun b o hb q => eb b o hb q) f0 f1 f3 f4 f5⟩
  self := fun _ _ _ _ _ st h => by
    obtain ⟨⟨old, h1⟩, _⟩ := st
    exact wpAny_pyIter_enum h1 h
section
variable {X : Cx}
def iEnum (K : PySem.W.Frag) (ta : TA) : TI := fun σ H R => ta σ H fun vs H1 => ∃ a, vs = [.ref a] ∧ (∃ xs, SqT K H1 a xs) ∧ R (Ite K a) H1
/-- for i, x in enumerate(t), t a tuple -/
theorem pi_enum {a : Expr} {ta : TA} {p pos tp : Pos} {elts : List Expr} {k : Nat} (hg : Gl X "enumerate") (hm : X.mg "enumerate" = none) (ha : PA X [a] ta) (hs : starEach [a] X.env = [(false, eval a X.env)] := by rfl) :
    PI X (.Tuple elts k tp) (.Call (.Name "enumerate" p) [a] [] pos) (iEnum X.K ta) := by
  intro pins s σ H R I h
  refine Call_ (ld_blt I hg hm boot_enumerate (callWith_type1 (thn (ha pos pins s σ H _ I h) fun us s1 ⟨vs, H1, I1, r1, q1⟩ => ?_) hs rfl))
  obtain ⟨b, e, ⟨xs, hq⟩, q⟩ := q1
  subst e
  obtain ⟨u, rfl, ru⟩ := r1.one
  cases (show u = Value.ref b from ru)
  obtain ⟨its, rv, pt, hz⟩ := I1.tuple hq
  refine call_enumT (show s1.heap.IsTuple b its.toArray from pt) fun h' en it kp => ?_
  refine wpAny_pyIter_enum (s := { s1 with heap := h' }) en ?_
  refine ⟨s1.heap.objs.size + 1, [s1.heap.objs.size + 1, s1.heap.objs.size], _, _, H1, rfl, I1.kept (t' := s1.toks) kp, turn_enum b (s1.heap.objs.size + 1) s1.heap.objs.size (Nat.succ_ne_self _), ⟨⟨_, en⟩, it⟩, fun c hc => ?_, q⟩
  simp only [List.mem_cons, List.not_mem_nil, or_false] at hc
  rcases hc with rfl | rfl
  · exact I1.fpOk (by omega) (I1.hok.fresh (by omega))
  · exact I1.fpOk (Nat.le_refl _) (I1.hok.fresh (Nat.le_refl _))
end
end L2
end
section
set_option Elab.async false
set_option linter.all false
set_option maxRecDepth 100000
set_option maxHeartbeats 4000000
namespace L2
open PySem PySem.Spec PyProof.Rows
section
variable {X : Cx}
/-- a def of the text, at f, by what it promises -/
def FnAt (X : Cx) (k : Nat) (f : Addr) (sp : Sp) : Prop := ∃ fd ps, FnOk X.prog X.w X.K X.mg X.base CX0 k f fd ps sp ∧ PySem.W.keepIn X.K (.ref f) = true ∧ Binds X.K fd ps []
def tCallL (X : Cx) (k i : Nat) (t : TA) : TE := fun σ H Q => ∃ f sp, σ[i]? = some (some (.ref f)) ∧ FnAt X k f sp ∧ t σ H fun vs H1 => sp (vs ++ []) H1 Q E0
/-- f(e, ..), f a local that holds a def -/
theorem pe_callL {k i : Nat} {x : Str} {e : Expr} {es : List Expr} {t : TA} {p pos : Pos} (hN : X.N[i]? = some x) (hv : Vis X.env.scope x) (hr : Room k X.A) (ha : PA X (e :: es) t)
    (hd : (x == ("__debug__" : Str)) = false := by decide) (hcd : (x == ("__classdict__" : Str)) = false := by decide) (he : starEach (e :: es) X.env = (false, eval e X.env) :: starEach es X.env := by rfl)
    (hpl : (backTo pos (starEach es X.env)).any (·.1) = false := by rfl) : PE X (.Call (.Name x p) (e :: es) [] pos) (tCallL X k i t) := by
  intro pins s σ H Q I h
  obtain ⟨f, sp, el, ⟨fd, ps, F, hk, hb⟩, h⟩ := h
  refine wpAny_Call_Name_kw (thn (pe_var hN hv hd hcd pins s σ H (fun v H1 => v = .ref f ∧ H1 = H) I ⟨_, el, rfl, rfl⟩) fun u s1 ⟨v, H1, I1, r, ev, eh⟩ => ?_)
  subst ev eh
  obtain rfl : u = Value.ref f := r
  refine PySem.W.callWith_K (h₀ := X.base) I.ok.mod.kin hk (thn (ha pos pins s1 σ H1 _ I1 h) fun us s2 ⟨vs, H2, I2, r2, q⟩ => ⟨I2.kIn, ?_⟩) he hpl
  exact run_fn F hr hb .nil pass0 I2 r2 q
end
end L2
end
section
set_option Elab.async false
set_option linter.all false
set_option maxRecDepth 100000
set_option maxHeartbeats 4000000
namespace L2
open PySem PySem.Spec PyProof.Rows
/-- a dict of the text's top, its keys texts -/
structure TopD (K : PySem.W.Frag) (w : World) (a : Addr) (kvs : List (Str × V)) : Prop where
  ex : ∃ (es : Array DictEntry) (n : Nat), K.lookup a = some ⟨.type "dict", none, .dict es n, #[]⟩ ∧ PySem.W.KeysLit w.params es.toList ∧ (a == sysModules) = false ∧ ∀ x, RelO (kvs.lookup x) (findBy Value.isStrOf es x)
section
variable {X : Cx}
def rTopIx (K : PySem.W.Frag) (w : World) : R2 := fun x y H Q => ∃ a kvs k v, x = .ref a ∧ y = .str k ∧ TopD K w a kvs ∧ kvs.lookup k = some v ∧ Q v H
theorem ix_top : IxR X (rTopIx X.K X.w) := by
  intro value slice pins s σ H x y v u Q I rx ry h hs
  obtain ⟨a, kvs, k, z, rfl, rfl, ⟨es, n, hl, hk, hne, hr⟩, e, q⟩ := h
  cases rx
  obtain ⟨t, rfl⟩ := ry
  have hm := PySem.W.mapOf_K (prog := X.prog) I.kIn hl hk
  have r := hr k
  rw [e] at r
  cases f : findBy Value.isStrOf es k with
  | none => rw [f] at r; exact r.elim
  | some u =>
    rw [f] at r
    exact tail_any hm.typeIs slot_dict_getitem.lookup (wpAny_getItem_of (strKind_is X.prog X.w k t) hm f ⟨z, H, I.tok _, r, q⟩) hs
def rTopIn (K : PySem.W.Frag) (w : World) (neg : Bool) : R2 := fun x y H Q => ∃ a kvs k, y = .ref a ∧ x = .str k ∧ TopD K w a kvs ∧ Q (.bl (if neg then !(kvs.lookup k).isSome else (kvs.lookup k).isSome)) H
theorem op_notIn_top : OpR X (compareOp .NotIn) (rTopIn X.K X.w true) := by
  intro pins s σ H x y v u Q I rx ry h
  obtain ⟨a, kvs, k, rfl, rfl, ⟨es, n, hl, hk, hne, hr⟩, q⟩ := h
  cases ry
  obtain ⟨t, rfl⟩ := rx
  refine wpAny_notIn_of (strKind_is X.prog X.w k t) hne (PySem.W.mapOf_K (prog := X.prog) I.kIn hl hk) ⟨.bl _, H, I.tok _, ?_, q⟩
  show _ = _
  have r : (kvs.lookup k).isSome = (findBy Value.isStrOf es k).isSome := (hr k).isSome_eq
  rw [← r]
  rfl
end
theorem find_paired {kvs : List (Str × V)} {es : List DictEntry} (p : Paired (fun (p : Str × V) (e : DictEntry) => (∃ t, e.key = .str p.1 t) ∧ RelV p.2 e.val) kvs es) (x : Str) : RelO (kvs.lookup x) (findBy Value.isStrOf es.toArray x) := by
  unfold findBy
  rw [List.find?_toArray]
  induction p with
  | nil => trivial
  | @cons q e r t h _ ih =>
    obtain ⟨⟨tk, hk⟩, hv⟩ := h
    obtain ⟨k, v⟩ := q
    rw [List.find?_cons, hk]
    show RelO (match x == k with | true => some v | false => List.lookup x r) _
    by_cases z : x = k
    · subst z
      have e1 : (x == x) = true := beq_self_eq_true x
      have e2 : Value.isStrOf x (.str x tk) = true := beq_self_eq_true x
      rw [e1, e2]
      exact hv
    · have e1 : (x == k) = false := beq_eq_false_iff_ne.mpr z
      have e2 : Value.isStrOf x (.str k tk) = false := beq_eq_false_iff_ne.mpr (Ne.symm z)
      rw [e1, e2]
      exact ih
theorem top_mk {K : PySem.W.Frag} {w : World} {a : Addr} {n : Nat} {es : List DictEntry} {kvs : List (Str × V)} (l : K.lookup a = some ⟨.type "dict", none, .dict es.toArray n, #[]⟩) (hk : PySem.W.KeysLit w.params es) (hne : (a == sysModules) = false)
    (hp : Paired (fun (p : Str × V) (e : DictEntry) => (∃ t, e.key = .str p.1 t) ∧ RelV p.2 e.val) kvs es) : TopD K w a kvs := ⟨_, n, l, hk, hne, find_paired hp⟩
end L2
end
section
set_option Elab.async false
set_option linter.all false
set_option maxRecDepth 100000
set_option maxHeartbeats 4000000
namespace L2
open PySem PySem.Spec PyProof.Rows
end L2
end
section
set_option Elab.async false
set_option linter.all false
set_option maxRecDepth 100000
set_option maxHeartbeats 4000000
set_option exponentiation.threshold 10000
namespace St
open PySem PySem.Spec L2 PyProof.Rows
/-- what a value is, one step deep -/
inductive Kd where
  | non | bl | int | str | tup | lst | dct
  deriving DecidableEq

def Kd.ty : Kd → String
  | .non => "NoneType" | .bl => "bool" | .int => "int" | .str => "str" | .tup => "tuple" | .lst => "list" | .dct => "dict"
/-- isinstance by kind -/
def Kd.isA : Kd → String → Bool
  | .bl, "bool" => true | .bl, "int" => true | .int, "int" => true | .str, "str" => true | .tup, "tuple" => true | .lst, "list" => true | .dct, "dict" => true
  | _, _ => false
section
variable {K : PySem.W.Frag}
theorem kit_int (k : Kd) : PySem.W.kitOne K (.type k.ty) (.type "int") = some (k.isA "int") := by
  cases k <;> first | rfl | (unfold PySem.W.kitOne; rfl)
theorem kit_bool (k : Kd) : PySem.W.kitOne K (.type k.ty) (.type "bool") = some (k.isA "bool") := by
  cases k <;> rfl
theorem kit_tuple (k : Kd) : PySem.W.kitOne K (.type k.ty) (.type "tuple") = some (k.isA "tuple") := by
  cases k <;> rfl
theorem kit_str (k : Kd) : PySem.W.kitOne K (.type k.ty) (.type "str") = some (k.isA "str") := by
  cases k <;> rfl
end
/-- a def of the text, called by its name -/
structure Dfn (P : Program) (w : World) (K : PySem.W.Frag) (mg : Str → Option Value) (base : Heap) (x : Str) (k : Nat) (ps : List Str) (sp : Sp) : Prop where
  ex : ∃ f fd, mg x = some (.ref f) ∧ PySem.W.keepIn K (.ref f) = true ∧ Binds K fd ps [] ∧ FnOk P w K mg base CX0 k f fd ps sp
/-- where it stands -/
structure Src (K : PySem.W.Frag) (mg : Str → Option Value) (x : Str) (st : Stmt) : Prop where
  ex : ∃ f fd, Fun K x x st f fd ∧ mg x = some (.ref f)
theorem Dfn.mono {P : Program} {w : World} {K : PySem.W.Frag} {mg : Str → Option Value} {base : Heap} {x : Str} {j k : Nat} {ps : List Str} {sp : Sp} (d : Dfn P w K mg base x j ps sp) (h : j ≤ k) : Dfn P w K mg base x k ps sp := by
  obtain ⟨f, fd, a, b, c, e⟩ := d.ex
  exact ⟨f, fd, a, b, c, e.mono h⟩
theorem pe_fn {X : Cx} {k : Nat} {x : Str} {ps : List Str} {sp : Sp} {e : Expr} {es : List Expr} {t : TA} {p pos : Pos} (d : Dfn X.prog X.w X.K X.mg X.base x k ps sp) (hr : Room k X.A) (hg : Gl X x) (ha : PA X (e :: es) t)
    (hdb : (x == ("__debug__" : Str)) = false := by decide) (he : starEach (e :: es) X.env = (false, eval e X.env) :: starEach es X.env := by rfl) (hpl : (backTo pos (starEach es X.env)).any (·.1) = false := by rfl) :
    PE X (.Call (.Name x p) (e :: es) [] pos) (tCall sp [] E0 t) := by
  obtain ⟨f, fd, a, b, c, F⟩ := d.ex
  exact pe_call F hr hg a b c .nil pass0 ha hdb he hpl
section
variable {X : Cx}
theorem op_mulB : OpR X (binaryOp .Mult) (rI (fun i j => i.natAbs < 2 ^ 5000 ∧ j.natAbs < 2 ^ 5000) fun i j => .int (i * j)) := opI fun _ _ _ _ _ _ _ hc q =>
  mul_int q (IntMulOk.of_bits (Nat.le_trans (PySem.intBits_le_iff.mpr hc.1) (by decide)) (Nat.le_trans (PySem.intBits_le_iff.mpr hc.2) (by decide)))
theorem log2_of {n : Nat} (h : n < 2 ^ 8000) : n.log2 < 9000 := by
  by_cases h0 : n = 0
  · subst h0; decide
  · exact Nat.lt_trans ((Nat.log2_lt h0).mpr h) (by decide)
theorem op_fdivB : OpR X (binaryOp .FloorDiv) (rI (fun _ j => 0 < j ∧ j.natAbs < 2 ^ 8000) fun i j => .int (i / j)) := opI fun i j _ _ _ _ _ hc q => by
  have h1 : (0 : Int) < j := hc.1
  exact floordiv_int (by omega) (by rw [Int.fdiv_eq_ediv_of_nonneg i (by omega)]; exact q) (.inl (PyProof.noPylong_of_log2 (log2_of hc.2)))
/-- a list's iterator, as the library's own loops take it -/
theorem walks_list {prog : Program} {w : World} {A : Around} (hh : A.handled = none) {a it : Addr} (hne : a ≠ it) {vs : List Value} : Walks prog w A it [it, a] [it] vs.length (fun i v => vs[i]? = some v) (fun i h => h.IsListIter it a i ∧ h.IsList a vs.toArray) where
  sub := fun b hb => by simp at hb; simp [hb]
  frame := fun i h h' st k => ⟨st.1.at fun o e => k it (by simp) o e, by
    obtain ⟨o, ho, r⟩ := st.2
    exact ⟨o, k a (by simp) o ho, r⟩⟩
  item := fun i s Q E hi st hQ => by
    refine wpAny_pyNext_list_item st.1 st.2 (x := vs[i]) (by simp [hi]) fun h' st' sb => ?_
    refine hQ _ h' s.toks (by simp [hi]) ⟨st', ?_⟩ fun b o hb e => (sb.2 b (by simpa using hb)).trans e
    obtain ⟨o, ho, r⟩ := st.2
    exact ⟨o, (sb.2 a hne).trans ho, r⟩
  done := fun s Q E st hQ => wpAny_pyNext_list_end hh st.1 st.2 (by simp) fun h' eb => hQ h' s.toks fun b o hb e => eb b o (by simpa using hb) e
  self := fun i s Q E st hQ => wpAny_pyIter_listiter st.1 hQ
theorem call_allL (hc : X.calm = true) : CallR X (.builtin "all") (fun xs H Q => ∃ (p : Addr) (bs : List Bool), xs = [.ref p] ∧ SqL X.K H p (bs.map V.bl) ∧ Q (.bl (bs.all id)) H) := by
  intro pins s σ H xs us Q I r h
  obtain ⟨p, bs, rfl, hp, q⟩ := h
  obtain ⟨u, rfl, ru⟩ := r.one
  cases (show u = Value.ref p from ru)
  obtain ⟨its, rv, pl, hz⟩ := I.list hp
  have hd : X.A.in1.handled = none := I.ok.hd hc
  refine call_all_walk (wpAny_pyIter_list pl.isList ?_)
  have hlen : bs.length = its.length := by have := rv.length; simpa using this
  have hpl := pl.isList
  have hne : p ≠ s.heap.objs.size := by
    obtain ⟨o, ho, _⟩ := hpl
    exact Nat.ne_of_lt (Heap.lt_size ho)
  refine ⟨s.heap.objs.size, _, _, its.length, _, _, fun i => bs.getD i true, rfl, walks_list (vs := its) hd hne, ⟨⟨_, Heap.get?_push_size _ rfl, rfl, rfl⟩, ?_⟩, ?_, ?_⟩
  · obtain ⟨o, ho, r⟩ := hpl
    exact ⟨o, Heap.get?_push_of_some _ ho, r⟩
  · intro i v s' Q' E' hv hq
    have hi : i < its.length := (List.getElem?_eq_some_iff.mp hv).1
    have hb : (bs.map V.bl)[i]? = some (.bl (bs.getD i true)) := by
      rw [List.getElem?_map, List.getElem?_eq_getElem (by omega)]
      simp [List.getD_eq_getElem?_getD, List.getElem?_eq_getElem (show i < bs.length by omega)]
    obtain ⟨u, hu, ru⟩ := rv.get hb
    rw [hv] at hu
    cases hu
    cases (show v = Value.bool _ from ru)
    exact wpAny_truthy_bool hq
  · intro h' tk hk
    have e : (List.range its.length).all (fun i => bs.getD i true) = bs.all id := by
      rw [← hlen]
      clear q hp rv hlen
      have : ∀ (l : List Bool), (List.range l.length).all (fun i => l.getD i true) = l.all id := by
        intro l
        induction l with
        | nil => rfl
        | cons b l ih =>
          rw [List.length_cons, List.range_succ_eq_map, List.all_cons, List.all_map, List.all_cons, ← ih]
          rfl
      exact this bs
    rw [e]
    exact ⟨.bl _, H, I.kept (t' := tk) fun b o eb => hk b o (by simp; exact Nat.ne_of_lt (Heap.lt_size eb)) (Heap.get?_push_of_some _ eb), rfl, q⟩
theorem take_sum {ns : List Int} {j : Nat} (h : j < ns.length) : (ns.take (j + 1)).sum = (ns.take j).sum + ns.getD j 0 := by
  have e : ns.getD j 0 = ns[j] := by simp [List.getD_eq_getElem?_getD, List.getElem?_eq_getElem h]
  rw [List.take_succ, List.getElem?_eq_getElem h, List.sum_append, e]
  show _ + (ns[j] + 0) = _
  omega
theorem preSum_take {ns : List Int} : ∀ {j : Nat}, j ≤ ns.length → preSum (fun i => ns.getD i 0) j = (ns.take j).sum
  | 0, _ => by simp [preSum]
  | j + 1, h => by
    rw [preSum, preSum_take (by omega), take_sum (by omega)]
theorem sum_bd {ns : List Int} (h : ∀ n ∈ ns, 0 ≤ n ∧ n ≤ 1000000) : 0 ≤ ns.sum ∧ ns.sum ≤ 1000000 * ns.length := by
  induction ns with
  | nil => simp
  | cons a l ih =>
    have h1 := h a (by simp)
    have h2 := ih fun n hn => h n (by simp [hn])
    rw [List.sum_cons, List.length_cons]
    have : ((l.length + 1 : Nat) : Int) = (l.length : Int) + 1 := by omega
    omega
theorem call_sumL (hc : X.calm = true) : CallR X (.builtin "sum") (fun xs H Q => ∃ (p : Addr) (ns : List Int), xs = [.ref p] ∧ SqL X.K H p (ns.map V.int) ∧ ns.length ≤ 1000 ∧ (∀ n ∈ ns, 0 ≤ n ∧ n ≤ 1000000) ∧ Q (.int ns.sum) H) := by
  intro pins s σ H xs us Q I r h
  obtain ⟨p, ns, rfl, hp, hln, hb, q⟩ := h
  obtain ⟨u, rfl, ru⟩ := r.one
  cases (show u = Value.ref p from ru)
  obtain ⟨its, rv, pl, hz⟩ := I.list hp
  have hd : X.A.in1.handled = none := I.ok.hd hc
  refine call_sum_walk (wpAny_pyIter_list pl.isList ?_)
  have hlen : ns.length = its.length := by have := rv.length; simpa using this
  have hpl := pl.isList
  have hlt : p < s.heap.objs.size := by
    obtain ⟨o, ho, _⟩ := hpl
    exact Heap.lt_size ho
  refine ⟨s.heap.objs.size, _, _, its.length, _, _, fun i => ns.getD i 0, rfl, walks_list (vs := its) hd (Nat.ne_of_lt hlt), ⟨⟨_, Heap.get?_push_size _ rfl, rfl, rfl⟩, ?_⟩, ?_, ?_, ?_, ?_⟩
  · obtain ⟨o, ho, r⟩ := hpl
    exact ⟨o, Heap.get?_push_of_some _ ho, r⟩
  · intro b hb
    rw [Heap.size_push]
    simp at hb
    rcases hb with h | h
    · rw [h]; exact Nat.lt_succ_self _
    · rw [h]; exact Nat.lt_succ_of_lt hlt
  · intro i v hv
    have hi : i < its.length := (List.getElem?_eq_some_iff.mp hv).1
    have hb : (ns.map V.int)[i]? = some (.int (ns.getD i 0)) := by
      rw [List.getElem?_map, List.getElem?_eq_getElem (by omega)]
      simp [List.getD_eq_getElem?_getD, List.getElem?_eq_getElem (show i < ns.length by omega)]
    obtain ⟨u, hu, ru⟩ := rv.get hb
    rw [hv] at hu
    cases hu
    exact ru
  · intro j hj
    have hj' : j < ns.length := by omega
    have hm : ns.getD j 0 ∈ ns := by
      rw [List.getD_eq_getElem?_getD, List.getElem?_eq_getElem hj']
      exact List.getElem_mem hj'
    have h1 := hb _ hm
    have h2 := sum_bd (ns := ns.take (j + 1)) fun n hn => hb n (List.mem_of_mem_take hn)
    rw [preSum_take (by omega)]
    have h3 : (ns.take (j + 1)).length ≤ 1000 := by rw [List.length_take]; omega
    show InLong (ns.getD j 0) ∧ _
    unfold InLong
    constructor <;> omega
  · intro h' tk t' hk
    have e : preSum (fun i => ns.getD i 0) its.length = ns.sum := by
      rw [← hlen, preSum_take (Nat.le_refl _), List.take_of_length_le (Nat.le_refl _)]
    rw [e]
    exact ⟨.int _, H, I.kept (t' := tk) fun b o eb => hk b o (by simp; exact Nat.ne_of_lt (Heap.lt_size eb)) (Heap.get?_push_of_some _ eb), ⟨_, rfl⟩, q⟩
end
section
variable {prog : Program} {w : World} {A : Around} {E : Value → Shared → Prop} {s : Shared}
/-- t[lo:hi], the whole of it -/
theorem getItem_tuple_all {t sl : Addr} {items : Array Value} {vl vu : Value} {lo hi : Option Int} {Q : Value → Shared → Prop} (ht : IsTup s.heap t items) (hs : s.heap.IsSliceOf sl vl vu .none) (pl : IsPart vl lo) (pu : IsPart vu hi)
    (hw : HT.sIx items.size 0 lo = 0 ∧ HT.sIx items.size items.size hi = items.size)
    (h : Q (.ref t) s) : wpAny (model prog w) A (getItem (.ref t) (.ref sl)) Q E s := by
  obtain ⟨os, hos, hcs, hds⟩ := id hs
  have hTs : s.TypeIs (.ref sl) "slice" := ⟨os, hos, hcs⟩
  unfold getItem
  try with_reducible refine wpAny_holding ?_
  first | refine wpAny_bind (wpAny_pure ?_) | skip
  refine wpAny_bind (wpAny_sequenceKey ht.typeIs (by decide) ?_)
  refine wpAny_bind (wpAny_callSpecial?_slot (name := Str.ofString "__getitem__") ht.typeIs PyProof.Rows.slot_tuple_getitem
    (wpAny_call_entry PyProof.Rows.slot_tuple_getitem ht.typeIs entry_tuple_getitem ?_ (args_tuple_getitem _ _)))
  show wpAny _ _ (Builtin.Tuple.tupleItemsOf (.ref t) >>= _) _ _ s
  refine wpAny_bind (tupleItemsOf_ ht ?_)
  refine wpAny_bind (wpAny_typeOf hTs ?_)
  rw [if_pos (by decide)]
  refine wpAny_bind (HT.sliceApplied_gen hs pl pu ?_)
  show wpAny _ _ (if (((HT.sIx items.size 0 lo : Nat) : Int) == 0 && (1 : Int) == 1 && (HT.sIx items.size items.size hi - HT.sIx items.size 0 lo) == items.size) = true then _ else _) _ _ s
  rw [if_pos (by rw [hw.1, hw.2]; simp)]
  unfold Builtin.Tuple.tupleIsExact
  refine wpAny_bind (wpAny_bind (wpAny_typeOf ht.typeIs (wpAny_pure ?_)))
  rw [if_pos (by decide)]
  exact wpAny_bind (wpAny_rule (wpAny_pure ⟨_, rfl, wpAny_pure h⟩))
/-- the slice [::-1], applied -/
theorem sliceApplied_rev {sl : Addr} {u : Tok} {n : Nat} {Q : Int × Int × Nat → Shared → Prop} (hs : s.heap.IsSliceOf sl .none .none (.int (-1) u))
    (h : Q ((n : Int) - 1, -1, n) s) : wpAny (model prog w) A (Builtin.Slice.sliceApplied (.ref sl) (pure (n : Int))) Q E s := by
  obtain ⟨os, hos, hcs, hds⟩ := id hs
  unfold Builtin.Slice.sliceApplied Builtin.Slice.sliceFields
  refine wpAny_bind (wpAny_bind (wpAny_field hos hds (x := .none) rfl (wpAny_bind (wpAny_field hos hds (x := .none) rfl (wpAny_bind (wpAny_field hos hds (x := .int (-1) u) rfl (wpAny_pure ?_)))))))
  refine wpAny_bind (slicePart_int ?_)
  show wpAny _ _ (if ((-1 : Int) == 0) = true then _ else _) _ _ s
  rw [if_neg (by decide)]
  refine wpAny_bind (slicePart_none (wpAny_bind (slicePart_none (wpAny_bind (wpAny_pure ?_)))))
  show wpAny _ _ (match Builtin.Slice.sliceAdjust none none (-1) (n : Int) with | (lo, hi) => pure (lo, (-1 : Int), Builtin.Slice.slicePlaces lo hi (-1))) _ _ s
  have e : Builtin.Slice.sliceAdjust none none (-1) (n : Int) = ((n : Int) - 1, -1) := by
    unfold Builtin.Slice.sliceAdjust
    have h1 : ((-1 : Int) < 0) := by decide
    simp only [h1, if_true]
  rw [e]
  have e2 : Builtin.Slice.slicePlaces ((n : Int) - 1) (-1) (-1) = n := by
    unfold Builtin.Slice.slicePlaces
    have h1 : ¬ ((-1 : Int) > 0) := by decide
    simp only [h1, if_false]
    by_cases h0 : n = 0
    · subst h0; rfl
    · rw [if_pos (by omega)]
      have : (- (-1) : Int) = 1 := rfl
      rw [this, Int.ediv_one]
      omega
  show wpAny _ _ (pure ((n : Int) - 1, (-1 : Int), Builtin.Slice.slicePlaces ((n : Int) - 1) (-1) (-1))) _ _ s
  rw [e2]
  exact wpAny_pure h
/-- t[::-1] -/
def revIx (n : Nat) (k : Nat) : Nat := ((n : Int) - 1 + (k : Int) * (-1)).toNat
theorem getItem_tuple_rev {t sl : Addr} {items : Array Value} {u : Tok} {Q : Value → Shared → Prop} (ht : IsTup s.heap t items) (hs : s.heap.IsSliceOf sl .none .none (.int (-1) u)) (hz : items.size ≤ sizeLine)
    (h : Q (.ref s.heap.objs.size) { s with heap := s.heap.push { cls := .type "tuple", data := .seq ((List.range items.size).filterMap fun k => items[revIx items.size k]?).toArray } }) : wpAny (model prog w) A (getItem (.ref t) (.ref sl)) Q E s := by
  obtain ⟨os, hos, hcs, hds⟩ := id hs
  have hTs : s.TypeIs (.ref sl) "slice" := ⟨os, hos, hcs⟩
  have htake : sizeOk (.seq ((List.range items.size).filterMap fun k => items[revIx items.size k]?).toArray) := by
    show ((List.range items.size).filterMap fun k => items[revIx items.size k]?).toArray.size ≤ sizeLine
    rw [List.size_toArray]
    refine Nat.le_trans (List.length_filterMap_le _ _) ?_
    rw [List.length_range]
    exact hz
  unfold getItem
  try with_reducible refine wpAny_holding ?_
  first | refine wpAny_bind (wpAny_pure ?_) | skip
  refine wpAny_bind (wpAny_sequenceKey ht.typeIs (by decide) ?_)
  refine wpAny_bind (wpAny_callSpecial?_slot (name := Str.ofString "__getitem__") ht.typeIs PyProof.Rows.slot_tuple_getitem
    (wpAny_call_entry PyProof.Rows.slot_tuple_getitem ht.typeIs entry_tuple_getitem ?_ (args_tuple_getitem _ _)))
  show wpAny _ _ (Builtin.Tuple.tupleItemsOf (.ref t) >>= _) _ _ s
  refine wpAny_bind (tupleItemsOf_ ht ?_)
  refine wpAny_bind (wpAny_typeOf hTs ?_)
  rw [if_pos (by decide)]
  refine wpAny_bind (sliceApplied_rev hs ?_)
  show wpAny _ _ (if (((items.size : Int) - 1) == 0 && (-1 : Int) == 1 && items.size == items.size) = true then _ else _) _ _ s
  rw [if_neg (by rw [show ((-1 : Int) == 1) = false from rfl, Bool.and_false, Bool.false_and]; decide)]
  first
    | exact wpAny_bind (m := Builtin.Tuple.tupleExact _) (wpAny_newObj_type (wpAny_pure ⟨_, rfl, wpAny_pure h⟩) htake)
    | exact wpAny_bind (m := Builtin.Tuple.tupleExact _) (wpAny_newObj_type (wpAny_bind (wpAny_pure (wpAny_pure ⟨_, rfl, wpAny_pure h⟩))) htake)
    | exact wpAny_bind (wpAny_bind (m := Builtin.Tuple.tupleExact _) (wpAny_newObj_type (wpAny_pure (wpAny_pure ⟨_, rfl, wpAny_pure h⟩)) htake))
    | exact wpAny_bind (wpAny_bind (m := Builtin.Tuple.tupleExact _) (wpAny_newObj_type (wpAny_pure ⟨_, rfl, wpAny_pure h⟩) htake))
end
section
variable {X : Cx}
/-- t[lo:hi], be it the whole (t itself) or not -/
def rSlA (K : PySem.W.Frag) : V → Option Int → Option Int → Hp → VK → Prop := fun x lo hi H Q => ∃ a xs, x = .ref a ∧ SqT K H a xs ∧ HT.sIx xs.length 0 lo = 0 ∧ HT.sIx xs.length xs.length hi = xs.length ∧ Q x H
theorem sl_all : SlR X (rSlA X.K) := by
  intro pins s σ H x v vl vu lo hi sl Q I rx hs pl pu h
  obtain ⟨a, xs, rfl, hx, h1, h2, q⟩ := h
  cases rx
  obtain ⟨its, r, ht, hz⟩ := I.tuple hx
  have hlen : its.toArray.size = xs.length := by rw [List.size_toArray]; exact r.length.symm
  refine ⟨"tuple", _, PyProof.Rows.slot_tuple_getitem.lookup, ht.typeIs, ?_⟩
  exact getItem_tuple_all ht hs pl pu (by rw [hlen]; exact ⟨h1, h2⟩) ⟨.ref a, H, I, rfl, q⟩
/-- () + u -/
def rCat0 (K : PySem.W.Frag) : R2 := fun x y H Q => ∃ a b ys, x = .ref a ∧ y = .ref b ∧ SqT K H a [] ∧ SqT K H b ys ∧ Q (.ref b) H
theorem op_cat0 : OpR X (binaryOp .Add) (rCat0 X.K) := by
  intro pins s σ H x y v u Q I rx ry h
  obtain ⟨a, b, ys, rfl, rfl, ha, hb, q⟩ := h
  cases rx
  cases ry
  obtain ⟨its, r1, p1, _⟩ := I.tuple ha
  obtain ⟨its2, r2, p2, _⟩ := I.tuple hb
  have e0 : its = [] := r1.nil_iff.mpr rfl
  subst e0
  obtain ⟨⟨cls, dd, data, sl⟩, ho, hc, n, hd⟩ := id p1
  obtain ⟨⟨cls2, dd2, data2, sl2⟩, ho2, hc2, n2, hd2⟩ := id p2
  simp only at hc hd hc2 hd2
  subst hc hd hc2 hd2
  exact concat_meets ⟨_, ho, rfl⟩ ⟨_, ho2, rfl⟩ noFill_tuple_add seq_tuple_add PySem.F.slot_tuple_add PySem.F.entry_tuple_add (PySem.F.args_tuple_add_2 _ _)
      (tuple_addW0 a b #[] its2.toArray n n2 dd dd2 sl sl2 rfl) ⟨ho, ho2, ⟨.ref b, H, I, rfl, q⟩⟩
theorem Vals.pick {xs : List V} {us : List Value} (r : Vals xs us) (f : Nat → Nat) : ∀ ks : List Nat, Vals (ks.filterMap fun k => xs[f k]?) (ks.filterMap fun k => us[f k]?)
  | [] => .nil
  | k :: ks => by
    have ih := Vals.pick r f ks
    rw [List.filterMap_cons, List.filterMap_cons]
    cases e : xs[f k]? with
    | none => rw [r.none_of e]; exact ih
    | some x =>
      obtain ⟨u, hu, ru⟩ := r.get e
      rw [hu]
      exact .cons ru ih
end
end St
end
section
set_option Elab.async false
set_option linter.all false
set_option maxRecDepth 100000
set_option maxHeartbeats 4000000
namespace Mi
open PySem PySem.Spec L2

/-! ### data, and how it lies in the heap -/
/-- data that nobody changes any more -/
inductive D where
  | non | bl (b : Bool) | int (i : Int) | str (x : Str) | ty (n : String) | tup (ds : List D) | lst (ds : List D) | dct (kvs : List (Key × D)) | scr (ns : List Int)
/-- data, or a list of one's own -/
inductive Wv where
  | val (d : D) | own (ds : List D)
abbrev Ms := Addr → Prop
def Ms.or (M N : Ms) : Ms := fun a => M a ∨ N a

/-- a list of the text's own top -/
def KL (K : PySem.W.Frag) (a : Addr) (xs : List V) : Prop := ∃ (o : Obj) (its : Array Value) (n : Nat), K.lookup a = some o ∧ o.cls = .type "list" ∧ o.dict = none ∧ o.data = .seq its n ∧ its.size ≤ sizeLine ∧ Vals xs its.toList
mutual
inductive RelD (K : PySem.W.Frag) (M : Ms) (H : Hp) : V → D → Prop
  | non : RelD K M H .non .non
  | bl (b : Bool) : RelD K M H (.bl b) (.bl b)
  | int (i : Int) : RelD K M H (.int i) (.int i)
  | str (x : Str) : RelD K M H (.str x) (.str x)
  | ty (n : String) : RelD K M H (.ty n) (.ty n)
  | tup {a : Addr} {xs : List V} {ds : List D} (h : SqT K H a xs) (r : RelDs K M H xs ds) : RelD K M H (.ref a) (.tup ds)
  | lst {a : Addr} {xs : List V} {ds : List D} (h : H a = some (.lst xs)) (n : ¬ M a) (r : RelDs K M H xs ds) : RelD K M H (.ref a) (.lst ds)
  | scr {a : Addr} {ns : List Int} (h : (Rd H a (.lst (ns.map V.int)) ∧ ¬ M a) ∨ KL K a (ns.map V.int)) : RelD K M H (.ref a) (.scr ns)
  | dct {a : Addr} {kvs : List (Key × V)} {es : List (Key × D)} (h : H a = some (.dK kvs)) (r : RelKs K M H kvs es) : RelD K M H (.ref a) (.dct es)
inductive RelDs (K : PySem.W.Frag) (M : Ms) (H : Hp) : List V → List D → Prop
  | nil : RelDs K M H [] []
  | cons {v : V} {d : D} {vs : List V} {ds : List D} (h : RelD K M H v d) (t : RelDs K M H vs ds) : RelDs K M H (v :: vs) (d :: ds)
inductive RelKs (K : PySem.W.Frag) (M : Ms) (H : Hp) : List (Key × V) → List (Key × D) → Prop
  | nil : RelKs K M H [] []
  | cons {k : Key} {v : V} {d : D} {vs : List (Key × V)} {ds : List (Key × D)} (h : RelD K M H v d) (t : RelKs K M H vs ds) : RelKs K M H ((k, v) :: vs) ((k, d) :: ds)
end

/-- what is marked as changing is a list -/
def MOk (M : Ms) (H : Hp) : Prop := ∀ a, M a → ∃ xs, H a = some (.lst xs)
/-- from one heap to a later one: only what is in O was changed -/
structure Ext (O : Ms) (H H' : Hp) : Prop where
  keep : ∀ a o, H a = some o → ¬ O a → H' a = some o
  some : ∀ a, H a ≠ none → H' a ≠ none

section
variable {K : PySem.W.Frag} {M M' O O' : Ms} {H H' H2 : Hp}
theorem Ext.refl : Ext O H H := ⟨fun _ _ e _ => e, fun _ e => e⟩
theorem Ext.trans (h : Ext O H H') (g : Ext O' H' H2) (s : ∀ a, O' a → O a ∨ H a = none) : Ext O H H2 :=
  ⟨fun a o e n => g.keep a o (h.keep a o e n) fun z => (s a z).elim n fun z => by (rw [e] at z; cases z), fun a e => g.some a (h.some a e)⟩
theorem Ext.weak (h : Ext O H H') (s : ∀ a, O a → O' a) : Ext O' H H' := ⟨fun a o e n => h.keep a o e fun z => n (s a z), h.some⟩
theorem Ext.new {a : Addr} {o : HO} (e : H a = none) : Ext O H (upd H a o) :=
  ⟨fun b u eb _ => by rw [upd_ne (fun z => by subst z; rw [e] at eb; cases eb)]; exact eb, fun b eb => by rw [upd_ne (fun z => eb (by rw [z]; exact e))]; exact eb⟩

theorem sqT_keep {a : Addr} {xs : List V} (h : SqT K H a xs) (k : ∀ b o, H b = some o → (∀ ys, o ≠ .lst ys) → H' b = some o) : SqT K H' a xs := by
  rcases h with h | h
  · rcases h with h | ⟨o, h⟩
    · exact .inl (.inl (k _ _ h fun ys z => by cases z))
    · exact .inl (.inr ⟨o, k _ _ h fun ys z => by cases z⟩)
  · exact .inr h

mutual
theorem RelD.step (mo : MOk M H) (g : ∀ a, M' a → M a ∨ H a = none) (k : ∀ a o, H a = some o → ¬ M a → H' a = some o) : ∀ {v : V} {d : D}, RelD K M H v d → RelD K M' H' v d
  | _, _, .non => .non
  | _, _, .bl b => .bl b
  | _, _, .int b => .int b
  | _, _, .str b => .str b
  | _, _, .ty b => .ty b
  | _, _, .tup h r => .tup (sqT_keep h fun b o e n => k b o e fun z => (mo b z).elim fun ys q => n ys (Option.some.inj (e.symm.trans q))) (RelDs.step mo g k r)
  | _, _, .lst (a := a) (xs := xs) h n r => by
    refine .lst (k _ _ h n) (fun z => ?_) (RelDs.step mo g k r)
    rcases g _ z with z | z
    · exact n z
    · rw [z] at h; cases h
  | _, _, .scr (a := a) (ns := ns) h => by
    rcases h with ⟨h, n⟩ | h
    · have hh : Rd H' a (.lst (ns.map V.int)) := by
        rcases h with h | ⟨o, h⟩
        · exact .inl (k _ _ h n)
        · exact .inr ⟨o, k _ _ h n⟩
      refine .scr (.inl ⟨hh, fun z => ?_⟩)
      rcases g _ z with z | z
      · exact n z
      · rcases h with h | ⟨o, h⟩ <;> (rw [z] at h; cases h)
    · exact .scr (.inr h)
  | _, _, .dct (a := a) h r => .dct (k _ _ h fun z => (mo _ z).elim fun ys q => by rw [h] at q; cases q) (RelKs.step mo g k r)
theorem RelDs.step (mo : MOk M H) (g : ∀ a, M' a → M a ∨ H a = none) (k : ∀ a o, H a = some o → ¬ M a → H' a = some o) : ∀ {v : List V} {d : List D}, RelDs K M H v d → RelDs K M' H' v d
  | _, _, .nil => .nil
  | _, _, .cons h t => .cons (RelD.step mo g k h) (RelDs.step mo g k t)
theorem RelKs.step (mo : MOk M H) (g : ∀ a, M' a → M a ∨ H a = none) (k : ∀ a o, H a = some o → ¬ M a → H' a = some o) : ∀ {v : List (Key × V)} {d : List (Key × D)}, RelKs K M H v d → RelKs K M' H' v d
  | _, _, .nil => .nil
  | _, _, .cons h t => .cons (RelD.step mo g k h) (RelKs.step mo g k t)
end
theorem RelDs.length : ∀ {v : List V} {d : List D}, RelDs K M H v d → v.length = d.length
  | _, _, .nil => rfl
  | _, _, .cons _ t => by simp [RelDs.length t]
theorem RelDs.get : ∀ {v : List V} {d : List D} {i : Nat} {y : D}, RelDs K M H v d → d[i]? = some y → ∃ x, v[i]? = some x ∧ RelD K M H x y
  | _, _, i, y, .nil, e => by simp at e
  | _, _, 0, y, .cons h t, e => by simp at e; subst e; exact ⟨_, rfl, h⟩
  | _, _, i + 1, y, .cons h t, e => by
    obtain ⟨x, h1, h2⟩ := RelDs.get (i := i) t (by simpa using e)
    exact ⟨x, by simpa using h1, h2⟩
theorem RelDs.append : ∀ {v v' : List V} {d d' : List D}, RelDs K M H v d → RelDs K M H v' d' → RelDs K M H (v ++ v') (d ++ d')
  | _, _, _, _, .nil, s => s
  | _, _, _, _, .cons h t, s => .cons h (RelDs.append t s)
theorem RelDs.take : ∀ {v : List V} {d : List D} (n : Nat), RelDs K M H v d → RelDs K M H (v.take n) (d.take n)
  | _, _, 0, _ => .nil
  | _, _, _ + 1, .nil => .nil
  | _, _, n + 1, .cons h t => .cons h (RelDs.take n t)
theorem RelDs.drop : ∀ {v : List V} {d : List D} (n : Nat), RelDs K M H v d → RelDs K M H (v.drop n) (d.drop n)
  | _, _, 0, r => r
  | _, _, _ + 1, .nil => .nil
  | _, _, n + 1, .cons _ t => RelDs.drop n t
theorem RelDs.set {x : V} {y : D} (r : RelD K M H x y) : ∀ {v : List V} {d : List D} (i : Nat), RelDs K M H v d → RelDs K M H (v.set i x) (d.set i y)
  | _, _, _, .nil => .nil
  | _, _, 0, .cons _ t => .cons r t
  | _, _, i + 1, .cons q t => .cons q (RelDs.set r i t)
theorem RelDs.reverse : ∀ {v : List V} {d : List D}, RelDs K M H v d → RelDs K M H v.reverse d.reverse
  | _, _, .nil => .nil
  | _, _, .cons h t => by rw [List.reverse_cons, List.reverse_cons]; exact RelDs.append (RelDs.reverse t) (.cons h .nil)
end

/-! ### the names of a frame -/
abbrev En := List (Option Wv)
def Own (E : En) (σ : List (Option V)) : Ms := fun a => ∃ (i : Nat) (ds : List D), E[i]? = some (some (.own ds)) ∧ σ[i]? = some (some (.ref a))
def tmp (v : V) : Wv → Ms
  | .val _ => fun _ => False
  | .own _ => fun a => v = .ref a
structure EnvR (K : PySem.W.Frag) (F : Ms) (E : En) (σ : List (Option V)) (H : Hp) : Prop where
  len : E.length = σ.length
  val : ∀ (i : Nat) (d : D), E[i]? = some (some (.val d)) → ∃ v, σ[i]? = some (some v) ∧ RelD K (F.or (Own E σ)) H v d
  own : ∀ (i : Nat) (ds : List D), E[i]? = some (some (.own ds)) → ∃ a xs, σ[i]? = some (some (.ref a)) ∧ H a = some (.lst xs) ∧ RelDs K (F.or (Own E σ)) H xs ds ∧ ¬ F a
  inj : ∀ (i j : Nat) (ds es : List D) (a : Addr), E[i]? = some (some (.own ds)) → E[j]? = some (some (.own es)) → σ[i]? = some (some (.ref a)) → σ[j]? = some (some (.ref a)) → i = j
  mo : MOk F H
section
variable {K : PySem.W.Frag} {F F' : Ms} {E E' : En} {σ σ' : List (Option V)} {H H' : Hp}
theorem EnvR.moO (h : EnvR K F E σ H) : MOk (F.or (Own E σ)) H := fun a z => by
  rcases z with z | ⟨i, ds, e1, e2⟩
  · exact h.mo a z
  · obtain ⟨b, xs, h1, h2, _⟩ := h.own i ds e1
    rw [e2] at h1
    cases h1
    exact ⟨xs, h2⟩
theorem EnvR.nfo (h : EnvR K F E σ H) {a : Addr} (z : Own E σ a) : ¬ F a := by
  obtain ⟨i, ds, e1, e2⟩ := z
  obtain ⟨b, xs, h1, _, _, h4⟩ := h.own i ds e1
  rw [e2] at h1
  cases h1
  exact h4
/-- the same names at a later heap, other things foreign -/
theorem EnvR.step (h : EnvR K F E σ H) (g : ∀ a, F' a → F a ∨ H a = none) (k : ∀ a o, H a = some o → ¬ F a → H' a = some o) (mo : MOk F' H') : EnvR K F' E σ H' := by
  have g' : ∀ a, (F'.or (Own E σ)) a → (F.or (Own E σ)) a ∨ H a = none := fun a z => z.elim (fun z => (g a z).elim (fun z => .inl (.inl z)) .inr) fun z => .inl (.inr z)
  have k' : ∀ a o, H a = some o → ¬ (F.or (Own E σ)) a → H' a = some o := fun a o e n => k a o e fun z => n (.inl z)
  refine ⟨h.len, fun i d e => ?_, fun i ds e => ?_, h.inj, mo⟩
  · obtain ⟨v, h1, h2⟩ := h.val i d e
    exact ⟨v, h1, h2.step h.moO g' k'⟩
  · obtain ⟨a, xs, h1, h2, h3, h4⟩ := h.own i ds e
    refine ⟨a, xs, h1, k _ _ h2 h4, h3.step h.moO g' k', fun z => ?_⟩
    rcases g a z with z | z
    · exact h4 z
    · rw [z] at h2; cases h2
theorem EnvR.weak (h : EnvR K F E σ H) (g : ∀ a, F' a → F a) : EnvR K F' E σ H := h.step (fun a z => .inl (g a z)) (fun _ _ e _ => e) fun a z => h.mo a (g a z)
end
end Mi
end
section
set_option Elab.async false
set_option linter.all false
set_option maxRecDepth 100000
set_option maxHeartbeats 4000000
namespace Mi
open PySem PySem.Spec L2
abbrev Sg := List (Option V)
abbrev Ev := En → Option (Wv × En)

/-- what an expression hands back -/
def RelW (K : PySem.W.Frag) (M : Ms) (H H' : Hp) (v : V) : Wv → Prop
  | .val d => RelD K M H' v d
  | .own ds => ∃ a xs, v = .ref a ∧ H a = none ∧ H' a = some (.lst xs) ∧ RelDs K M H' xs ds
/-- the name holds a list -/
def isL (E : En) (i : Nat) : Prop := ∃ ds, E[i]? = some (some (.own ds)) ∨ E[i]? = some (some (.val (.lst ds)))
def Lk (E E' : En) : Prop := ∀ i, isL E i → isL E' i
theorem Lk.refl {E : En} : Lk E E := fun _ h => h
theorem Lk.trans {E E1 E2 : En} (h : Lk E E1) (g : Lk E1 E2) : Lk E E2 := fun i z => g i (h i z)
structure Post (K : PySem.W.Frag) (F : Ms) (E : En) (σ : Sg) (H : Hp) (w : Wv) (E' : En) (v : V) (H' : Hp) : Prop where
  env : EnvR K (F.or (tmp v w)) E' σ H'
  ext : Ext (Own E σ) H H'
  sub : ∀ a, Own E' σ a → Own E σ a
  rel : RelW K ((F.or (tmp v w)).or (Own E' σ)) H H' v w
  lk : Lk E E'
def tD (K : PySem.W.Frag) (f : Ev) : TE := fun σ H Q => ∃ F E w E', f E = some (w, E') ∧ EnvR K F E σ H ∧ ∀ v H', Post K F E σ H w E' v H' → Q v H'
structure DE (X : Cx) (e : Expr) (f : Ev) : Prop where
  pe : PE X e (tD X.K f)
theorem pe_mono {X : Cx} {e : Expr} {t t' : TE} (h : PE X e t) (m : ∀ σ H Q, t' σ H Q → t σ H Q) : PE X e t' := fun pins s σ H Q I q => h pins s σ H Q I (m _ _ _ q)
theorem pt_mono {X : Cx} {e : Expr} {t t' : TT} (h : PT X e t) (m : ∀ σ H Q, t' σ H Q → t σ H Q) : PT X e t' := fun pins s σ H Q I q => h pins s σ H Q I (m _ _ _ q)

/-! ### operands: a name that is looked at, or an expression whose end is data -/
def fz : Wv → D
  | .val d => d
  | .own ds => .lst ds
inductive Opd where
  | pk (i : Nat)
  | ex (f : Ev)
def at? (E : En) (i : Nat) : Option Wv := (E[i]?).join
theorem at?_some {E : En} {i : Nat} {w : Wv} (h : at? E i = some w) : E[i]? = some (some w) := by
  unfold at? at h
  cases e : E[i]? with
  | none => rw [e] at h; cases h
  | some q => rw [e] at h; exact congrArg some h
def Opd.ev : Opd → Ev
  | .pk i, E => (at? E i).map fun w => (w, E)
  | .ex f, E => (f E).map fun r => (.val (fz r.1), r.2)
def Opd.re : Opd → Wv → En → Option Wv
  | .pk i, _, E => at? E i
  | .ex _, w, _ => some w
def evs : List Opd → En → Option (List Wv × En)
  | [], E => some ([], E)
  | o :: os, E => (o.ev E).bind fun r => (evs os r.2).bind fun q => (o.re r.1 q.2).map fun w => (w :: q.1, q.2)
def tO (K : PySem.W.Frag) : Opd → TE
  | .pk i => tVar i
  | .ex f => tD K f
def tOs (K : PySem.W.Frag) : List Opd → TA
  | [] => tNil
  | o :: os => tCons (tO K o) (tOs K os)
structure DO (X : Cx) (e : Expr) (o : Opd) : Prop where
  pe : PE X e (tO X.K o)
structure DOs (X : Cx) (es : List Expr) (os : List Opd) : Prop where
  pe : PA X es (tOs X.K os)
theorem DE.opd {X : Cx} {e : Expr} {f : Ev} (h : DE X e f) : DO X e (.ex f) := ⟨h.pe⟩
theorem dos_nil {X : Cx} : DOs X [] [] := ⟨pa_nil⟩
theorem dos_cons {X : Cx} {e : Expr} {es : List Expr} {o : Opd} {os : List Opd} (h : DO X e o) (t : DOs X es os) (hs : starEach (e :: es) X.env = (false, eval e X.env) :: starEach es X.env := by rfl) : DOs X (e :: es) (o :: os) := ⟨pa_cons h.pe t.pe hs⟩

inductive ArgR (K : PySem.W.Frag) (F : Ms) (E : En) (σ : Sg) (H : Hp) : List Opd → List Wv → List V → Prop
  | nil : ArgR K F E σ H [] [] []
  | pk {i : Nat} {w : Wv} {v : V} {os : List Opd} {ws : List Wv} {vs : List V} (h1 : E[i]? = some (some w)) (h2 : σ[i]? = some (some v)) (t : ArgR K F E σ H os ws vs) : ArgR K F E σ H (.pk i :: os) (w :: ws) (v :: vs)
  | ex {f : Ev} {d : D} {v : V} {os : List Opd} {ws : List Wv} {vs : List V} (h : RelD K (F.or (Own E σ)) H v d) (t : ArgR K F E σ H os ws vs) : ArgR K F E σ H (.ex f :: os) (.val d :: ws) (v :: vs)
structure APost (K : PySem.W.Frag) (F : Ms) (E : En) (σ : Sg) (H : Hp) (os : List Opd) (ws : List Wv) (E' : En) (vs : List V) (H' : Hp) : Prop where
  env : EnvR K F E' σ H'
  ext : Ext (Own E σ) H H'
  sub : ∀ a, Own E' σ a → Own E σ a
  args : ArgR K F E' σ H' os ws vs
  lk : Lk E E'

section
variable {K : PySem.W.Frag} {F : Ms} {E E' E2 : En} {σ : Sg} {H H' H2 : Hp}
theorem EnvR.hasv (h : EnvR K F E σ H) {i : Nat} {w : Wv} (e : E[i]? = some (some w)) : ∃ v, σ[i]? = some (some v) := by
  cases w with
  | val d => obtain ⟨v, h1, _⟩ := h.val i d e; exact ⟨v, h1⟩
  | own ds => obtain ⟨a, xs, h1, _⟩ := h.own i ds e; exact ⟨_, h1⟩
/-- frozen -/
theorem Post.fz {w : Wv} {v : V} (p : Post K F E σ H w E' v H') (e : EnvR K F E σ H) : EnvR K F E' σ H' ∧ RelD K (F.or (Own E' σ)) H' v (fz w) := by
  refine ⟨p.env.weak fun a z => .inl z, ?_⟩
  cases w with
  | val d =>
    have r : RelD K _ H' v d := p.rel
    exact r.step p.env.moO (fun a z => .inl (z.elim (fun z => .inl (.inl z)) .inr)) (fun _ _ e _ => e)
  | own ds =>
    obtain ⟨a, xs, rfl, h1, h2, h3⟩ := p.rel
    refine .lst h2 (fun z => ?_) (h3.step p.env.moO (fun a z => .inl (z.elim (fun z => .inl (.inl z)) .inr)) (fun _ _ e _ => e))
    rcases z with z | z
    · obtain ⟨ys, q⟩ := e.mo a z
      rw [h1] at q; cases q
    · obtain ⟨ys, q⟩ := e.moO a (.inr (p.sub a z))
      rw [h1] at q; cases q
theorem evs_ok : ∀ {os : List Opd} {E : En} {ws : List Wv} {E' : En} {H : Hp} {Q : List V → Hp → Prop}, evs os E = some (ws, E') → EnvR K F E σ H → (∀ vs H', APost K F E σ H os ws E' vs H' → Q vs H') → tOs K os σ H Q
  | [], E, ws, E', H, Q, e, r, q => by
    simp only [evs, Option.some.injEq, Prod.mk.injEq] at e
    obtain ⟨rfl, rfl⟩ := e
    exact q [] H ⟨r, .refl, fun _ z => z, .nil, .refl⟩
  | .pk i :: os, E, ws, E', H, Q, e, r, q => by
    simp only [evs, Opd.ev, Opd.re] at e
    cases e1 : at? E i with
    | none => rw [e1] at e; cases e
    | some w =>
      rw [e1] at e
      simp only [Option.map_some, Option.bind_some] at e
      cases e2 : evs os E with
      | none => rw [e2] at e; cases e
      | some p =>
        obtain ⟨ws2, E2⟩ := p
        rw [e2] at e
        simp only [Option.bind_some] at e
        cases e3 : at? E2 i with
        | none => rw [e3] at e; cases e
        | some w2 =>
          rw [e3] at e
          simp only [Option.map_some, Option.some.injEq, Prod.mk.injEq] at e
          obtain ⟨rfl, rfl⟩ := e
          obtain ⟨v, hv⟩ := r.hasv (at?_some e1)
          refine ⟨v, hv, evs_ok e2 r fun vs H' p => ?_⟩
          exact q _ _ ⟨p.env, p.ext, p.sub, .pk (at?_some e3) hv p.args, p.lk⟩
  | .ex f :: os, E, ws, E', H, Q, e, r, q => by
    simp only [evs, Opd.ev, Opd.re] at e
    cases e1 : f E with
    | none => rw [e1] at e; cases e
    | some p1 =>
      obtain ⟨w, E1⟩ := p1
      rw [e1] at e
      simp only [Option.map_some, Option.bind_some] at e
      cases e2 : evs os E1 with
      | none => rw [e2] at e; cases e
      | some p =>
        obtain ⟨ws2, E2⟩ := p
        rw [e2] at e
        simp only [Option.bind_some, Option.map_some, Option.some.injEq, Prod.mk.injEq] at e
        obtain ⟨rfl, rfl⟩ := e
        refine ⟨F, E, w, E1, e1, r, fun v H1 p1 => ?_⟩
        obtain ⟨r1, d1⟩ := p1.fz r
        refine evs_ok e2 r1 fun vs H' p => ?_
        refine q _ _ ⟨p.env, p1.ext.trans p.ext fun a z => .inl (p1.sub a z), fun a z => p1.sub a (p.sub a z), .ex ?_ p.args, p1.lk.trans p.lk⟩
        refine d1.step r1.moO (fun a z => .inl (z.elim .inl fun z => .inr (p.sub a z))) fun a o eo n => p.ext.keep a o eo fun z => n (.inr z)

/-! ### a value, one step deep -/
def Sh (K : PySem.W.Frag) (M : Ms) (H : Hp) (v : V) : Wv → Prop
  | .val d => RelD K M H v d
  | .own ds => ∃ a xs, v = .ref a ∧ H a = some (.lst xs) ∧ RelDs K M H xs ds
inductive Shs (K : PySem.W.Frag) (M : Ms) (H : Hp) : List V → List Wv → Prop
  | nil : Shs K M H [] []
  | cons {v : V} {w : Wv} {vs : List V} {ws : List Wv} (h : Sh K M H v w) (t : Shs K M H vs ws) : Shs K M H (v :: vs) (w :: ws)
theorem ArgR.sh (r : EnvR K F E σ H) : ∀ {os : List Opd} {ws : List Wv} {vs : List V}, ArgR K F E σ H os ws vs → Shs K (F.or (Own E σ)) H vs ws
  | _, _, _, .nil => .nil
  | _, _, _, .pk (w := w) h1 h2 t => by
    refine .cons ?_ (ArgR.sh r t)
    cases w with
    | val d =>
      obtain ⟨v', q1, q2⟩ := r.val _ d h1
      rw [h2] at q1; cases q1
      exact q2
    | own ds =>
      obtain ⟨a, xs, q1, q2, q3, _⟩ := r.own _ ds h1
      rw [h2] at q1; cases q1
      exact ⟨a, xs, rfl, q2, q3⟩
  | _, _, _, .ex h t => .cons h (ArgR.sh r t)
/-- what a plain operation hands back: nothing that was there is changed -/
structure Nw (K : PySem.W.Frag) (M : Ms) (H H' : Hp) (v : V) (w : Wv) : Prop where
  grow : ∀ a o, H a = some o → H' a = some o
  rel : RelW K (M.or (tmp v w)) H H' v w
theorem or_val {M : Ms} {v : V} {d : D} (mo : MOk M H) (h : RelD K M H v d) : RelD K (M.or (tmp v (.val d))) H v d := h.step mo (fun a z => .inl (z.elim id False.elim)) fun _ _ e _ => e
theorem Nw.same {M : Ms} {v : V} {d : D} (mo : MOk M H) (h : RelD K M H v d) : Nw K M H H v (.val d) := ⟨fun _ _ e => e, or_val mo h⟩
/-- a new list of things that were there -/
theorem Nw.lst {M : Ms} {a : Addr} {xs : List V} {ds : List D} (mo : MOk M H) (e : H a = none) (h : RelDs K M H xs ds) : Nw K M H (upd H a (.lst xs)) (.ref a) (.own ds) := by
  have k : ∀ b o, H b = some o → upd H a (.lst xs) b = some o := fun b o eb => by rw [upd_ne (fun z => by subst z; rw [e] at eb; cases eb)]; exact eb
  refine ⟨k, a, xs, rfl, e, upd_same, h.step mo (fun b z => z.elim .inl fun z => .inr ?_) fun b o eb _ => k b o eb⟩
  have z' : V.ref a = .ref b := z
  cases z'; exact e
/-- a new tuple of things that were there -/
theorem Nw.tup {M : Ms} {a : Addr} {xs : List V} {ds : List D} (mo : MOk M H) (e : H a = none) (h : RelDs K M H xs ds) : Nw K M H (upd H a (.tup xs)) (.ref a) (.val (.tup ds)) := by
  have k : ∀ b o, H b = some o → upd H a (.tup xs) b = some o := fun b o eb => by rw [upd_ne (fun z => by subst z; rw [e] at eb; cases eb)]; exact eb
  exact ⟨k, .tup (.of upd_same) (h.step mo (fun b z => .inl (z.elim id False.elim)) fun b o eb _ => k b o eb)⟩
theorem Nw.post {os : List Opd} {ws : List Wv} {vs : List V} {v : V} {w : Wv} (r : EnvR K F E σ H) (p : APost K F E σ H os ws E' vs H') (n : Nw K (F.or (Own E' σ)) H' H2 v w) : Post K F E σ H w E' v H2 := by
  have ex : Ext (Own E σ) H H2 := p.ext.trans (O' := fun _ => False) ⟨fun a o e _ => n.grow a o e, fun a e z => by
    cases h : H' a with
    | none => exact e h
    | some o => rw [n.grow a o h] at z; cases z⟩ fun _ z => z.elim
  have tn : ∀ a, tmp v w a → H' a = none ∧ ∃ xs, H2 a = some (.lst xs) := fun a z => by
    cases w with
    | val d => exact z.elim
    | own ds =>
      obtain ⟨b, xs, e, h1, h2, _⟩ := n.rel
      have z' : v = .ref a := z
      rw [e] at z'; cases z'
      exact ⟨h1, xs, h2⟩
  refine ⟨p.env.step (fun a z => z.elim .inl fun z => .inr (tn a z).1) (fun a o e _ => n.grow a o e) (fun a z => ?_), ex, p.sub, ?_, p.lk⟩
  · rcases z with z | z
    · obtain ⟨xs, h⟩ := p.env.mo a z
      exact ⟨xs, n.grow _ _ h⟩
    · exact (tn a z).2
  · have r' := n.rel
    have mo2 : MOk ((F.or (Own E' σ)).or (tmp v w)) H2 := fun a z => z.elim (fun z => by
      obtain ⟨xs, h⟩ := p.env.moO a z
      exact ⟨xs, n.grow _ _ h⟩) fun z => (tn a z).2
    have gg : ∀ a, ((F.or (tmp v w)).or (Own E' σ)) a → ((F.or (Own E' σ)).or (tmp v w)) a ∨ H2 a = none := fun a z => .inl (z.elim (fun z => z.elim (fun z => .inl (.inl z)) .inr) fun z => .inl (.inr z))
    cases w with
    | val d => exact RelD.step mo2 gg (fun _ _ e _ => e) r'
    | own ds =>
      obtain ⟨a, xs, rfl, h1, h2, h3⟩ := r'
      refine ⟨a, xs, rfl, ?_, h2, h3.step mo2 gg fun _ _ e _ => e⟩
      cases h : H a with
      | none => rfl
      | some o => exact absurd h1 (p.ext.some a (by rw [h]; intro z; cases z))
/-! ### plain operations -/
abbrev Op1 := Wv → Option Wv
abbrev Op2 := Wv → Wv → Option Wv
abbrev OpN := List Wv → Option Wv
def rOp (K : PySem.W.Frag) (op : Op2) : R2 := fun x y H Q => ∃ M w1 w2 r, op w1 w2 = some r ∧ MOk M H ∧ Sh K M H x w1 ∧ Sh K M H y w2 ∧ ∀ v H', Nw K M H H' v r → Q v H'
def rUn (K : PySem.W.Frag) (op : Op1) : V → Hp → VK → Prop := fun x H Q => ∃ M w r, op w = some r ∧ MOk M H ∧ Sh K M H x w ∧ ∀ v H', Nw K M H H' v r → Q v H'
def rN (K : PySem.W.Frag) (op : OpN) : List V → Hp → VK → Prop := fun xs H Q => ∃ M ws r, op ws = some r ∧ MOk M H ∧ Shs K M H xs ws ∧ ∀ v H', Nw K M H H' v r → Q v H'
def eOp (op : OpN) (os : List Opd) : Ev := fun E => (evs os E).bind fun r => (op r.1).map fun w => (w, r.2)
def o1 (op : Op1) : OpN | [a] => op a | _ => none
def o2 (op : Op2) : OpN | [a, b] => op a b | _ => none
theorem eOp_ok {op : OpN} {os : List Opd} {Q : VK} {E : En} {w : Wv} {E' : En} (e : eOp op os E = some (w, E')) (r : EnvR K F E σ H) (h : ∀ v H', Post K F E σ H w E' v H' → Q v H') : tOs K os σ H fun vs H1 => rN K op vs H1 Q := by
  unfold eOp at e
  cases e1 : evs os E with
  | none => rw [e1] at e; cases e
  | some p =>
    obtain ⟨ws, E1⟩ := p
    rw [e1] at e
    simp only [Option.bind_some] at e
    cases e2 : op ws with
    | none => rw [e2] at e; cases e
    | some w' =>
      rw [e2] at e
      simp only [Option.map_some, Option.some.injEq, Prod.mk.injEq] at e
      obtain ⟨rfl, rfl⟩ := e
      exact evs_ok e1 r fun vs H1 p => ⟨F.or (Own E1 σ), ws, w', e2, p.env.moO, p.args.sh p.env, fun v H2 n => h v H2 (n.post r p)⟩
end
theorem tO_mono {K : PySem.W.Frag} {o : Opd} {σ : Sg} {H : Hp} {Q Q' : VK} (h : tO K o σ H Q) (m : ∀ v H', Q v H' → Q' v H') : tO K o σ H Q' := by
  cases o with
  | pk i => obtain ⟨v, e, q⟩ := h; exact ⟨v, e, m _ _ q⟩
  | ex f => obtain ⟨F, E, w, E', e, r, q⟩ := h; exact ⟨F, E, w, E', e, r, fun v H' p => m _ _ (q v H' p)⟩
theorem rN_two {K : PySem.W.Frag} {f : Op2} {x y : V} {H : Hp} {Q : VK} (h : rN K (o2 f) [x, y] H Q) : rOp K f x y H Q := by
  obtain ⟨M, ws, r, e, mo, s, q⟩ := h
  cases s with
  | cons h1 s =>
    cases s with
    | cons h2 s =>
      cases s
      exact ⟨M, _, _, r, e, mo, h1, h2, q⟩
theorem rN_one {K : PySem.W.Frag} {f : Op1} {x : V} {H : Hp} {Q : VK} (h : rN K (o1 f) [x] H Q) : rUn K f x H Q := by
  obtain ⟨M, ws, r, e, mo, s, q⟩ := h
  cases s with
  | cons h1 s =>
    cases s
    exact ⟨M, _, r, e, mo, h1, q⟩
theorem two_of {K : PySem.W.Frag} {f : Op2} {oa ob : Opd} {σ : Sg} {H : Hp} {Q : VK} (h : tD K (eOp (o2 f) [oa, ob]) σ H Q) : tOp (rOp K f) (tO K oa) (tO K ob) σ H Q := by
  obtain ⟨F, E, w, E', e, r, q⟩ := h
  have z : tO K oa σ H fun x H1 => tO K ob σ H1 fun y H2 => rN K (o2 f) [x, y] H2 Q := eOp_ok (Q := Q) e r q
  exact tO_mono z fun x H1 z1 => tO_mono z1 fun y H2 z2 => rN_two z2
theorem one_of {K : PySem.W.Frag} {f : Op1} {oa : Opd} {σ : Sg} {H : Hp} {Q : VK} (h : tD K (eOp (o1 f) [oa]) σ H Q) : tUn (rUn K f) (tO K oa) σ H Q := by
  obtain ⟨F, E, w, E', e, r, q⟩ := h
  have z : tO K oa σ H fun x H1 => rN K (o1 f) [x] H1 Q := eOp_ok (Q := Q) e r q
  exact tO_mono z fun x H1 z1 => rN_one z1
section
variable {X : Cx} {a b e : Expr} {es : List Expr} {oa ob : Opd} {os : List Opd} {pos p : Pos}
theorem de_op {op : Operator} {f : Op2} (ho : OpR X (binaryOp op) (rOp X.K f)) (ha : DO X a oa) (hb : DO X b ob) : DE X (.BinOp a op b pos) (eOp (o2 f) [oa, ob]) := ⟨pe_mono (pe_op ho ha.pe hb.pe) fun _ _ _ h => two_of h⟩
theorem de_cmp {op : CmpOp} {f : Op2} (ho : OpR X (compareOp op) (rOp X.K f)) (ha : DO X a oa) (hb : DO X b ob) (hm : behindInMarks op b = false := by rfl) : DE X (.Compare a [op] [b] pos) (eOp (o2 f) [oa, ob]) := ⟨pe_mono (pe_cmpR ho ha.pe hb.pe hm) fun _ _ _ h => two_of h⟩
theorem de_un {op : UnaryOp} {f : Op1} (ho : UnR X (unaryOp op) (rUn X.K f)) (ha : DO X a oa) : DE X (.UnaryOp op a pos) (eOp (o1 f) [oa]) := ⟨pe_mono (pe_un ho ha.pe) fun _ _ _ h => one_of h⟩
theorem de_ix {f : Op2} (hr : IxR X (rOp X.K f)) (ha : DO X a oa) (hb : DO X b ob) (hs : PlainIx b := by exact fun _ _ => rfl) : DE X (.Subscript a b pos) (eOp (o2 f) [oa, ob]) := ⟨pe_mono (pe_ix hr ha.pe hb.pe hs) fun _ _ _ h => two_of h⟩
/-- f(e, ..), f a built-in function -/
theorem de_callB {id : String} {x : Str} {f : OpN} (hc : CallR X (.builtin id) (rN X.K f)) (hg : Gl X x) (hm : X.mg x = none) (hv : bootBuiltins x = some (.builtin id)) (ha : DOs X (e :: es) os) (hn : x ≠ "__name__" := by decide) (hdb : (x == ("__debug__" : Str)) = false := by decide)
    (he : starEach (e :: es) X.env = (false, eval e X.env) :: starEach es X.env := by rfl) (hpl : (backTo pos (starEach es X.env)).any (·.1) = false := by rfl) : DE X (.Call (.Name x p) (e :: es) [] pos) (eOp f os) := ⟨
  pe_mono (pe_callB hc hg hm hv ha.pe hn hdb he hpl) fun _ _ _ h => by
    obtain ⟨F, E, w, E', e, r, q⟩ := h
    exact eOp_ok e r q⟩
theorem de_callTy {T : String} {x : Str} {f : OpN} (hc : CallR X (.type T) (rN X.K f)) (hg : Gl X x) (hm : X.mg x = none) (hv : bootBuiltins x = some (.type T)) (ha : DOs X (e :: es) os) (hn : x ≠ "__name__" := by decide) (hdb : (x == ("__debug__" : Str)) = false := by decide)
    (he : starEach (e :: es) X.env = (false, eval e X.env) :: starEach es X.env := by rfl) (hpl : (backTo pos (starEach es X.env)).any (·.1) = false := by rfl) : DE X (.Call (.Name x p) (e :: es) [] pos) (eOp f os) := ⟨
  pe_mono (pe_callTy hc hg hm hv ha.pe hn hdb he hpl) fun _ _ _ h => by
    obtain ⟨F, E, w, E', e, r, q⟩ := h
    exact eOp_ok e r q⟩
/-! constants, names -/
def eC (d : D) : Ev := fun E => some (.val d, E)
theorem post_same {K : PySem.W.Frag} {F : Ms} {E : En} {σ : Sg} {H : Hp} {v : V} {d : D} (r : EnvR K F E σ H) (h : RelD K (F.or (Own E σ)) H v d) : Post K F E σ H (.val d) E v H :=
  ⟨r.step (fun a z => z.elim .inl False.elim) (fun _ _ e _ => e) fun a z => z.elim (r.mo a) False.elim, .refl, fun _ z => z, h.step r.moO (fun a z => .inl (z.elim (fun z => z.elim .inl False.elim) .inr)) (fun _ _ e _ => e), .refl⟩
theorem de_con {v : V} {d : D} (h : PE X e (tC v)) (r : ∀ K M H, RelD K M H v d) : DE X e (eC d) := ⟨pe_mono h fun σ H Q z => by
  obtain ⟨F, E, w, E', e, rr, q⟩ := z
  cases e
  exact q _ _ (post_same rr (r _ _ _))⟩
theorem de_int {i : Int} {j : Nat} : DE X (.Constant (.int i) j pos) (eC (.int i)) := de_con pe_int fun _ _ _ => .int _
theorem de_bl {i : Bool} {j : Nat} : DE X (.Constant (.bool i) j pos) (eC (.bl i)) := de_con pe_bl fun _ _ _ => .bl _
theorem de_str {i : Str} {j : Nat} : DE X (.Constant (.str i) j pos) (eC (.str i)) := de_con pe_str fun _ _ _ => .str _
theorem de_non {j : Nat} : DE X (.Constant .none j pos) (eC .non) := de_con pe_non fun _ _ _ => .non
theorem do_pk (i : Nat) {x : Str} (hN : X.N[i]? = some x := by rfl) (hv : Vis X.env.scope x := by first | exact Or.inl rfl | exact Or.inr (Or.inl rfl) | exact Or.inr (Or.inr rfl)) (hd : (x == ("__debug__" : Str)) = false := by decide)
    (hcd : (x == ("__classdict__" : Str)) = false := by decide) : DO X (.Name x pos) (.pk i) := ⟨pe_var hN hv hd hcd⟩
/-- a name as a value: what it holds is data from then on -/
def eV (i : Nat) : Ev := fun E => (at? E i).map fun w => (.val (fz w), E.set i (some (.val (fz w))))
end
section
variable {K : PySem.W.Frag} {F : Ms} {E : En} {σ : Sg} {H : Hp} {i : Nat} {w : Wv} {v : V}
theorem own_fz {a : Addr} (z : Own (E.set i (some (.val (fz w)))) σ a) : Own E σ a := by
  obtain ⟨j, ds, e1, e2⟩ := z
  rw [List.getElem?_set] at e1
  split at e1
  · split at e1
    · cases e1
    · cases e1
  · exact ⟨j, ds, e1, e2⟩
theorem lk_fz (e : E[i]? = some (some w)) : Lk E (E.set i (some (.val (fz w)))) := fun j z => by
  obtain ⟨ds, z⟩ := z
  by_cases hij : i = j
  · subst hij
    have hl : i < E.length := by
      rcases List.getElem?_eq_some_iff.mp e with ⟨h, _⟩
      exact h
    refine ⟨ds, .inr ?_⟩
    rw [List.getElem?_set_self hl]
    rcases z with z | z <;> (rw [e] at z; cases z; rfl)
  · refine ⟨ds, ?_⟩
    rw [List.getElem?_set_ne hij]
    exact z
theorem EnvR.fzn (r : EnvR K F E σ H) (e : E[i]? = some (some w)) (ev : σ[i]? = some (some v)) : EnvR K F (E.set i (some (.val (fz w)))) σ H ∧ RelD K (F.or (Own (E.set i (some (.val (fz w)))) σ)) H v (fz w) := by
  have g : ∀ a, (F.or (Own (E.set i (some (.val (fz w)))) σ)) a → (F.or (Own E σ)) a ∨ H a = none := fun a z => .inl (z.elim .inl fun z => .inr (own_fz z))
  have fin : RelD K (F.or (Own (E.set i (some (.val (fz w)))) σ)) H v (fz w) := by
    cases w with
    | val d =>
      obtain ⟨v', h1, h2⟩ := r.val i d e
      rw [ev] at h1; cases h1
      exact h2.step r.moO g fun _ _ e _ => e
    | own ds =>
      obtain ⟨a, xs, h1, h2, h3, h4⟩ := r.own i ds e
      rw [ev] at h1; cases h1
      refine .lst h2 (fun z => ?_) (h3.step r.moO g fun _ _ e _ => e)
      rcases z with z | ⟨j, es, e1, e2⟩
      · exact h4 z
      · rw [List.getElem?_set] at e1
        split at e1
        · split at e1 <;> cases e1
        · rename_i hij
          exact hij (r.inj i j ds es a e e1 ev e2)
  refine ⟨⟨by rw [List.length_set]; exact r.len, fun j d ej => ?_, fun j ds ej => ?_, fun j k ds es a ej ek => ?_, r.mo⟩, fin⟩
  · rw [List.getElem?_set] at ej
    split at ej
    · rename_i hij
      subst hij
      split at ej
      · cases ej
        exact ⟨v, ev, fin⟩
      · cases ej
    · obtain ⟨v', h1, h2⟩ := r.val j d ej
      exact ⟨v', h1, h2.step r.moO g fun _ _ e _ => e⟩
  · rw [List.getElem?_set] at ej
    split at ej
    · split at ej <;> cases ej
    · obtain ⟨a, xs, h1, h2, h3, h4⟩ := r.own j ds ej
      exact ⟨a, xs, h1, h2, h3.step r.moO g fun _ _ e _ => e, h4⟩
  · rw [List.getElem?_set] at ej ek
    split at ej
    · split at ej <;> cases ej
    · split at ek
      · split at ek <;> cases ek
      · exact r.inj j k ds es a ej ek
end
theorem de_var {X : Cx} {pos : Pos} (i : Nat) {x : Str} (hN : X.N[i]? = some x := by rfl) (hv : Vis X.env.scope x := by first | exact Or.inl rfl | exact Or.inr (Or.inl rfl) | exact Or.inr (Or.inr rfl)) (hd : (x == ("__debug__" : Str)) = false := by decide)
    (hcd : (x == ("__classdict__" : Str)) = false := by decide) : DE X (.Name x pos) (eV i) := ⟨pe_mono (pe_var hN hv hd hcd) fun σ H Q z => by
  obtain ⟨F, E, w, E', e, r, q⟩ := z
  unfold eV at e
  cases e1 : at? E i with
  | none => rw [e1] at e; cases e
  | some w1 =>
    rw [e1] at e
    simp only [Option.map_some, Option.some.injEq, Prod.mk.injEq] at e
    obtain ⟨rfl, rfl⟩ := e
    obtain ⟨v, hv⟩ := r.hasv (at?_some e1)
    obtain ⟨r1, d1⟩ := r.fzn (at?_some e1) hv
    refine ⟨v, hv, q v H ?_⟩
    have p := post_same r1 d1
    exact ⟨p.env, .refl, fun a z => own_fz (p.sub a z), p.rel, lk_fz (at?_some e1)⟩⟩
end Mi
end
section
set_option Elab.async false
set_option linter.all false
set_option maxRecDepth 100000
set_option maxHeartbeats 4000000
namespace Mi
open PySem PySem.Spec L2
theorem noFill_tuple_mul : fillsNumberSlot (.type "tuple") "mul" = pure false :=
  fillsNumberSlot_seq (id := "tuple.__mul__") (r := some (.builtin "tuple.__rmul__")) F.slot_tuple_mul.lookup (by decide +kernel) F.slot_tuple_rmul.lookup (by decide +kernel)
theorem repeat_tuple : seqRepeat? (.type "tuple") = pure (some (.builtin "tuple.__mul__")) := by
  unfold seqRepeat?
  rw [seqSlot_of (T := "tuple") (name := "__mul__") (id := "tuple.__mul__") F.slot_tuple_mul.lookup (by decide +kernel), seqSlot_of (T := "tuple") (name := "__rmul__") (id := "tuple.__rmul__") F.slot_tuple_rmul.lookup (by decide +kernel)]
  rfl
theorem rmul_int_tuple (a : Int) (t : Tok) (l : Addr) (items : Array Value) (n : Nat) (dd : Option Addr) (sl : Array (Option Value)) :
    Meets (Builtin.«int.__rmul__» ⟨[.int a t, .ref l], []⟩) (fun _ R s => s.heap.get? l = some { cls := .type "tuple", dict := dd, data := .seq items n, slots := sl } ∧ R (.ok (.ret Value.notImplemented)) s) :=
  .of_wp fun prog w A R s h => by obtain ⟨hp, g, d, tk, os⟩ := s; obtain ⟨hl, h⟩ := h; wp_walk; exact ⟨_, rfl, h⟩
theorem repl_flat (its : List Value) (m : Nat) : List.foldl (fun x1 x2 => x1 ++ x2) #[] (List.replicate m its.toArray) = (List.replicate m its).flatten.toArray := by
  have := foldl_rep its m []
  rw [List.nil_append] at this
  exact this
/-- t * k, t not empty, k from 1 on -/
theorem op_repT {X : Cx} : OpR X (binaryOp .Mult) (fun x y H Q => ∃ a xs k, x = .ref a ∧ y = .int k ∧ SqT X.K H a xs ∧ xs ≠ [] ∧ 1 ≤ k ∧ xs.length * k.toNat ≤ sizeLine ∧ (k = 1 → Q (.ref a) H) ∧ (k ≠ 1 → ∀ p, H p = none → Q (.ref p) (upd H p (.tup (List.replicate k.toNat xs).flatten)))) := by
  intro pins s σ H x y v u Q I rx ry h
  obtain ⟨a, xs, k, rfl, rfl, hx, hne, hk, hz, q1, q2⟩ := h
  cases rx
  obtain ⟨t, rfl⟩ := ry
  obtain ⟨its, r, ⟨⟨c, dd, data, sl⟩, ho, hc, n, hd⟩, hzz⟩ := I.tuple hx
  simp only at hc hd
  subst hc hd
  have hl := r.length
  have hsz : its.toArray.size = xs.length := by rw [List.size_toArray]; exact hl.symm
  have hpos : 0 < xs.length := List.length_pos_iff.mpr hne
  have hkl : k.toNat ≤ sizeLine := Nat.le_trans (Nat.le_mul_of_pos_left _ hpos) hz
  have hk63 : k < 2 ^ 63 := by
    have : (sizeLine : Nat) < 2 ^ 63 := by decide
    omega
  refine wpAny_binaryOp_repeat_ref (T := "tuple") (U := "int") (by decide) ⟨_, ho, rfl⟩ (fun s' => typeIs_int s' k t) noFill_tuple_mul F.fills_int_mul F.slot_int_rmul repeat_tuple F.slot_int_index.lookup
    (call_meets F.slot_int_rmul (typeIs_int s k t) F.entry_int_rmul (F.args_int_rmul_2 _ _) (rmul_int_tuple k t a its.toArray n dd sl) ⟨ho, rfl, ⟨_, ho, rfl⟩, ?_⟩)
  refine wpAny_call_entry F.slot_tuple_mul ⟨_, ho, rfl⟩ F.entry_tuple_mul ?_ (F.args_tuple_mul_2 _ _)
  unfold Builtin.«tuple.__mul__»
  wp_walk using AutoSeq1.wpAny_loadPart' ho
  rw [if_neg (show ¬ (decide (k < -2 ^ 63) || decide (k ≥ 2 ^ 63)) = true by
    rw [Bool.or_eq_true]
    rintro (z | z)
    · have := of_decide_eq_true z; omega
    · have := of_decide_eq_true z; omega)]
  wp_walk using AutoSeq1.wpAny_loadPart' ho
  by_cases h1 : k = 1
  · subst h1
    rw [if_pos (show (its.toArray.isEmpty || (1 : Int) == 1) = true by simp)]
    wp_walk using AutoSeq1.wpAny_loadPart' ho
    exact ⟨_, rfl, .ref a, H, I, rfl, q1 rfl⟩
  · have hemp : its.toArray.isEmpty = false := by
      cases its with
      | nil => rw [List.length_nil] at hl; omega
      | cons b bs => rfl
    rw [if_neg (show ¬ (its.toArray.isEmpty || k == 1) = true by rw [hemp]; simpa using h1)]
    wp_walk using AutoSeq1.wpAny_loadPart' ho
    have hmul : ((its.toArray.size : Int) * k) = ((xs.length * k.toNat : Nat) : Int) := by
      rw [hsz, Int.natCast_mul]
      congr 1
      omega
    rw [if_neg (show ¬ (decide (k ≤ 0) || its.toArray.isEmpty) = true by
      rw [hemp, Bool.or_false]
      intro z
      have := of_decide_eq_true z
      omega)]
    wp_walk
    rw [if_neg (show ¬ ((its.toArray.size : Int) * k > (2 ^ 63 - 1) / 8) by
      rw [hmul]
      have : (sizeLine : Nat) ≤ (2 ^ 63 - 1) / 8 := by decide
      omega)]
    wp_walk
    rw [if_neg (show ¬ Builtin.Tuple.tupleTooMany ((its.toArray.size : Int) * k) = true by
      unfold Builtin.Tuple.tupleTooMany
      rw [hmul]
      intro z
      have := of_decide_eq_true z
      omega)]
    rw [repl_flat]
    wp_walk
    have hlen : (List.replicate k.toNat its).flatten.length ≤ sizeLine := by rw [len_rep, Nat.mul_comm, ← hl]; exact hz
    rw [if_neg (show ¬ ((List.replicate k.toNat its).flatten.toArray.size > sizeLine) by rw [List.size_toArray]; omega)]
    wp_walk
    refine ⟨_, rfl, .ref _, _, I.laid (o := .tup (List.replicate k.toNat xs).flatten) (t' := s.toks) (fun b ob q => Heap.get?_push_of_some _ q) (Nat.le_refl _) ?_, rfl, q2 h1 _ (I.hok.fresh (Nat.le_refl _))⟩
    exact ⟨by rw [len_rep, Nat.mul_comm]; exact hz, _, r.rep k.toNat, PyProof.Rows.IsTup.new _ _⟩
end Mi
end
section
set_option Elab.async false
set_option linter.all false
set_option maxRecDepth 100000
set_option maxHeartbeats 4000000
namespace Mi
open PySem PySem.Spec L2

/-! ### equality of data -/
mutual
def D.py : D → PyData
  | .non => .none | .bl b => .bool b | .int i => .int i | .str x => .str x | .ty _ => .none
  | .tup ds => .tuple (D.pys ds) | .lst ds => .list (D.pys ds) | .dct _ => .none | .scr _ => .none
def D.pys : List D → List PyData
  | [] => []
  | d :: ds => D.py d :: D.pys ds
end
mutual
/-- no type, no dict, texts of plain signs -/
def D.lay : D → Bool
  | .non => true | .bl _ => true | .int _ => true | .str x => PySem.PyData.strOk x | .ty _ => false | .dct _ => false | .scr _ => false
  | .tup ds => D.lays ds | .lst ds => D.lays ds
def D.lays : List D → Bool
  | [] => true
  | d :: ds => D.lay d && D.lays ds
end
mutual
theorem lay_can : ∀ {d : D}, d.lay = true → d.py.canLay0 = true
  | .non, _ => rfl
  | .bl _, _ => rfl
  | .int _, _ => rfl
  | .str x, h => h
  | .ty _, h => Bool.noConfusion h
  | .dct _, h => Bool.noConfusion h
  | .scr _, h => Bool.noConfusion h
  | .tup ds, h => by show PyData.canLayAll0 (D.pys ds) = true; exact lays_can h
  | .lst ds, h => by show PyData.canLayAll0 (D.pys ds) = true; exact lays_can h
theorem lays_can : ∀ {ds : List D}, D.lays ds = true → PyData.canLayAll0 (D.pys ds) = true
  | [], _ => rfl
  | d :: ds, h => by
    have h' : (D.lay d && D.lays ds) = true := h
    rw [Bool.and_eq_true] at h'
    show (PyData.canLay0 d.py && PyData.canLayAll0 (D.pys ds)) = true
    rw [lay_can h'.1, lays_can h'.2]; rfl
end
section
variable {X : Cx} {pins : List (Addr × Obj)} {σ : Sg} {H : Hp} {s : Shared} {M : Ms}
theorem Rd_lst_read (I : Inv X pins σ H s) {a : Addr} {xs : List V} (h : Rd H a (.lst xs)) : ∃ its : List Value, Vals xs its ∧ ∃ o n, s.heap.get? a = some o ∧ o.cls = .type "list" ∧ o.data = .seq its.toArray n := by
  obtain ⟨z, its, n, r, e⟩ := h.ok I.hok
  exact ⟨its, r, _, n, e, rfl, rfl⟩
mutual
theorem RelD.reads (I : Inv X pins σ H s) : ∀ {v : V} {d : D} {u : Value}, RelD X.K M H v d → RelV v u → d.lay = true → ∃ as, Reads s.heap u d.py as
  | _, _, _, .non, r, _ => by cases r; exact ⟨_, .none⟩
  | _, _, _, .bl b, r, _ => by cases r; exact ⟨_, .bool b⟩
  | _, _, _, .int b, r, _ => by obtain ⟨t, rfl⟩ := r; exact ⟨_, .int b t⟩
  | _, _, _, .str b, r, _ => by obtain ⟨t, rfl⟩ := r; exact ⟨_, .str b t⟩
  | _, _, _, .ty _, _, h => Bool.noConfusion h
  | _, _, _, .dct _ _, _, h => Bool.noConfusion h
  | _, _, _, .scr _, _, h => Bool.noConfusion h
  | _, _, _, .tup h rs, r, hl => by
    cases r
    obtain ⟨its, rv, ⟨o, e, hc, n, hd⟩, _⟩ := I.tuple h
    obtain ⟨as, ra⟩ := RelDs.reads I rs rv hl
    exact ⟨as, .tuple e hc hd ra⟩
  | _, _, _, .lst h _ rs, r, hl => by
    cases r
    obtain ⟨its, rv, o, n, e, hc, hd⟩ := Rd_lst_read I (.inl h)
    obtain ⟨as, ra⟩ := RelDs.reads I rs rv hl
    exact ⟨_, .list e hc hd ra⟩
theorem RelDs.reads (I : Inv X pins σ H s) : ∀ {vs : List V} {ds : List D} {us : List Value}, RelDs X.K M H vs ds → Vals vs us → D.lays ds = true → ∃ as, ReadsAll s.heap us (D.pys ds) as
  | _, _, _, .nil, r, _ => by cases r; exact ⟨_, .nil⟩
  | _, _, _, .cons (d := d) (ds := ds) h t, r, hl => by
    cases r with
    | cons r1 r2 =>
      have hl' : (D.lay d && D.lays ds) = true := hl
      rw [Bool.and_eq_true] at hl'
      obtain ⟨as, ra⟩ := RelD.reads I h r1 hl'.1
      obtain ⟨bs, rb⟩ := RelDs.reads I t r2 hl'.2
      exact ⟨_, .cons ra rb⟩
end
end
/-- a == b -/
def deq (a b : D) : Bool := PyData.eqv a.py b.py
def okEq (a b : D) : Bool := a.lay && b.lay && decide (min a.py.depth b.py.depth ≤ 60)
def wEq : Op2 := fun a b => if okEq (fz a) (fz b) = true then some (.val (.bl (deq (fz a) (fz b)))) else none
def wNe : Op2 := fun a b => if okEq (fz a) (fz b) = true then some (.val (.bl (!deq (fz a) (fz b)))) else none
section
variable {X : Cx}
/-- whatever it is, its parts can be read: marks forgotten -/
theorem Sh.fz {K : PySem.W.Frag} {M : Ms} {H : Hp} {v : V} {w : Wv} (mo : MOk M H) (h : Sh K M H v w) : RelD K (fun _ => False) H v (fz w) := by
  cases w with
  | val d => exact RelD.step mo (fun a z => z.elim) (fun _ _ e _ => e) h
  | own ds =>
    obtain ⟨a, xs, rfl, h1, h2⟩ := h
    exact .lst h1 (fun z => z) (h2.step mo (fun a z => z.elim) (fun _ _ e _ => e))
theorem op_eqD (hu : X.A.units + 100 < cLine) : OpR X (compareOp .Eq) (rOp X.K wEq) := by
  intro pins s σ H x y v u Q I rx ry h
  obtain ⟨M, w1, w2, r, e, mo, s1, s2, q⟩ := h
  unfold wEq at e
  split at e
  · rename_i hk
    unfold okEq at hk
    rw [Bool.and_eq_true, Bool.and_eq_true] at hk
    cases e
    obtain ⟨as, ra⟩ := (s1.fz mo).reads I rx hk.1.1
    obtain ⟨bs, rb⟩ := (s2.fz mo).reads I ry hk.1.2
    have hd := of_decide_eq_true hk.2
    exact SeqAt.compareEq_reads ra rb (lay_can hk.1.1) (lay_can hk.1.2) (by omega) ⟨.bl _, H, I, rfl, q _ _ (.same mo (.bl _))⟩
  · cases e
theorem op_neD (hu : X.A.units + 100 < cLine) : OpR X (compareOp .NotEq) (rOp X.K wNe) := by
  intro pins s σ H x y v u Q I rx ry h
  obtain ⟨M, w1, w2, r, e, mo, s1, s2, q⟩ := h
  unfold wNe at e
  split at e
  · rename_i hk
    unfold okEq at hk
    rw [Bool.and_eq_true, Bool.and_eq_true] at hk
    cases e
    obtain ⟨as, ra⟩ := (s1.fz mo).reads I rx hk.1.1
    obtain ⟨bs, rb⟩ := (s2.fz mo).reads I ry hk.1.2
    have hd := of_decide_eq_true hk.2
    exact SeqAt.compareNe_reads ra rb (lay_can hk.1.1) (lay_can hk.1.2) (by omega) ⟨.bl _, H, I, rfl, q _ _ (.same mo (.bl _))⟩
  · cases e

/-! ### ints -/
def wI2 (f : Int → Int → Option D) : Op2
  | .val (.int i), .val (.int j) => (f i j).map .val
  | _, _ => none
theorem opI_ok {g : Value → Value → Sem Value} {C : Int → Int → Prop} {h : Int → Int → V} {f : Int → Int → Option D} (o : OpR X g (rI C h)) (hf : ∀ i j d, f i j = some d → C i j ∧ ∀ K M H, RelD K M H (h i j) d) : OpR X g (rOp X.K (wI2 f)) := by
  intro pins s σ H x y v u Q I rx ry hh
  obtain ⟨M, w1, w2, r, e, mo, s1, s2, q⟩ := hh
  unfold wI2 at e
  split at e
  · cases s1
    cases s2
    rename_i i j
    cases e1 : f i j with
    | none => rw [e1] at e; cases e
    | some d =>
      rw [e1] at e
      cases e
      obtain ⟨c, rd⟩ := hf i j d e1
      exact o pins s σ H _ _ v u Q I rx ry ⟨i, j, rfl, rfl, c, q _ _ (.same mo (rd _ _ _))⟩
  · cases e
theorem opI0_ok {g : Value → Value → Sem Value} {h : Int → Int → V} {f : Int → Int → Option D} (o : OpR X g (rI0 h)) (hf : ∀ i j d, f i j = some d → ∀ K M H, RelD K M H (h i j) d) : OpR X g (rOp X.K (wI2 f)) := by
  intro pins s σ H x y v u Q I rx ry hh
  obtain ⟨M, w1, w2, r, e, mo, s1, s2, q⟩ := hh
  unfold wI2 at e
  split at e
  · cases s1
    cases s2
    rename_i i j
    cases e1 : f i j with
    | none => rw [e1] at e; cases e
    | some d =>
      rw [e1] at e
      cases e
      exact o pins s σ H _ _ v u Q I rx ry ⟨i, j, rfl, rfl, q _ _ (.same mo (hf i j d e1 _ _ _))⟩
  · cases e
def wSub : Op2 := wI2 fun i j => some (.int (i - j))
def mulOk (i j : Int) : Bool := decide (i.natAbs < 2 ^ 64) || (decide (j.natAbs < 2 ^ 64) || (decide (i.natAbs < 2 ^ 5000) && decide (j.natAbs < 2 ^ 5000)))
theorem op_mulX : OpR X (binaryOp .Mult) (rI (fun i j => mulOk i j = true) fun i j => .int (i * j)) := by
  intro pins s σ H x y v u Q I rx ry h
  obtain ⟨i, j, rfl, rfl, hk, q⟩ := h
  unfold mulOk at hk
  rw [Bool.or_eq_true, Bool.or_eq_true, Bool.and_eq_true] at hk
  rcases hk with hk | hk | hk
  · have := of_decide_eq_true hk
    exact op_mul pins s σ H _ _ v u Q I rx ry ⟨i, j, rfl, rfl, .inl ⟨by omega, by omega⟩, q⟩
  · have := of_decide_eq_true hk
    exact op_mul pins s σ H _ _ v u Q I rx ry ⟨i, j, rfl, rfl, .inr ⟨by omega, by omega⟩, q⟩
  · exact St.op_mulB pins s σ H _ _ v u Q I rx ry ⟨i, j, rfl, rfl, ⟨of_decide_eq_true hk.1, of_decide_eq_true hk.2⟩, q⟩
def wMulI : Op2 := wI2 fun i j => if mulOk i j = true then some (.int (i * j)) else none
def wFdiv : Op2 := wI2 fun i j => if (decide (0 < j) && decide (j.natAbs < 2 ^ 8000)) = true then some (.int (i / j)) else none
def wMod : Op2 := wI2 fun i j => if 0 < j then some (.int (i % j)) else none
def wPow : Op2 := wI2 fun i j => if (decide (0 ≤ j) && decide (j ≤ 1000) && decide (i.natAbs < 2 ^ 64)) = true then some (.int (i ^ j.toNat)) else none
def wLt : Op2 := wI2 fun i j => some (.bl (decide (i < j)))
def wLe : Op2 := wI2 fun i j => some (.bl (decide (i ≤ j)))
def wGt : Op2 := wI2 fun i j => some (.bl (decide (j < i)))
def wGe : Op2 := wI2 fun i j => some (.bl (decide (j ≤ i)))
theorem op_subD : OpR X (binaryOp .Sub) (rOp X.K wSub) := opI0_ok op_sub fun i j d e K M H => by cases e; exact .int _
theorem op_mulI : OpR X (binaryOp .Mult) (rOp X.K wMulI) := opI_ok op_mulX fun i j d e => by
  split at e
  · rename_i hk
    cases e
    exact ⟨hk, fun _ _ _ => .int _⟩
  · cases e
theorem op_fdivD : OpR X (binaryOp .FloorDiv) (rOp X.K wFdiv) := opI_ok St.op_fdivB fun i j d e => by
  split at e
  · rename_i hk
    rw [Bool.and_eq_true] at hk
    cases e
    exact ⟨⟨of_decide_eq_true hk.1, of_decide_eq_true hk.2⟩, fun _ _ _ => .int _⟩
  · cases e
theorem op_modD : OpR X (binaryOp .Mod) (rOp X.K wMod) := opI_ok op_mod fun i j d e => by
  split at e
  · rename_i hk
    cases e
    exact ⟨hk, fun _ _ _ => .int _⟩
  · cases e
theorem op_powD : OpR X (binaryOp .Pow) (rOp X.K wPow) := opI_ok op_pow fun i j d e => by
  split at e
  · rename_i hk
    rw [Bool.and_eq_true, Bool.and_eq_true] at hk
    cases e
    have := of_decide_eq_true hk.1.2
    exact ⟨⟨of_decide_eq_true hk.1.1, by omega, of_decide_eq_true hk.2⟩, fun _ _ _ => .int _⟩
  · cases e
theorem op_ltD : OpR X (compareOp .Lt) (rOp X.K wLt) := opI0_ok op_lt fun i j d e K M H => by cases e; exact .bl _
theorem op_leD : OpR X (compareOp .LtE) (rOp X.K wLe) := opI0_ok op_le fun i j d e K M H => by cases e; exact .bl _
theorem op_gtD : OpR X (compareOp .Gt) (rOp X.K wGt) := opI0_ok op_gt fun i j d e K M H => by cases e; exact .bl _
theorem op_geD : OpR X (compareOp .GtE) (rOp X.K wGe) := opI0_ok op_ge fun i j d e K M H => by cases e; exact .bl _

/-! ### lists and tuples -/
def asL : Wv → Option (List D)
  | .own ds => some ds
  | .val (.lst ds) => some ds
  | _ => none
def asT : Wv → Option (List D)
  | .val (.tup ds) => some ds
  | _ => none
/-- a list or a tuple -/
def asC : Wv → Option (List D)
  | .val (.scr ns) => some (ns.map .int)
  | _ => none
def asS (w : Wv) : Option (List D) := (asL w).or ((asT w).or (asC w))
section
variable {K : PySem.W.Frag} {M : Ms} {H : Hp} {v : V} {w : Wv} {ds : List D}
theorem Sh.l (h : Sh K M H v w) (e : asL w = some ds) : ∃ a xs, v = .ref a ∧ H a = some (.lst xs) ∧ RelDs K M H xs ds := by
  cases w with
  | own es => cases e; obtain ⟨a, xs, rfl, h1, h2⟩ := h; exact ⟨a, xs, rfl, h1, h2⟩
  | val d =>
    cases d <;> first | (cases e; done) | skip
    cases e
    cases h with
    | lst h n r => exact ⟨_, _, rfl, h, r⟩
theorem Sh.t (h : Sh K M H v w) (e : asT w = some ds) : ∃ a xs, v = .ref a ∧ SqT K H a xs ∧ RelDs K M H xs ds := by
  cases w with
  | own es => cases e
  | val d =>
    cases d <;> first | (cases e; done) | skip
    cases e
    cases h with
    | tup h r => exact ⟨_, _, rfl, h, r⟩
theorem rel_ints : ∀ {ns : List Int}, RelDs K M H (ns.map V.int) (ns.map D.int)
  | [] => .nil
  | n :: ns => .cons (.int n) rel_ints
theorem Sh.c (h : Sh K M H v w) (e : asC w = some ds) : ∃ a xs, v = .ref a ∧ SqL K H a xs ∧ RelDs K M H xs ds := by
  cases w with
  | own es => cases e
  | val d =>
    cases d <;> first | (cases e; done) | skip
    cases e
    cases h with
    | scr h =>
      refine ⟨_, _, rfl, ?_, rel_ints⟩
      rcases h with h | h
      · exact .inl h.1
      · exact .inr h
theorem Sh.s (h : Sh K M H v w) (e : asS w = some ds) : ∃ a xs, v = .ref a ∧ (SqL K H a xs ∨ SqT K H a xs) ∧ RelDs K M H xs ds := by
  unfold asS at e
  cases e1 : asL w with
  | some es =>
    rw [e1] at e
    cases e
    obtain ⟨a, xs, h1, h2, h3⟩ := h.l e1
    exact ⟨a, xs, h1, .inl (.of h2), h3⟩
  | none =>
    rw [e1] at e
    cases e2 : asT w with
    | some es =>
      rw [e2] at e
      cases e
      obtain ⟨a, xs, h1, h2, h3⟩ := h.t e2
      exact ⟨a, xs, h1, .inr h2, h3⟩
    | none =>
      rw [e2] at e
      obtain ⟨a, xs, h1, h2, h3⟩ := h.c e
      exact ⟨a, xs, h1, .inl h2, h3⟩
end
def wLen : Op1 := fun w => match w with
  | .val (.str z) => if z.length ≤ sizeLine then some (.val (.int z.length)) else none
  | _ => (asS w).map fun ds => .val (.int ds.length)
theorem call_lenD : CallR X (.builtin "len") (rN X.K (o1 wLen)) := by
  intro pins s σ H xs us Q I r h
  obtain ⟨M, ws, w, e, mo, sh, q⟩ := h
  cases sh with
  | nil => cases e
  | cons h1 t =>
    cases t with
    | cons h2 t => cases e
    | nil =>
      rename_i v w1
      have e' : wLen w1 = some w := e
      unfold wLen at e'
      split at e'
      · split at e'
        · rename_i z hz
          cases e'
          cases h1
          exact call_len_str pins s σ H _ us Q I r ⟨z, rfl, hz, q _ _ (.same mo (.int _))⟩
        · cases e'
      · cases e1 : asS w1 with
        | none => rw [e1] at e'; cases e'
        | some ds =>
          rw [e1] at e'
          cases e'
          obtain ⟨a, ys, rfl, h3, h4⟩ := h1.s e1
          refine call_len_seq pins s σ H _ us Q I r ⟨a, ys, rfl, h3, q _ _ ?_⟩
          rw [h4.length]
          exact .same mo (.int _)
def wIx : Op2 := fun a b => match a, b with
  | a, .val (.int i) => (asS a).bind fun ds => (atI ds i).map .val
  | _, _ => none
theorem atI_rel {K : PySem.W.Frag} {M : Ms} {H : Hp} {xs : List V} {ds : List D} {i : Int} {d : D} (h : RelDs K M H xs ds) (e : atI ds i = some d) : ∃ x, atI xs i = some x ∧ RelD K M H x d := by
  unfold atI at e ⊢
  rw [h.length]
  cases e1 : ixN ds.length i with
  | none => rw [e1] at e; cases e
  | some j =>
    rw [e1] at e
    exact h.get e
theorem ix_D : IxR X (rOp X.K wIx) := by
  intro value slice pins s σ H x y v u Q I rx ry h hs
  obtain ⟨M, w1, w2, r, e, mo, s1, s2, q⟩ := h
  unfold wIx at e
  split at e
  · rename_i i
    cases e1 : asS w1 with
    | none => rw [e1] at e; cases e
    | some ds =>
      rw [e1] at e
      simp only [Option.bind_some] at e
      cases e2 : atI ds i with
      | none => rw [e2] at e; cases e
      | some d =>
        rw [e2] at e
        cases e
        cases s2
        obtain ⟨a, ys, rfl, h3, h4⟩ := s1.s e1
        obtain ⟨z, h5, h6⟩ := atI_rel h4 e2
        rcases h3 with h3 | h3
        · exact ix_list value slice pins s σ H _ _ v u Q I rx ry ⟨a, ys, i, z, rfl, rfl, h3, h5, q _ _ (.same mo h6)⟩ hs
        · exact ix_tup value slice pins s σ H _ _ v u Q I rx ry ⟨a, ys, i, z, rfl, rfl, h3, h5, q _ _ (.same mo h6)⟩ hs
  · cases e
end
end Mi
end
section
set_option Elab.async false
set_option linter.all false
set_option maxRecDepth 100000
set_option maxHeartbeats 4000000
namespace Mi
open PySem PySem.Spec L2
section
variable {X : Cx}
/-! ### + and * -/
def wAdd : Op2 := fun a b => match a, b with
  | .val (.int i), .val (.int j) => some (.val (.int (i + j)))
  | .val (.str x), .val (.str y) => if x.length + y.length ≤ sizeLine then some (.val (.str (x ++ y))) else none
  | .val (.tup xs), .val (.tup ys) => if xs.length + ys.length ≤ sizeLine then some (.val (.tup (xs ++ ys))) else none
  | a, b => (asL a).bind fun xs => (asL b).bind fun ys => if xs.length + ys.length ≤ sizeLine then some (.own (xs ++ ys)) else none
theorem RelDs.nil_iff {K : PySem.W.Frag} {M : Ms} {H : Hp} {xs : List V} {ds : List D} (h : RelDs K M H xs ds) (e : ds = []) : xs = [] := by
  subst e; cases h; rfl
theorem op_addD : OpR X (binaryOp .Add) (rOp X.K wAdd) := by
  intro pins s σ H x y v u Q I rx ry h
  obtain ⟨M, w1, w2, r, e, mo, s1, s2, q⟩ := h
  unfold wAdd at e
  split at e
  · cases e
    cases s1; cases s2
    exact op_add pins s σ H _ _ v u Q I rx ry ⟨_, _, rfl, rfl, q _ _ (.same mo (.int _))⟩
  · split at e
    · cases e
      cases s1; cases s2
      exact op_add_str pins s σ H _ _ v u Q I rx ry ⟨_, _, rfl, rfl, by assumption, q _ _ (.same mo (.str _))⟩
    · cases e
  · split at e
    · rename_i xs ys hz
      cases e
      cases s1 with
      | tup h1 r1 =>
        cases s2 with
        | tup h2 r2 =>
          rename_i a xs' b ys'
          have l1 := r1.length
          have l2 := r2.length
          by_cases hx : xs' = []
          · subst hx
            cases r1
            refine St.op_cat0 pins s σ H _ _ v u Q I rx ry ⟨_, _, _, rfl, rfl, h1, h2, q _ _ (.same mo ?_)⟩
            exact .tup h2 r2
          · refine op_catT pins s σ H _ _ v u Q I rx ry ⟨_, _, _, _, rfl, rfl, h1, h2, hx, by omega, fun z => ?_, fun _ p hp => q _ _ (.tup mo hp (r1.append r2))⟩
            subst z
            cases r2
            rw [List.append_nil] at q
            exact q _ _ (.same mo (.tup h1 r1))
    · cases e
  · cases e1 : asL w1 with
    | none => rw [e1] at e; cases e
    | some xs =>
      rw [e1] at e
      cases e2 : asL w2 with
      | none => rw [e2] at e; cases e
      | some ys =>
        rw [e2] at e
        simp only [Option.bind_some] at e
        split at e
        · rename_i hz
          cases e
          obtain ⟨a, xs', rfl, h1, r1⟩ := s1.l e1
          obtain ⟨b, ys', rfl, h2, r2⟩ := s2.l e2
          have l1 := r1.length
          have l2 := r2.length
          exact op_cat pins s σ H _ _ v u Q I rx ry ⟨a, b, xs', ys', rfl, rfl, h1, h2, by omega, fun p hp => q _ _ (.lst mo hp (r1.append r2))⟩
        · cases e
def wMul : Op2 := fun a b => match a, b with
  | .val (.int i), .val (.int j) => if mulOk i j = true then some (.val (.int (i * j))) else none
  | .val (.tup xs), .val (.int k) => if (!xs.isEmpty && decide (1 ≤ k) && decide (xs.length * k.toNat ≤ sizeLine)) = true then some (.val (.tup (List.replicate k.toNat xs).flatten)) else none
  | a, .val (.int k) => (asL a).bind fun xs => if (decide (k < 2 ^ 63) && decide (-(2 ^ 63) ≤ k) && decide (xs.length * k.toNat ≤ sizeLine)) = true then some (.own (List.replicate k.toNat xs).flatten) else none
  | _, _ => none
theorem RelDs.rep {K : PySem.W.Frag} {M : Ms} {H : Hp} {xs : List V} {ds : List D} (h : RelDs K M H xs ds) : ∀ n : Nat, RelDs K M H (List.replicate n xs).flatten (List.replicate n ds).flatten
  | 0 => .nil
  | n + 1 => by
    rw [List.replicate_succ, List.replicate_succ, List.flatten_cons, List.flatten_cons]
    exact h.append (RelDs.rep h n)
theorem op_mulD : OpR X (binaryOp .Mult) (rOp X.K wMul) := by
  intro pins s σ H x y v u Q I rx ry h
  obtain ⟨M, w1, w2, r, e, mo, s1, s2, q⟩ := h
  unfold wMul at e
  split at e
  · rename_i i j
    refine op_mulI pins s σ H x y v u Q I rx ry ⟨M, _, _, r, ?_, mo, s1, s2, q⟩
    unfold wMulI wI2
    show Option.map Wv.val (if mulOk i j = true then some (D.int (i * j)) else none) = some r
    split at e
    · rename_i hk
      rw [if_pos hk]
      exact e
    · cases e
  · rename_i xs k
    split at e
    · rename_i hk
      rw [Bool.and_eq_true, Bool.and_eq_true] at hk
      cases e
      cases s2
      cases s1 with
      | @tup a ys _ h1 r1 =>
        have l1 := r1.length
        have z := of_decide_eq_true hk.2
        have hk1 := of_decide_eq_true hk.1.2
        have hne : ys ≠ [] := fun zz => by
          subst zz
          cases r1
          exact absurd hk.1.1 (by decide)
        refine op_repT pins s σ H _ _ v u Q I rx ry ⟨a, ys, k, rfl, rfl, h1, hne, hk1, by rw [l1]; exact z, fun e1 => ?_, fun _ p hp => q _ _ (.tup mo hp (r1.rep _))⟩
        subst e1
        have : (List.replicate (1 : Int).toNat xs).flatten = xs := by simp
        rw [this] at q
        exact q _ _ (.same mo (.tup h1 r1))
    · cases e
  · rename_i k hn hn2
    cases e1 : asL w1 with
    | none => rw [e1] at e; cases e
    | some xs =>
      rw [e1] at e
      simp only [Option.bind_some] at e
      split at e
      · rename_i hk
        rw [Bool.and_eq_true, Bool.and_eq_true] at hk
        cases e
        cases s2
        obtain ⟨a, xs', rfl, h1, r1⟩ := s1.l e1
        have l1 := r1.length
        have z := of_decide_eq_true hk.2
        exact op_rep pins s σ H _ _ v u Q I rx ry ⟨a, k, xs', rfl, rfl, h1, of_decide_eq_true hk.1.2, of_decide_eq_true hk.1.1, by rw [l1]; exact z, fun p hp => q _ _ (.lst mo hp (r1.rep _))⟩
      · cases e
  · cases e
def wNeg : Op1
  | .val (.int i) => some (.val (.int (-i)))
  | _ => none
theorem un_negD : UnR X (unaryOp .USub) (rUn X.K wNeg) := by
  intro pins s σ H x v Q I rx h
  obtain ⟨M, w, r, e, mo, s1, q⟩ := h
  unfold wNeg at e
  split at e
  · cases e
    cases s1
    exact un_neg pins s σ H _ v Q I rx ⟨_, rfl, q _ _ (.same mo (.int _))⟩
  · cases e

/-! ### in, is None -/
def flatD : D → Bool
  | .non => true | .bl _ => true | .int _ => true | .str _ => true
  | _ => false
def inD (x : D) (xs : List D) : Bool := xs.any fun y => deq y x
theorem flat_rel {K : PySem.W.Frag} {M : Ms} {H : Hp} {v : V} {d : D} (h : RelD K M H v d) (f : flatD d = true) : flatV v = true := by
  cases h <;> first | rfl | cases f
theorem flat_eq {K : PySem.W.Frag} {M : Ms} {H : Hp} {v u : V} {d e : D} (h : RelD K M H v d) (g : RelD K M H u e) (f : flatD d = true) (f' : flatD e = true) : eqV v u = deq d e := by
  cases h <;> first | (cases f; done) | skip
  all_goals (cases g <;> first | (cases f'; done) | rfl)
theorem flats_rel {K : PySem.W.Frag} {M : Ms} {H : Hp} : ∀ {vs : List V} {ds : List D}, RelDs K M H vs ds → ds.all flatD = true → vs.all flatV = true
  | _, _, .nil, _ => rfl
  | _, _, .cons h t, f => by
    rw [List.all_cons, Bool.and_eq_true] at f ⊢
    exact ⟨flat_rel h f.1, flats_rel t f.2⟩
theorem inV_rel {K : PySem.W.Frag} {M : Ms} {H : Hp} {u : V} {e : D} (g : RelD K M H u e) (f' : flatD e = true) : ∀ {vs : List V} {ds : List D}, RelDs K M H vs ds → ds.all flatD = true → inV u vs = inD e ds
  | _, _, .nil, _ => rfl
  | _, _, .cons h t, f => by
    rw [List.all_cons, Bool.and_eq_true] at f
    have ih := inV_rel g f' t f.2
    unfold inV inD at ih ⊢
    rw [List.any_cons, List.any_cons, ih, flat_eq h g f.1 f']
def wIn (neg : Bool) : Op2 := fun a b => (asS b).bind fun ds => if (flatD (fz a) && ds.all flatD) = true then some (.val (.bl (if neg then !inD (fz a) ds else inD (fz a) ds))) else none
theorem in_aux {M : Ms} {H : Hp} {x y : V} {w1 w2 r : Wv} {neg : Bool} {Q : VK} (e : wIn neg w1 w2 = some r) (mo : MOk M H) (s1 : Sh X.K M H x w1) (s2 : Sh X.K M H y w2) (q : ∀ v H', Nw X.K M H H' v r → Q v H') : rIn X.K neg x y H Q := by
  unfold wIn at e
  cases e1 : asS w2 with
  | none => rw [e1] at e; cases e
  | some ds =>
    rw [e1] at e
    simp only [Option.bind_some] at e
    split at e
    · rename_i hk
      rw [Bool.and_eq_true] at hk
      cases e
      obtain ⟨a, xs, rfl, h3, h4⟩ := s2.s e1
      have g1 := s1.fz mo
      have g2 : RelDs X.K (fun _ => False) H xs ds := h4.step mo (fun a z => z.elim) (fun _ _ e _ => e)
      refine ⟨a, xs, rfl, h3, flat_rel g1 hk.1, flats_rel g2 hk.2, ?_⟩
      rw [inV_rel g1 hk.1 g2 hk.2]
      exact q _ _ (.same mo (.bl _))
    · cases e
theorem op_inD : OpR X (compareOp .In) (rOp X.K (wIn false)) := by
  intro pins s σ H x y v u Q I rx ry h
  obtain ⟨M, w1, w2, r, e, mo, s1, s2, q⟩ := h
  exact op_in_seq pins s σ H _ _ v u Q I rx ry (in_aux e mo s1 s2 q)
theorem op_notInD : OpR X (compareOp .NotIn) (rOp X.K (wIn true)) := by
  intro pins s σ H x y v u Q I rx ry h
  obtain ⟨M, w1, w2, r, e, mo, s1, s2, q⟩ := h
  exact op_notIn_seq pins s σ H _ _ v u Q I rx ry (in_aux e mo s1 s2 q)
def isN : Wv → Bool
  | .val .non => true
  | _ => false
def wIsN (neg : Bool) : Op2 := fun a b => match b with
  | .val .non => some (.val (.bl (if neg then !isN a else isN a)))
  | _ => none
theorem isN_rel {K : PySem.W.Frag} {M : Ms} {H : Hp} {x : V} {w : Wv} (s : Sh K M H x w) : decide (x = .non) = isN w := by
  cases w with
  | own ds => obtain ⟨a, xs, rfl, _⟩ := s; rfl
  | val d => cases s <;> rfl
theorem op_isND : OpR X (compareOp .Is) (rOp X.K (wIsN false)) := by
  intro pins s σ H x y v u Q I rx ry h
  obtain ⟨M, w1, w2, r, e, mo, s1, s2, q⟩ := h
  unfold wIsN at e
  split at e
  · cases e
    cases s2
    refine op_isN pins s σ H _ _ v u Q I rx ry ⟨rfl, ?_⟩
    rw [isN_rel s1]
    exact q _ _ (.same mo (.bl _))
  · cases e

/-! ### calls of builtins -/
theorem shs_one {K : PySem.W.Frag} {M : Ms} {H : Hp} {xs : List V} {ws : List Wv} {f : Op1} {r : Wv} (h : Shs K M H xs ws) (e : o1 f ws = some r) : ∃ v w, xs = [v] ∧ ws = [w] ∧ Sh K M H v w ∧ f w = some r := by
  cases h with
  | nil => cases e
  | cons h1 t =>
    cases t with
    | cons h2 t => cases e
    | nil => exact ⟨_, _, rfl, rfl, h1, e⟩
theorem shs_two {K : PySem.W.Frag} {M : Ms} {H : Hp} {xs : List V} {ws : List Wv} {f : Op2} {r : Wv} (h : Shs K M H xs ws) (e : o2 f ws = some r) : ∃ v w v' w', xs = [v, v'] ∧ ws = [w, w'] ∧ Sh K M H v w ∧ Sh K M H v' w' ∧ f w w' = some r := by
  cases h with
  | nil => cases e
  | cons h1 t =>
    cases t with
    | nil => cases e
    | cons h2 t =>
      cases t with
      | cons h3 t => cases e
      | nil => exact ⟨_, _, _, _, rfl, rfl, h1, h2, e⟩
def wAbs : Op1
  | .val (.int i) => some (.val (.int (if i < 0 then -i else i)))
  | _ => none
theorem call_absD : CallR X (.builtin "abs") (rN X.K (o1 wAbs)) := by
  intro pins s σ H xs us Q I r h
  obtain ⟨M, ws, w, e, mo, sh, q⟩ := h
  obtain ⟨v, w1, rfl, rfl, s1, e1⟩ := shs_one sh e
  unfold wAbs at e1
  split at e1
  · cases e1
    cases s1
    exact call_abs pins s σ H _ us Q I r ⟨_, rfl, q _ _ (.same mo (.int _))⟩
  · cases e1
def wMax : Op2 := wI2 fun i j => some (.int (if j > i then j else i))
def wMin : Op2 := wI2 fun i j => some (.int (if j < i then j else i))
theorem wI2_some {f : Int → Int → Option D} {a b r : Wv} (e : wI2 f a b = some r) : ∃ i j d, a = .val (.int i) ∧ b = .val (.int j) ∧ f i j = some d ∧ r = .val d := by
  unfold wI2 at e
  split at e
  · rename_i i j
    cases e1 : f i j with
    | none => rw [e1] at e; cases e
    | some d => rw [e1] at e; cases e; exact ⟨i, j, d, rfl, rfl, e1, rfl⟩
  · cases e
theorem call_maxD (hc : X.calm = true) : CallR X (.builtin "max") (rN X.K (o2 wMax)) := by
  intro pins s σ H xs us Q I r h
  obtain ⟨M, ws, w, e, mo, sh, q⟩ := h
  obtain ⟨v, w1, v', w2, rfl, rfl, s1, s2, e1⟩ := shs_two sh e
  obtain ⟨i, j, d, rfl, rfl, e2, rfl⟩ := wI2_some e1
  cases e2; cases s1; cases s2
  exact call_max2 hc pins s σ H _ us Q I r ⟨_, _, rfl, q _ _ (.same mo (.int _))⟩
theorem call_minD (hc : X.calm = true) : CallR X (.builtin "min") (rN X.K (o2 wMin)) := by
  intro pins s σ H xs us Q I r h
  obtain ⟨M, ws, w, e, mo, sh, q⟩ := h
  obtain ⟨v, w1, v', w2, rfl, rfl, s1, s2, e1⟩ := shs_two sh e
  obtain ⟨i, j, d, rfl, rfl, e2, rfl⟩ := wI2_some e1
  cases e2; cases s1; cases s2
  exact call_min2 hc pins s σ H _ us Q I r ⟨_, _, rfl, q _ _ (.same mo (.int _))⟩
def wTuple : Op1 := fun w => (asS w).map fun ds => .val (.tup ds)
theorem call_tupleD : CallR X (.type "tuple") (rN X.K (o1 wTuple)) := by
  intro pins s σ H xs us Q I r h
  obtain ⟨M, ws, w, e, mo, sh, q⟩ := h
  obtain ⟨v, w1, rfl, rfl, s1, e1⟩ := shs_one sh e
  unfold wTuple at e1
  cases e2 : asS w1 with
  | none => rw [e2] at e1; cases e1
  | some ds =>
    rw [e2] at e1
    cases e1
    obtain ⟨a, ys, rfl, h3, h4⟩ := s1.s e2
    refine call_tuple_of pins s σ H _ us Q I r ⟨a, ys, rfl, ?_⟩
    rcases h3 with h3 | h3
    · exact .inl ⟨h3, fun l hl => q _ _ (.tup mo hl h4)⟩
    · exact .inr ⟨h3, q _ _ (.same mo (.tup h3 h4))⟩
def wList : Op1 := fun w => (asS w).map fun ds => .own ds
theorem call_listD : CallR X (.type "list") (rN X.K (o1 wList)) := by
  intro pins s σ H xs us Q I r h
  obtain ⟨M, ws, w, e, mo, sh, q⟩ := h
  obtain ⟨v, w1, rfl, rfl, s1, e1⟩ := shs_one sh e
  unfold wList at e1
  cases e2 : asS w1 with
  | none => rw [e2] at e1; cases e1
  | some ds =>
    rw [e2] at e1
    cases e1
    obtain ⟨a, ys, rfl, h3, h4⟩ := s1.s e2
    exact call_list_of pins s σ H _ us Q I r ⟨a, ys, rfl, h3, fun l hl => q _ _ (.lst mo hl h4)⟩
def wInt : Op1
  | .val (.int i) => some (.val (.int i))
  | .val (.bl b) => some (.val (.int (if b then 1 else 0)))
  | _ => none
theorem call_intD : CallR X (.type "int") (rN X.K (o1 wInt)) := by
  intro pins s σ H xs us Q I r h
  obtain ⟨M, ws, w, e, mo, sh, q⟩ := h
  obtain ⟨v, w1, rfl, rfl, s1, e1⟩ := shs_one sh e
  unfold wInt at e1
  split at e1
  · cases e1; cases s1
    exact call_int1 pins s σ H _ us Q I r (.inl ⟨_, rfl, q _ _ (.same mo (.int _))⟩)
  · cases e1; cases s1
    exact call_int1 pins s σ H _ us Q I r (.inr ⟨_, rfl, q _ _ (.same mo (.int _))⟩)
  · cases e1
def wStr : Op1
  | .val (.int i) => if i.natAbs.log2 < 1920 then some (.val (.str (toString i))) else none
  | _ => none
theorem call_strD : CallR X (.type "str") (rN X.K (o1 wStr)) := by
  intro pins s σ H xs us Q I r h
  obtain ⟨M, ws, w, e, mo, sh, q⟩ := h
  obtain ⟨v, w1, rfl, rfl, s1, e1⟩ := shs_one sh e
  unfold wStr at e1
  split at e1
  · split at e1
    · cases e1; cases s1
      exact call_str_int pins s σ H _ us Q I r ⟨_, rfl, by assumption, q _ _ (.same mo (.str _))⟩
    · cases e1
  · cases e1
def blD : D → Option Bool
  | .bl b => some b
  | _ => none
def bls (ds : List D) : Option (List Bool) := ds.mapM blD
theorem bls_rel {K : PySem.W.Frag} {M : Ms} {H : Hp} : ∀ {vs : List V} {ds : List D} {bs : List Bool}, RelDs K M H vs ds → bls ds = some bs → vs = bs.map V.bl
  | _, _, bs, .nil, e => by cases e; rfl
  | _, _, bs, .cons (d := d) (ds := ds) h t, e => by
    unfold bls at e
    rw [List.mapM_cons] at e
    cases e1 : blD d with
    | none => rw [e1] at e; cases e
    | some b =>
      rw [e1] at e
      cases e2 : ds.mapM blD with
      | none => rw [e2] at e; cases e
      | some cs =>
        rw [e2] at e
        cases e
        have hd : d = .bl b := by
          cases d <;> first | (cases e1; done) | skip
          cases e1; rfl
        subst hd
        cases h
        rw [List.map_cons, ← bls_rel t e2]
def wAll : Op1 := fun w => (asL w).bind fun ds => (bls ds).map fun bs => .val (.bl (bs.all id))
theorem call_allD (hc : X.calm = true) : CallR X (.builtin "all") (rN X.K (o1 wAll)) := by
  intro pins s σ H xs us Q I r h
  obtain ⟨M, ws, w, e, mo, sh, q⟩ := h
  obtain ⟨v, w1, rfl, rfl, s1, e1⟩ := shs_one sh e
  unfold wAll at e1
  cases e2 : asL w1 with
  | none => rw [e2] at e1; cases e1
  | some ds =>
    rw [e2] at e1
    simp only [Option.bind_some] at e1
    cases e3 : bls ds with
    | none => rw [e3] at e1; cases e1
    | some bs =>
      rw [e3] at e1
      cases e1
      obtain ⟨a, ys, rfl, h3, h4⟩ := s1.l e2
      exact St.call_allL hc pins s σ H _ us Q I r ⟨a, bs, rfl, by rw [← bls_rel h4 e3]; exact .of h3, q _ _ (.same mo (.bl _))⟩

/-! ### isinstance -/
def kdW : Wv → Option St.Kd
  | .own _ => some .lst
  | .val .non => some .non | .val (.bl _) => some .bl | .val (.int _) => some .int | .val (.str _) => some .str | .val (.lst _) => some .lst | .val (.dct _) => some .dct | .val (.tup _) => some .tup
  | .val (.ty _) => none | .val (.scr _) => none
end
end Mi
end
section
set_option Elab.async false
set_option linter.all false
set_option maxRecDepth 100000
set_option maxHeartbeats 4000000
namespace Mi
open PySem PySem.Spec L2
section
variable {X : Cx}
theorem kit_list {K : PySem.W.Frag} (k : St.Kd) : PySem.W.kitOne K (.type k.ty) (.type "list") = some (k.isA "list") := by
  cases k <;> rfl
def isiOk (T : String) : Bool := T == "int" || T == "bool" || T == "tuple" || T == "str" || T == "list"
theorem kit_ok {K : PySem.W.Frag} {T : String} (h : isiOk T = true) (k : St.Kd) : PySem.W.kitOne K (.type k.ty) (.type T) = some (k.isA T) := by
  unfold isiOk at h
  simp only [Bool.or_eq_true, beq_iff_eq] at h
  rcases h with (((rfl | rfl) | rfl) | rfl) | rfl
  · exact St.kit_int k
  · exact St.kit_bool k
  · exact St.kit_tuple k
  · exact St.kit_str k
  · exact kit_list k
def wIsi : Op2 := fun a t => match t with
  | .val (.ty T) => if isiOk T = true then (kdW a).map fun k => .val (.bl (k.isA T)) else none
  | _ => none
theorem call_isiD : CallR X (.builtin "isinstance") (rN X.K (o2 wIsi)) := by
  intro pins s σ H xs us Q I r h
  obtain ⟨M, ws, w, e, mo, sh, q⟩ := h
  obtain ⟨v, w1, v', w2, rfl, rfl, s1, s2, e1⟩ := shs_two sh e
  unfold wIsi at e1
  split at e1
  · rename_i T
    split at e1
    · rename_i hT
      cases e2 : kdW w1 with
      | none => rw [e2] at e1; cases e1
      | some k =>
        rw [e2] at e1
        cases e1
        cases s2
        obtain ⟨u1, u2, rfl, r1, r2⟩ := r.two
        cases (show u2 = Value.type T from r2)
        have fin : ∀ tk, EP X pins σ Q (.bool (k.isA T)) { s with toks := tk } := fun tk => ⟨.bl _, H, I.tok tk, rfl, q _ _ (.same mo (.bl _))⟩
        have kk := kit_ok (K := X.K) hT k
        cases w1 with
        | own ds =>
          cases e2
          obtain ⟨a, ys, rfl, h1, _⟩ := s1
          exact isinst_ok I r1 (.lst h1) kk fin
        | val d =>
          have s1' : RelD X.K M H v d := s1
          cases s1' with
          | non => cases e2; exact isinst_ok I r1 .non kk fin
          | bl b => cases e2; exact isinst_ok I r1 (.bl b) kk fin
          | int b => cases e2; exact isinst_ok I r1 (.int b) kk fin
          | str b => cases e2; exact isinst_ok I r1 (.str b) kk fin
          | ty b => cases e2
          | scr h => cases e2
          | lst h n rr => cases e2; exact isinst_ok I r1 (.lst h) kk fin
          | dct h rr => cases e2; exact isinst_ok I r1 (.dK h) kk fin
          | tup h rr =>
            cases e2
            rename_i a ys ds
            cases (show u1 = Value.ref a from r1)
            obtain ⟨its, _, ⟨o, h1, h2, _⟩, _⟩ := I.tuple h
            exact PySem.W.kia_one PySem.W.kitx_tuple I.kIn ⟨o, h1, h2⟩ kk (fun z => nomatch z) fin
    · cases e1
  · cases e1

/-! ### displays -/
def valD : Wv → Option D
  | .val d => some d
  | _ => none
theorem tOs_mono {K : PySem.W.Frag} {σ : Sg} : ∀ {os : List Opd} {H : Hp} {Q Q' : List V → Hp → Prop}, tOs K os σ H Q → (∀ vs H', Q vs H' → Q' vs H') → tOs K os σ H Q'
  | [], _, _, _, h, m => m _ _ h
  | o :: os, _, _, _, h, m => tO_mono (o := o) h fun v H1 z => tOs_mono z fun vs H2 z2 => m _ _ z2
theorem shs_vals {K : PySem.W.Frag} {M : Ms} {H : Hp} : ∀ {vs : List V} {ws : List Wv} {ds : List D}, Shs K M H vs ws → ws.mapM valD = some ds → RelDs K M H vs ds
  | _, _, ds, .nil, e => by cases e; exact .nil
  | _, _, ds, .cons (w := w) (ws := ws) h t, e => by
    rw [List.mapM_cons] at e
    cases w with
    | own es => cases e
    | val d =>
      cases e2 : ws.mapM valD with
      | none =>
        have e' : (do let r ← some d; let rs ← ws.mapM valD; pure (r :: rs)) = some ds := e
        rw [e2] at e'; cases e'
      | some cs =>
        have e' : (do let r ← some d; let rs ← ws.mapM valD; pure (r :: rs)) = some ds := e
        rw [e2] at e'
        cases e'
        exact .cons h (shs_vals t e2)
def wTup : OpN := fun ws => (ws.mapM valD).bind fun ds => if ds.length ≤ sizeLine then some (.val (.tup ds)) else none
def wLst : OpN := fun ws => (ws.mapM valD).bind fun ds => if ds.length ≤ sizeLine then some (.own ds) else none
theorem de_tup {es : List Expr} {os : List Opd} {k : Nat} {pos : Pos} (h : DOs X es os) : DE X (.Tuple es k pos) (eOp wTup os) := ⟨pe_mono (pe_tup h.pe) fun σ H Q z => by
  obtain ⟨F, E, w, E', e, r, q⟩ := z
  refine tOs_mono (eOp_ok e r q) fun vs H1 z => ?_
  obtain ⟨M, ws, w', e1, mo, sh, q1⟩ := z
  unfold wTup at e1
  cases e2 : ws.mapM valD with
  | none => rw [e2] at e1; cases e1
  | some ds =>
    rw [e2] at e1
    simp only [Option.bind_some] at e1
    split at e1
    · cases e1
      have rr := shs_vals sh e2
      exact ⟨by rw [rr.length]; assumption, fun p hp => q1 _ _ (.tup mo hp rr)⟩
    · cases e1⟩
theorem de_lst {es : List Expr} {os : List Opd} {pos : Pos} (h : DOs X es os) : DE X (.List es pos) (eOp wLst os) := ⟨pe_mono (pe_lst h.pe) fun σ H Q z => by
  obtain ⟨F, E, w, E', e, r, q⟩ := z
  refine tOs_mono (eOp_ok e r q) fun vs H1 z => ?_
  obtain ⟨M, ws, w', e1, mo, sh, q1⟩ := z
  unfold wLst at e1
  cases e2 : ws.mapM valD with
  | none => rw [e2] at e1; cases e1
  | some ds =>
    rw [e2] at e1
    simp only [Option.bind_some] at e1
    split at e1
    · cases e1
      have rr := shs_vals sh e2
      exact ⟨by rw [rr.length]; assumption, fun p hp => q1 _ _ (.lst mo hp rr)⟩
    · cases e1⟩

/-! ### one behind the other -/
theorem Post.after {K : PySem.W.Frag} {F : Ms} {E E1 E2 : En} {σ : Sg} {H H1 H2 : Hp} {w : Wv} {v : V} (x : Ext (Own E σ) H H1) (s : ∀ a, Own E1 σ a → Own E σ a) (l : Lk E E1) (p : Post K F E1 σ H1 w E2 v H2) : Post K F E σ H w E2 v H2 := by
  refine ⟨p.env, x.trans p.ext fun a z => .inl (s a z), fun a z => s a (p.sub a z), ?_, l.trans p.lk⟩
  have r := p.rel
  cases w with
  | val d => exact r
  | own ds =>
    obtain ⟨a, xs, rfl, h1, h2, h3⟩ := r
    refine ⟨a, xs, rfl, ?_, h2, h3⟩
    cases h : H a with
    | none => rfl
    | some o => exact absurd h1 (x.some a (by rw [h]; intro z; cases z))
/-- a truth -/
def eAnd (f g : Ev) : Ev := fun E => (f E).bind fun r => match r.1 with
  | .val (.bl true) => g r.2
  | .val (.bl false) => some (.val (.bl false), r.2)
  | _ => none
def eOr (f g : Ev) : Ev := fun E => (f E).bind fun r => match r.1 with
  | .val (.bl false) => g r.2
  | .val (.bl true) => some (.val (.bl true), r.2)
  | _ => none
def eNot (f : Ev) : Ev := fun E => (f E).bind fun r => match r.1 with
  | .val (.bl b) => some (.val (.bl (!b)), r.2)
  | _ => none
def eIf (c f g : Ev) : Ev := fun E => (c E).bind fun r => match r.1 with
  | .val (.bl true) => f r.2
  | .val (.bl false) => g r.2
  | _ => none
theorem post_bl {K : PySem.W.Frag} {F : Ms} {E E1 : En} {σ : Sg} {H H1 : Hp} {v : V} {b : Bool} (p : Post K F E σ H (.val (.bl b)) E1 v H1) : v = .bl b ∧ EnvR K F E1 σ H1 := by
  have r : RelD _ _ _ v (.bl b) := p.rel
  cases r
  exact ⟨rfl, p.env.weak fun a z => .inl z⟩
theorem mk_bl {K : PySem.W.Frag} {F : Ms} {E E1 : En} {σ : Sg} {H H1 : Hp} {c : Bool} (b : Bool) (x : Ext (Own E σ) H H1) (s : ∀ a, Own E1 σ a → Own E σ a) (l : Lk E E1) (r : EnvR K F E1 σ H1) : Post K F E σ H (.val (.bl b)) E1 (.bl b) H1 := (post_same r (.bl b)).after x s l
variable {a b c : Expr} {rest : List Expr} {f g h : Ev} {pos : Pos}
theorem bindE {α β : Type} {o : Option α} {k : α → Option β} {y : β} (e : o.bind k = some y) : ∃ x, o = some x ∧ k x = some y := by
  cases o with
  | none => cases e
  | some x => exact ⟨x, rfl, e⟩
theorem de_one {op : BoolOp} (h : DE X a f) : DE X (.BoolOp op [a] pos) f := ⟨pe_one h.pe⟩
theorem de_and (ha : DE X a f) (hb : DE X (.BoolOp .And (b :: rest) pos) g) : DE X (.BoolOp .And (a :: b :: rest) pos) (eAnd f g) := ⟨pe_mono (pe_and ha.pe hb.pe) fun σ H Q z => by
  obtain ⟨F, E, w, E', e, r, q⟩ := z
  obtain ⟨⟨w1, E1⟩, e1, e⟩ := bindE e
  dsimp only at e
  split at e
  · refine ⟨F, E, _, E1, e1, r, fun v H1 p1 => ?_⟩
    obtain ⟨rfl, r1⟩ := post_bl p1
    refine ⟨_, rfl, ?_⟩
    refine iteT ?_
    exact ⟨F, E1, w, E', e, r1, fun v H2 p2 => q _ _ (p2.after p1.ext p1.sub p1.lk)⟩
  · cases e
    refine ⟨F, E, _, _, e1, r, fun v H1 p1 => ?_⟩
    obtain ⟨rfl, r1⟩ := post_bl p1
    refine ⟨_, rfl, ?_⟩
    refine iteF ?_
    exact q _ _ p1
  · cases e⟩
theorem de_or (ha : DE X a f) (hb : DE X (.BoolOp .Or (b :: rest) pos) g) : DE X (.BoolOp .Or (a :: b :: rest) pos) (eOr f g) := ⟨pe_mono (pe_or ha.pe hb.pe) fun σ H Q z => by
  obtain ⟨F, E, w, E', e, r, q⟩ := z
  obtain ⟨⟨w1, E1⟩, e1, e⟩ := bindE e
  dsimp only at e
  split at e
  · refine ⟨F, E, _, E1, e1, r, fun v H1 p1 => ?_⟩
    obtain ⟨rfl, r1⟩ := post_bl p1
    refine ⟨_, rfl, ?_⟩
    refine iteF ?_
    exact ⟨F, E1, w, E', e, r1, fun v H2 p2 => q _ _ (p2.after p1.ext p1.sub p1.lk)⟩
  · cases e
    refine ⟨F, E, _, _, e1, r, fun v H1 p1 => ?_⟩
    obtain ⟨rfl, r1⟩ := post_bl p1
    refine ⟨_, rfl, ?_⟩
    refine iteT ?_
    exact q _ _ p1
  · cases e⟩
theorem de_not (ha : DE X a f) : DE X (.UnaryOp .Not a pos) (eNot f) := ⟨pe_mono (pe_not ha.pe) fun σ H Q z => by
  obtain ⟨F, E, w, E', e, r, q⟩ := z
  obtain ⟨⟨w1, E1⟩, e1, e⟩ := bindE e
  dsimp only at e
  split at e
  · cases e
    refine ⟨F, E, _, _, e1, r, fun v H1 p1 => ?_⟩
    obtain ⟨rfl, r1⟩ := post_bl p1
    exact ⟨_, rfl, q _ _ (mk_bl (c := true) _ p1.ext p1.sub p1.lk r1)⟩
  · cases e⟩

/-! ### tests -/
def tDT (K : PySem.W.Frag) (f : Ev) : TT := fun σ H Q => ∃ F E b E', f E = some (.val (.bl b), E') ∧ EnvR K F E σ H ∧ ∀ H', EnvR K F E' σ H' → Ext (Own E σ) H H' → (∀ a, Own E' σ a → Own E σ a) → Lk E E' → Q b H'
structure DT (X : Cx) (e : Expr) (f : Ev) : Prop where
  pe : PT X e (tDT X.K f)
structure DW (X : Cx) (e : Expr) (f : Ev) : Prop where
  pe : PW X e (tDT X.K f)
theorem DW.dt (h : DW X a f) : DT X a f := ⟨PW.pt h.pe⟩
theorem dt_of {t : TE} (h : PT X a (tTest t)) (m : ∀ σ H Q, tD X.K f σ H Q → t σ H Q) : DT X a f := ⟨pt_mono h fun σ H Q z => by
  obtain ⟨F, E, b, E', e, r, q⟩ := z
  refine m _ _ _ ⟨F, E, _, E', e, r, fun v H1 p1 => ?_⟩
  obtain ⟨rfl, r1⟩ := post_bl p1
  exact ⟨_, rfl, q _ r1 p1.ext p1.sub p1.lk⟩⟩
theorem dt_val (h : DE X a f) (he : ∀ whole, isTrue a X.env whole = (do let v ← whole; standAt a.pos; holding [v] (truthy v)) := by intro _; rfl) : DT X a f := dt_of (t := tD X.K f) (pt_val h.pe he) fun _ _ _ z => z
theorem dt_cmp {oa ob : Opd} {op : CmpOp} {f : Op2} (ho : OpR X (compareOp op) (rOp X.K f)) (ha : DO X a oa) (hb : DO X b ob) (hm : behindInMarks op b = false := by rfl) : DT X (.Compare a [op] [b] pos) (eOp (o2 f) [oa, ob]) :=
  dt_of (pt_cmpR ho ha.pe hb.pe hm) fun _ _ _ h => two_of h
theorem dt_not (ha : DT X a f) : DT X (.UnaryOp .Not a pos) (eNot f) := ⟨pt_mono (pt_not ha.pe) fun σ H Q z => by
  obtain ⟨F, E, b, E', e, r, q⟩ := z
  obtain ⟨⟨w1, E1⟩, e1, e⟩ := bindE e
  dsimp only at e
  split at e
  · cases e
    exact ⟨F, E, _, _, e1, r, q⟩
  · cases e⟩
theorem dw_and1 (ha : DT X a f) : DW X (.BoolOp .And [a] pos) f := ⟨pw_and1 ha.pe⟩
theorem dw_or1 (ha : DT X a f) : DW X (.BoolOp .Or [a] pos) f := ⟨pw_or1 ha.pe⟩
theorem pw_mono {e : Expr} {t t' : TT} (h : PW X e t) (m : ∀ σ H Q, t' σ H Q → t σ H Q) : PW X e t' := fun wh pins s σ H Q I q => h wh pins s σ H Q I (m _ _ _ q)
theorem dw_and (ha : DT X a f) (hb : DW X (.BoolOp .And (b :: rest) pos) g) : DW X (.BoolOp .And (a :: b :: rest) pos) (eAnd f g) := ⟨pw_mono (pw_and ha.pe hb.pe) fun σ H Q z => by
  obtain ⟨F, E, k, E', e, r, q⟩ := z
  obtain ⟨⟨w1, E1⟩, e1, e⟩ := bindE e
  dsimp only at e
  split at e
  · refine ⟨F, E, _, E1, e1, r, fun H1 r1 x1 s1 l1 => ?_⟩
    refine iteT ?_
    exact ⟨F, E1, k, E', e, r1, fun H2 r2 x2 s2 l2 => q _ r2 (x1.trans x2 fun a z => .inl (s1 a z)) (fun a z => s1 a (s2 a z)) (l1.trans l2)⟩
  · cases e
    refine ⟨F, E, _, _, e1, r, fun H1 r1 x1 s1 l1 => ?_⟩
    refine iteF ?_
    exact q _ r1 x1 s1 l1
  · cases e⟩
theorem dw_or (ha : DT X a f) (hb : DW X (.BoolOp .Or (b :: rest) pos) g) : DW X (.BoolOp .Or (a :: b :: rest) pos) (eOr f g) := ⟨pw_mono (pw_or ha.pe hb.pe) fun σ H Q z => by
  obtain ⟨F, E, k, E', e, r, q⟩ := z
  obtain ⟨⟨w1, E1⟩, e1, e⟩ := bindE e
  dsimp only at e
  split at e
  · refine ⟨F, E, _, E1, e1, r, fun H1 r1 x1 s1 l1 => ?_⟩
    refine iteF ?_
    exact ⟨F, E1, k, E', e, r1, fun H2 r2 x2 s2 l2 => q _ r2 (x1.trans x2 fun a z => .inl (s1 a z)) (fun a z => s1 a (s2 a z)) (l1.trans l2)⟩
  · cases e
    refine ⟨F, E, _, _, e1, r, fun H1 r1 x1 s1 l1 => ?_⟩
    refine iteT ?_
    exact q _ r1 x1 s1 l1
  · cases e⟩
end
end Mi
end
section
set_option Elab.async false
set_option linter.all false
set_option maxRecDepth 100000
set_option maxHeartbeats 4000000
namespace Mi
open PySem PySem.Spec L2
inductive Fl where
  | nx
  | ret (w : Wv)
abbrev Ex := En → Option (Fl × En)

/-- a frame between its entry and now -/
structure FR (K : PySem.W.Frag) (F : Ms) (E₀ : En) (σ₀ : Sg) (H₀ : Hp) (E : En) (σ : Sg) (H : Hp) : Prop where
  env : EnvR K F E σ H
  ext : Ext (Own E₀ σ₀) H₀ H
  loc : ∀ a, Own E σ a → Own E₀ σ₀ a ∨ H₀ a = none
  keep : ∀ (i : Nat) (es : List D), E₀[i]? = some (some (.own es)) → σ[i]? = σ₀[i]? ∧ isL E i
structure Ret (K : PySem.W.Frag) (F : Ms) (E₀ : En) (σ₀ : Sg) (H₀ : Hp) (E : En) (σ : Sg) (H : Hp) (w : Wv) (v : V) : Prop where
  fr : FR K (F.or (tmp v w)) E₀ σ₀ H₀ E σ H
  rel : RelW K ((F.or (tmp v w)).or (Own E σ)) H₀ H v w
/-- from one state of a frame to a later one -/
structure Mv (E : En) (σ : Sg) (H : Hp) (E' : En) (σ' : Sg) (H' : Hp) : Prop where
  ext : Ext (Own E σ) H H'
  loc : ∀ a, Own E' σ' a → Own E σ a ∨ H a = none
theorem Mv.refl {E : En} {σ : Sg} {H : Hp} : Mv E σ H E σ H := ⟨.refl, fun _ z => .inl z⟩
theorem Ext.none {O : Ms} {H H' : Hp} (x : Ext O H H') {a : Addr} (h : H' a = none) : H a = none := by
  cases e : H a with
  | none => rfl
  | some o => exact absurd h (x.some a (by rw [e]; intro z; cases z))
theorem Mv.trans {E E1 E2 : En} {σ σ1 σ2 : Sg} {H H1 H2 : Hp} (h : Mv E σ H E1 σ1 H1) (g : Mv E1 σ1 H1 E2 σ2 H2) : Mv E σ H E2 σ2 H2 :=
  ⟨h.ext.trans g.ext h.loc, fun a z => (g.loc a z).elim (h.loc a) fun z => .inr (h.ext.none z)⟩
def End (K : PySem.W.Frag) (F : Ms) (E₀ : En) (σ₀ : Sg) (H₀ : Hp) (Dn : Ends) (E : En) (σ : Sg) (H : Hp) (E' : En) : Fl → Prop
  | .nx => ∀ σ' H', FR K F E₀ σ₀ H₀ E' σ' H' → Mv E σ H E' σ' H' → Dn.nx σ' H'
  | .ret w => ∀ v σ' H', Ret K F E₀ σ₀ H₀ E' σ' H' w v → Dn.rt v H'
def tX (K : PySem.W.Frag) (n : Nat) (f : Ex) : TS := fun Dn σ H => ∃ F E₀ σ₀ H₀ E fl E', E₀.length ≤ n ∧ f E = some (fl, E') ∧ EnvR K F E₀ σ₀ H₀ ∧ FR K F E₀ σ₀ H₀ E σ H ∧ End K F E₀ σ₀ H₀ Dn E σ H E' fl
structure DS (X : Cx) (n : Nat) (st : Stmt) (f : Ex) : Prop where
  pe : PS X st (tX X.K n f)
structure DSs (X : Cx) (n : Nat) (st : List Stmt) (f : Ex) : Prop where
  pe : PSs X st (tX X.K n f)
theorem ps_mono {X : Cx} {e : Stmt} {t t' : TS} (h : PS X e t) (m : ∀ Dn σ H, t' Dn σ H → t Dn σ H) : PS X e t' := fun pins s σ H Dn I q => h pins s σ H Dn I (m _ _ _ q)
theorem pss_mono {X : Cx} {e : List Stmt} {t t' : TS} (h : PSs X e t) (m : ∀ Dn σ H, t' Dn σ H → t Dn σ H) : PSs X e t' := fun pins s σ H Dn I q => h pins s σ H Dn I (m _ _ _ q)

section
variable {K : PySem.W.Frag} {F : Ms} {E₀ E E1 : En} {σ₀ σ : Sg} {H₀ H H1 : Hp} {w : Wv} {v : V}
/-- behind an expression -/
theorem FR.expr (r : FR K F E₀ σ₀ H₀ E σ H) (en : EnvR K F E1 σ H1) (x : Ext (Own E σ) H H1) (s : ∀ a, Own E1 σ a → Own E σ a) (l : Lk E E1) : FR K F E₀ σ₀ H₀ E1 σ H1 :=
  ⟨en, r.ext.trans x r.loc, fun a z => r.loc a (s a z), fun i es e => ⟨(r.keep i es e).1, l i (r.keep i es e).2⟩⟩
theorem FR.post (r : FR K F E₀ σ₀ H₀ E σ H) (p : Post K F E σ H w E1 v H1) : Ret K F E₀ σ₀ H₀ E1 σ H1 w v := by
  refine ⟨⟨p.env, r.ext.trans p.ext r.loc, fun a z => r.loc a (p.sub a z), fun i es e => ⟨(r.keep i es e).1, p.lk i (r.keep i es e).2⟩⟩, ?_⟩
  have q := p.rel
  cases w with
  | val d => exact q
  | own ds =>
    obtain ⟨a, xs, rfl, h1, h2, h3⟩ := q
    refine ⟨a, xs, rfl, ?_, h2, h3⟩
    cases h : H₀ a with
    | none => rfl
    | some o => exact absurd h1 (r.ext.some a (by rw [h]; intro z; cases z))
theorem FR.drop (r : Ret K F E₀ σ₀ H₀ E σ H w v) : FR K F E₀ σ₀ H₀ E σ H := ⟨r.fr.env.weak fun a z => .inl z, r.fr.ext, r.fr.loc, r.fr.keep⟩
end

theorem End.later {K : PySem.W.Frag} {F : Ms} {E₀ E E1 E' : En} {σ₀ σ σ1 : Sg} {H₀ H H1 : Hp} {Dn : Ends} {fl : Fl} (q : End K F E₀ σ₀ H₀ Dn E σ H E' fl) (m : Mv E σ H E1 σ1 H1) : End K F E₀ σ₀ H₀ Dn E1 σ1 H1 E' fl := by
  cases fl with
  | nx => exact fun σ' H' r m' => q σ' H' r (m.trans m')
  | ret w => exact q
/-! ### blocks -/
def xSeq (f g : Ex) : Ex := fun E => (f E).bind fun r => match r.1 with
  | .nx => g r.2
  | .ret w => some (.ret w, r.2)
def xNil : Ex := fun E => some (.nx, E)
section
variable {X : Cx} {n : Nat} {st : Stmt} {rest a b : List Stmt} {f g h : Ex} {c e : Expr} {k : Ev} {pos : Pos}
theorem dss_nil : DSs X n [] xNil := ⟨pss_mono pss_nil fun Dn σ H z => by
  obtain ⟨F, E₀, σ₀, H₀, E, fl, E', hn, e, r0, r, q⟩ := z
  cases e
  exact q _ _ r .refl⟩
theorem dss_cons (h1 : DS X n st f) (h2 : DSs X n rest g) : DSs X n (st :: rest) (xSeq f g) := ⟨pss_mono (pss_cons h1.pe h2.pe) fun Dn σ H z => by
  obtain ⟨F, E₀, σ₀, H₀, E, fl, E', hn, e, r0, r, q⟩ := z
  obtain ⟨⟨f1, E1⟩, e1, e⟩ := bindE e
  dsimp only at e
  split at e
  · exact ⟨F, E₀, σ₀, H₀, E, .nx, E1, hn, e1, r0, r, fun σ1 H1 r1 m1 => ⟨F, E₀, σ₀, H₀, E1, fl, E', hn, e, r0, r1, q.later m1⟩⟩
  · cases e
    exact ⟨F, E₀, σ₀, H₀, E, .ret _, _, hn, e1, r0, r, q⟩⟩
theorem dss_one (h1 : DS X n st f) : DSs X n [st] f := ⟨pss_one h1.pe⟩
def xIf (c : Ev) (f g : Ex) : Ex := fun E => (c E).bind fun r => match r.1 with
  | .val (.bl true) => f r.2
  | .val (.bl false) => g r.2
  | _ => none
theorem ds_if (hc : DT X c k) (ha : DSs X n a f) (hb : DSs X n b g) : DS X n (.If c a b pos) (xIf k f g) := ⟨ps_mono (ps_if hc.pe ha.pe hb.pe) fun Dn σ H z => by
  obtain ⟨F, E₀, σ₀, H₀, E, fl, E', hn, e, r0, r, q⟩ := z
  obtain ⟨⟨w1, E1⟩, e1, e⟩ := bindE e
  dsimp only at e
  split at e
  · refine ⟨F, E, _, E1, e1, r.env, fun H1 r1 x1 s1 l1 => ?_⟩
    refine iteT ?_
    exact ⟨F, E₀, σ₀, H₀, E1, fl, E', hn, e, r0, r.expr r1 x1 s1 l1, q.later ⟨x1, fun a z => .inl (s1 a z)⟩⟩
  · refine ⟨F, E, _, E1, e1, r.env, fun H1 r1 x1 s1 l1 => ?_⟩
    refine iteF ?_
    exact ⟨F, E₀, σ₀, H₀, E1, fl, E', hn, e, r0, r.expr r1 x1 s1 l1, q.later ⟨x1, fun a z => .inl (s1 a z)⟩⟩
  · cases e⟩
/-! return -/
def xRet (k : Ev) : Ex := fun E => (k E).map fun r => (.ret r.1, r.2)
theorem ds_ret (h : DE X e k) : DS X n (.Return (some e) pos) (xRet k) := ⟨ps_mono (ps_ret h.pe) fun Dn σ H z => by
  obtain ⟨F, E₀, σ₀, H₀, E, fl, E', hn, e, r0, r, q⟩ := z
  unfold xRet at e
  cases e1 : k E with
  | none => rw [e1] at e; cases e
  | some p =>
    rw [e1] at e
    cases e
    exact ⟨F, E, _, _, e1, r.env, fun v H1 p1 => q _ _ _ (r.post p1)⟩⟩
/-- return of a name: a list of the frame's own goes along -/
def xRetV (n i : Nat) : Ex := fun E => (at? E i).bind fun w => match w with
  | .own ds => if n ≤ i then some (.ret (.own ds), E.set i none) else some (.ret (.val (.lst ds)), E.set i (some (.val (.lst ds))))
  | .val d => some (.ret (.val d), E)
end
section
variable {K : PySem.W.Frag} {F : Ms} {E₀ E E1 : En} {σ₀ σ : Sg} {H₀ H H1 : Hp} {i n : Nat} {a : Addr} {ds : List D} {xs : List V}
theorem own_unset {b : Addr} (z : Own (E.set i none) σ b) : Own E σ b := by
  obtain ⟨j, es, e1, e2⟩ := z
  rw [List.getElem?_set] at e1
  split at e1
  · split at e1 <;> cases e1
  · exact ⟨j, es, e1, e2⟩
theorem FR.move (r : FR K F E₀ σ₀ H₀ E σ H) (r0 : EnvR K F E₀ σ₀ H₀) (hn : E₀.length ≤ n) (hi : n ≤ i) (e : E[i]? = some (some (.own ds))) (es : σ[i]? = some (some (.ref a))) : Ret K F E₀ σ₀ H₀ (E.set i none) σ H (.own ds) (.ref a) := by
  obtain ⟨a', xs, h1, h2, h3, h4⟩ := r.env.own i ds e
  rw [es] at h1; cases h1
  have hO : Own E σ a := ⟨i, ds, e, es⟩
  have new : H₀ a = none := by
    rcases r.loc a hO with z | z
    · obtain ⟨j, fs, e1, e2⟩ := z
      have hj : j < n := by
        rcases List.getElem?_eq_some_iff.mp e1 with ⟨h, _⟩
        omega
      obtain ⟨k1, k2⟩ := r.keep j fs e1
      rw [e2] at k1
      obtain ⟨gs, k2⟩ := k2
      rcases k2 with k2 | k2
      · have := r.env.inj i j ds gs a e k2 es k1
        omega
      · obtain ⟨v', q1, q2⟩ := r.env.val j _ k2
        rw [k1] at q1; cases q1
        cases q2 with
        | lst _ nn _ => exact absurd (.inr hO) nn
    · exact z
  have g : ∀ b, ((F.or (tmp (.ref a) (.own ds))).or (Own (E.set i none) σ)) b → (F.or (Own E σ)) b ∨ H b = none := fun b z => .inl (z.elim (fun z => z.elim .inl fun z => .inr (by have z' : V.ref a = .ref b := z; cases z'; exact hO)) fun z => .inr (own_unset z))
  have nO : ¬ Own (E.set i none) σ a := fun z => by
    obtain ⟨j, fs, e1, e2⟩ := z
    rw [List.getElem?_set] at e1
    split at e1
    · split at e1 <;> cases e1
    · rename_i hij
      exact hij (r.env.inj i j ds fs a e e1 es e2)
  refine ⟨⟨⟨by rw [List.length_set]; exact r.env.len, fun j d ej => ?_, fun j fs ej => ?_, fun j k fs gs b ej ek => ?_, fun b z => ?_⟩, r.ext, fun b z => r.loc b (own_unset z), fun j fs ej => ?_⟩, a, xs, rfl, new, h2, h3.step r.env.moO g fun _ _ e _ => e⟩
  · rw [List.getElem?_set] at ej
    split at ej
    · split at ej <;> cases ej
    · obtain ⟨v', q1, q2⟩ := r.env.val j d ej
      exact ⟨v', q1, q2.step r.env.moO g fun _ _ e _ => e⟩
  · rw [List.getElem?_set] at ej
    split at ej
    · split at ej <;> cases ej
    · rename_i hij
      obtain ⟨b, ys, q1, q2, q3, q4⟩ := r.env.own j fs ej
      refine ⟨b, ys, q1, q2, q3.step r.env.moO g fun _ _ e _ => e, fun z => z.elim q4 fun z => ?_⟩
      have z' : V.ref a = .ref b := z
      cases z'
      exact hij (r.env.inj i j ds fs a e ej es q1)
  · rw [List.getElem?_set] at ej ek
    split at ej
    · split at ej <;> cases ej
    · split at ek
      · split at ek <;> cases ek
      · exact r.env.inj j k fs gs b ej ek
  · rcases z with z | z
    · exact r.env.mo b z
    · have z' : V.ref a = .ref b := z
      cases z'
      exact ⟨xs, h2⟩
  · obtain ⟨k1, k2⟩ := r.keep j fs ej
    have hj : j < n := by
      rcases List.getElem?_eq_some_iff.mp ej with ⟨h, _⟩
      omega
    refine ⟨k1, ?_⟩
    obtain ⟨gs, k2⟩ := k2
    refine ⟨gs, ?_⟩
    rw [List.getElem?_set_ne (by omega)]
    exact k2
end
theorem ds_retV {X : Cx} {n : Nat} {pos p2 : Pos} (i : Nat) {x : Str} (hN : X.N[i]? = some x := by rfl) (hv : Vis X.env.scope x := by first | exact Or.inl rfl | exact Or.inr (Or.inl rfl) | exact Or.inr (Or.inr rfl)) (hd : (x == ("__debug__" : Str)) = false := by decide)
    (hcd : (x == ("__classdict__" : Str)) = false := by decide) : DS X n (.Return (some (.Name x pos)) p2) (xRetV n i) := ⟨ps_mono (ps_ret (pe_var hN hv hd hcd)) fun Dn σ H z => by
  obtain ⟨F, E₀, σ₀, H₀, E, fl, E', hn, e, r0, r, q⟩ := z
  obtain ⟨w, e1, e⟩ := bindE e
  have e1' := at?_some e1
  obtain ⟨v, hv⟩ := r.env.hasv e1'
  refine ⟨v, hv, ?_⟩
  split at e
  · rename_i ds
    obtain ⟨a, xs, h1, _⟩ := r.env.own i ds e1'
    rw [hv] at h1; cases h1
    split at e
    · cases e
      exact q _ _ _ (r.move r0 hn (by assumption) e1' hv)
    · cases e
      obtain ⟨r1, d1⟩ := r.env.fzn e1' hv
      exact q _ _ _ ((r.expr r1 .refl (fun a z => own_fz (w := .own ds) z) (lk_fz e1')).post (post_same r1 d1))
  · rename_i d
    cases e
    obtain ⟨v', h1, h2⟩ := r.env.val i d e1'
    rw [hv] at h1; cases h1
    exact q _ _ _ (r.post (post_same r.env h2))⟩
end Mi
end
section
set_option Elab.async false
set_option linter.all false
set_option maxRecDepth 100000
set_option maxHeartbeats 4000000
namespace Mi
open PySem PySem.Spec L2
/-! ### names that are stored -/
def isLb (E : En) (i : Nat) : Bool := match E[i]? with
  | some (some (.own _)) => true
  | some (some (.val (.lst _))) => true
  | _ => false
theorem isLb_of {E : En} {i : Nat} (h : isL E i) : isLb E i = true := by
  obtain ⟨ds, h⟩ := h
  unfold isLb
  rcases h with h | h <;> rw [h]
def canSet (n : Nat) (E : En) (i : Nat) : Bool := decide (i < E.length) && (decide (n ≤ i) || !isLb E i)
section
variable {K : PySem.W.Frag} {F : Ms} {E₀ E E1 : En} {σ₀ σ : Sg} {H₀ H H1 : Hp} {i n : Nat} {w : Wv} {v : V}
theorem own_put {a : Addr} (hi : i < E.length) (hl : E.length = σ.length) (z : Own (E.set i (some w)) (σ.set i (some v)) a) : tmp v w a ∨ ∃ (j : Nat) (ds : List D), i ≠ j ∧ E[j]? = some (some (.own ds)) ∧ σ[j]? = some (some (.ref a)) := by
  obtain ⟨j, ds, e1, e2⟩ := z
  by_cases h : i = j
  · subst h
    rw [List.getElem?_set_self hi] at e1
    rw [List.getElem?_set_self (by omega)] at e2
    cases e1
    cases e2
    exact .inl rfl
  · rw [List.getElem?_set_ne h] at e1 e2
    exact .inr ⟨j, ds, h, e1, e2⟩
theorem own_put' {a : Addr} (hi : i < E.length) (hl : E.length = σ.length) (z : Own (E.set i (some w)) (σ.set i (some v)) a) : tmp v w a ∨ Own E σ a := (own_put hi hl z).imp id fun ⟨j, ds, _, h1, h2⟩ => ⟨j, ds, h1, h2⟩
theorem EnvR.put (hi : i < E.length) (r : EnvR K (F.or (tmp v w)) E σ H) (q : RelW K ((F.or (tmp v w)).or (Own E σ)) H₀ H v w) (new : ∀ a, tmp v w a → ¬ F a) : EnvR K F (E.set i (some w)) (σ.set i (some v)) H := by
  have hl := r.len
  have g : ∀ a, (F.or (Own (E.set i (some w)) (σ.set i (some v)))) a → ((F.or (tmp v w)).or (Own E σ)) a ∨ H a = none := fun a z => .inl (z.elim (fun z => .inl (.inl z)) fun z => (own_put' hi hl z).elim (fun z => .inl (.inr z)) .inr)
  refine ⟨by rw [List.length_set, List.length_set]; exact hl, fun j d ej => ?_, fun j ds ej => ?_, fun j k ds es a ej ek sj sk => ?_, fun a z => r.mo a (.inl z)⟩
  · by_cases h : i = j
    · subst h
      rw [List.getElem?_set_self hi] at ej
      cases ej
      refine ⟨v, List.getElem?_set_self (by omega), ?_⟩
      have q' : RelD K _ H v d := q
      exact q'.step r.moO g fun _ _ e _ => e
    · rw [List.getElem?_set_ne h] at ej
      obtain ⟨v', h1, h2⟩ := r.val j d ej
      exact ⟨v', by rw [List.getElem?_set_ne h]; exact h1, h2.step r.moO g fun _ _ e _ => e⟩
  · by_cases h : i = j
    · subst h
      rw [List.getElem?_set_self hi] at ej
      cases ej
      obtain ⟨a, xs, rfl, _, h2, h3⟩ := q
      exact ⟨a, xs, List.getElem?_set_self (by omega), h2, h3.step r.moO g (fun _ _ e _ => e), new a rfl⟩
    · rw [List.getElem?_set_ne h] at ej
      obtain ⟨a, xs, h1, h2, h3, h4⟩ := r.own j ds ej
      exact ⟨a, xs, by rw [List.getElem?_set_ne h]; exact h1, h2, h3.step r.moO g (fun _ _ e _ => e), fun z => h4 (.inl z)⟩
  · by_cases h : i = j
    · subst h
      by_cases h' : i = k
      · exact h'
      · rw [List.getElem?_set_self hi] at ej
        rw [List.getElem?_set_self (by omega)] at sj
        rw [List.getElem?_set_ne h'] at ek sk
        cases ej; cases sj
        exact absurd (.inr rfl) (r.nfo ⟨k, es, ek, sk⟩)
    · rw [List.getElem?_set_ne h] at ej sj
      by_cases h' : i = k
      · subst h'
        rw [List.getElem?_set_self hi] at ek
        rw [List.getElem?_set_self (by omega)] at sk
        cases ek; cases sk
        exact absurd (.inr rfl) (r.nfo ⟨j, ds, ej, sj⟩)
      · rw [List.getElem?_set_ne h'] at ek sk
        exact r.inj j k ds es a ej ek sj sk
/-- stored -/
theorem FR.put (hn : E₀.length ≤ n) (r0 : EnvR K F E₀ σ₀ H₀) (r : Ret K F E₀ σ₀ H₀ E σ H w v) (hc : canSet n E i = true) : FR K F E₀ σ₀ H₀ (E.set i (some w)) (σ.set i (some v)) H := by
  unfold canSet at hc
  rw [Bool.and_eq_true] at hc
  have hi := of_decide_eq_true hc.1
  have new : ∀ a, tmp v w a → H₀ a = none := fun a z => by
    cases w with
    | val d => exact z.elim
    | own ds =>
      obtain ⟨b, xs, rfl, h1, _⟩ := r.rel
      have z' : V.ref b = .ref a := z
      cases z'; exact h1
  refine ⟨EnvR.put hi r.fr.env r.rel fun a z za => ?_, r.fr.ext, fun a z => ?_, fun j es ej => ?_⟩
  · obtain ⟨ys, h⟩ := r0.mo a za
    rw [new a z] at h; cases h
  · rcases own_put' hi r.fr.env.len z with z | z
    · exact .inr (new a z)
    · exact r.fr.loc a z
  · obtain ⟨k1, k2⟩ := r.fr.keep j es ej
    have hj : j < n := by
      rcases List.getElem?_eq_some_iff.mp ej with ⟨h, _⟩
      omega
    have hij : i ≠ j := fun z => by
      subst z
      have := isLb_of k2
      rw [this, Bool.or_eq_true] at hc
      rcases hc.2 with z | z
      · have := of_decide_eq_true z; omega
      · cases z
    refine ⟨by rw [List.getElem?_set_ne hij]; exact k1, ?_⟩
    obtain ⟨ds, k2⟩ := k2
    exact ⟨ds, by rw [List.getElem?_set_ne hij]; exact k2⟩
end
theorem Mv.post {K : PySem.W.Frag} {F : Ms} {E E1 : En} {σ : Sg} {H H1 : Hp} {w : Wv} {v : V} (p : Post K F E σ H w E1 v H1) : Mv E σ H E1 σ H1 := ⟨p.ext, fun a z => .inl (p.sub a z)⟩
theorem Mv.put {K : PySem.W.Frag} {F : Ms} {E E1 : En} {σ : Sg} {H H1 : Hp} {w : Wv} {v : V} {i n : Nat} (p : Post K F E σ H w E1 v H1) (hc : canSet n E1 i = true) : Mv E σ H (E1.set i (some w)) (σ.set i (some v)) H1 := by
  unfold canSet at hc
  rw [Bool.and_eq_true] at hc
  refine ⟨p.ext, fun a z => ?_⟩
  rcases own_put' (of_decide_eq_true hc.1) p.env.len z with z | z
  · cases w with
    | val d => exact z.elim
    | own ds =>
      obtain ⟨b, xs, rfl, h1, _⟩ := p.rel
      have z' : V.ref b = .ref a := z
      cases z'; exact .inr h1
  · exact .inl (p.sub a z)
def xAsg (n i : Nat) (k : Ev) : Ex := fun E => (k E).bind fun r => if canSet n r.2 i = true then some (.nx, r.2.set i (some r.1)) else none
theorem ds_set {X : Cx} {n : Nat} {e : Expr} {k : Ev} {pos pos' : Pos} (i : Nat) {x : Str} (h : DE X e k) (hN : X.N.Nodup) (hi : X.N[i]? = some x := by rfl) (hx : Loc X.env.scope x := by first | exact Or.inl rfl | exact Or.inr rfl)
    (hs : swapsWith e (some (.Name x pos')) pos.line X.env = pure false := by rfl) (hf : X.fn x = true ∨ X.env.scope.names.lookup x = some .local := by first | exact .inl rfl | exact .inr rfl) : DS X n (.Assign [.Name x pos'] e pos) (xAsg n i k) := ⟨
  ps_mono (ps_set hN hi hx h.pe hs hf) fun Dn σ H z => by
    obtain ⟨F, E₀, σ₀, H₀, E, fl, E', hn, e, r0, r, q⟩ := z
    obtain ⟨⟨w, E1⟩, e1, e⟩ := bindE e
    dsimp only at e
    split at e
    · cases e
      exact ⟨F, E, w, E1, e1, r.env, fun v H1 p1 => q _ _ (FR.put hn r0 (r.post p1) (by assumption)) (Mv.put p1 (by assumption))⟩
    · cases e⟩
/-! ### an expression for what it does -/
def xDrop (k : Ev) : Ex := fun E => (k E).map fun r => (.nx, r.2)

/-! ### a list of one's own is changed -/
section
variable {K : PySem.W.Frag} {F : Ms} {E : En} {σ : Sg} {H : Hp} {i : Nat} {a : Addr} {ds es : List D} {xs ys : List V}
theorem own_chg {b : Addr} (e : E[i]? = some (some (.own ds))) : Own (E.set i (some (.own es))) σ b ↔ Own E σ b := by
  have hi : i < E.length := (List.getElem?_eq_some_iff.mp e).1
  constructor
  · rintro ⟨j, fs, e1, e2⟩
    by_cases h : i = j
    · subst h; exact ⟨i, ds, e, e2⟩
    · rw [List.getElem?_set_ne h] at e1; exact ⟨j, fs, e1, e2⟩
  · rintro ⟨j, fs, e1, e2⟩
    by_cases h : i = j
    · subst h; exact ⟨i, es, List.getElem?_set_self hi, e2⟩
    · exact ⟨j, fs, by rw [List.getElem?_set_ne h]; exact e1, e2⟩
theorem EnvR.chg (r : EnvR K F E σ H) (e : E[i]? = some (some (.own ds))) (s : σ[i]? = some (some (.ref a))) (hy : RelDs K (F.or (Own E σ)) H ys es) : EnvR K F (E.set i (some (.own es))) σ (upd H a (.lst ys)) ∧ Ext (Own E σ) H (upd H a (.lst ys)) ∧ Lk E (E.set i (some (.own es))) := by
  have hi : i < E.length := (List.getElem?_eq_some_iff.mp e).1
  have hO : Own E σ a := ⟨i, ds, e, s⟩
  obtain ⟨a', xs, h1, h2, h3, h4⟩ := r.own i ds e
  rw [s] at h1; cases h1
  have g : ∀ b, (F.or (Own (E.set i (some (.own es))) σ)) b → (F.or (Own E σ)) b ∨ H b = none := fun b z => .inl (z.imp id (own_chg e).mp)
  have k : ∀ b o, H b = some o → ¬ (F.or (Own E σ)) b → upd H a (.lst ys) b = some o := fun b o eb nb => by
    rw [upd_ne (fun z => nb (by subst z; exact .inr hO))]; exact eb
  refine ⟨⟨by rw [List.length_set]; exact r.len, fun j d ej => ?_, fun j fs ej => ?_, fun j l fs gs b ej el sj sl => ?_, fun b z => ?_⟩, ⟨fun b o eb nb => ?_, fun b eb => ?_⟩, fun j z => ?_⟩
  · have h : i ≠ j := fun z => by subst z; rw [List.getElem?_set_self hi] at ej; cases ej
    rw [List.getElem?_set_ne h] at ej
    obtain ⟨v', q1, q2⟩ := r.val j d ej
    exact ⟨v', q1, q2.step r.moO g k⟩
  · by_cases h : i = j
    · subst h
      rw [List.getElem?_set_self hi] at ej
      cases ej
      exact ⟨a, ys, s, upd_same, hy.step r.moO g k, h4⟩
    · rw [List.getElem?_set_ne h] at ej
      obtain ⟨b, zs, q1, q2, q3, q4⟩ := r.own j fs ej
      refine ⟨b, zs, q1, ?_, q3.step r.moO g k, q4⟩
      rw [upd_ne (fun z => h (by subst z; exact r.inj i j ds fs b e ej s q1))]
      exact q2
  · have c : ∀ {j : Nat} {fs : List D}, (E.set i (some (.own es)))[j]? = some (some (.own fs)) → ∃ gs, E[j]? = some (some (.own gs)) := fun {j fs} ej => by
      by_cases h : i = j
      · subst h; exact ⟨ds, e⟩
      · rw [List.getElem?_set_ne h] at ej; exact ⟨fs, ej⟩
    obtain ⟨_, c1⟩ := c ej
    obtain ⟨_, c2⟩ := c el
    exact r.inj j l _ _ b c1 c2 sj sl
  · obtain ⟨zs, q⟩ := r.mo b z
    exact ⟨zs, by rw [upd_ne (fun y => by subst y; exact h4 z)]; exact q⟩
  · rw [upd_ne (fun z => nb (by subst z; exact hO))]; exact eb
  · by_cases h : b = a
    · subst h; rw [upd_same]; intro z; cases z
    · rw [upd_ne h]; exact eb
  · by_cases h : i = j
    · subst h; exact ⟨es, .inl (List.getElem?_set_self hi)⟩
    · obtain ⟨fs, z⟩ := z
      exact ⟨fs, by rw [List.getElem?_set_ne h]; exact z⟩
end
/-- x.append(e) -/
def ownAt (E : En) (i : Nat) : Option (List D) := match at? E i with
  | some (.own ds) => some ds
  | _ => none
theorem ownAt_some {E : En} {i : Nat} {ds : List D} (h : ownAt E i = some ds) : E[i]? = some (some (.own ds)) := by
  unfold ownAt at h
  split at h
  · rename_i e
    cases h
    exact at?_some e
  · cases h
def xApp (i : Nat) (k : Ev) : Ex := fun E => (ownAt E i).bind fun _ => (k E).bind fun r => (ownAt r.2 i).bind fun ds => if ds.length < sizeLine then some (.nx, r.2.set i (some (.own (ds ++ [fz r.1])))) else none
theorem ds_app {X : Cx} {n : Nat} {e : Expr} {k : Ev} {p apos cpos pos : Pos} (i : Nat) {x : Str} (h : DE X e k) (hN : X.N[i]? = some x := by rfl) (hv : Vis X.env.scope x := by first | exact Or.inl rfl | exact Or.inr (Or.inl rfl) | exact Or.inr (Or.inr rfl)) (hd : (x == ("__debug__" : Str)) = false := by decide)
    (hcd : (x == ("__classdict__" : Str)) = false := by decide) (hline : (apos.endLine == cpos.line) = true := by rfl) (hst : starEach [e] X.env = (false, eval e X.env) :: starEach [] X.env := by rfl)
    (hbase : attributeBase (.Name x p) "append" X.env (eval (.Name x p) X.env) = eval (.Name x p) X.env := by rfl)
    (hfew : ((backTo cpos (starEach [e] X.env)).all (fun x => !x.1) && (backToKw cpos (keywordEach [] X.env)).all (fun x => x.1.isSome) && decide ([e].length + ([] : List Keyword).length + (if ([] : List Keyword).isEmpty then 0 else 1) < 30)) = true := by rfl)
    (hplain : (backTo cpos (starEach [] X.env)).any (·.1) = false := by rfl)
    (hs : swapsWith (.Call (.Attribute (.Name x p) "append" apos) [e] [] cpos) none pos.line X.env = pure false := by rfl) :
    DS X n (.Expr (.Call (.Attribute (.Name x p) "append" apos) [e] [] cpos) pos) (xApp i k) := ⟨
  ps_mono (ps_expr (pe_bm PySem.F.plainAttrs_list PySem.F.slot_list_append PySem.F.type_list_append mt_append (pe_var hN hv hd hcd) (pa_cons h.pe pa_nil hst) hbase hfew hline hst hplain) hs) fun Dn σ H z => by
    obtain ⟨F, E₀, σ₀, H₀, E, fl, E', hn, e, r0, r, q⟩ := z
    obtain ⟨ds0, e0, e⟩ := bindE e
    obtain ⟨⟨w, E1⟩, e1, e⟩ := bindE e
    obtain ⟨ds, e2, e⟩ := bindE e
    split at e
    · rename_i hz
      cases e
      obtain ⟨a, xs0, s1, h1, _⟩ := r.env.own i ds0 (ownAt_some e0)
      refine ⟨.ref a, s1, .inl ⟨rfl, xs0, .of h1⟩, F, E, w, E1, e1, r.env, fun v H1 p1 => ?_⟩
      obtain ⟨r1, d1⟩ := p1.fz r.env
      obtain ⟨a', xs, s2, h2, h3, h4⟩ := r1.own i ds (ownAt_some e2)
      rw [s1] at s2; cases s2
      obtain ⟨r2, x2, l2⟩ := r1.chg (ownAt_some e2) s1 (h3.append (.cons d1 .nil))
      refine ⟨a, xs, v, rfl, rfl, h2, by rw [h3.length]; exact hz, q _ _ ((r.expr r1 p1.ext p1.sub p1.lk).expr r2 x2 (fun b z => (own_chg (ownAt_some e2)).mp z) l2) ((Mv.post p1).trans ⟨x2, fun b z => .inl ((own_chg (ownAt_some e2)).mp z)⟩)⟩
    · cases e⟩
/-- x[e] = f : the value first, then the place -/
def xSet (i : Nat) (k : Ev) (o : Opd) : Ex := fun E => (k E).bind fun r => (ownAt r.2 i).bind fun _ => (evs [o] r.2).bind fun p => match p.1 with
  | [.val (.int j)] => (ownAt p.2 i).bind fun ds => (ixN ds.length j).map fun m => (.nx, p.2.set i (some (.own (ds.set m (fz r.1)))))
  | _ => none
theorem ds_setix {X : Cx} {n : Nat} {e t : Expr} {k : Ev} {o : Opd} {p ps pos : Pos} (i : Nat) {x : Str} (h : DE X e k) (ht : DO X t o) (hN : X.N[i]? = some x := by rfl) (hv : Vis X.env.scope x := by first | exact Or.inl rfl | exact Or.inr (Or.inl rfl) | exact Or.inr (Or.inr rfl)) (hd : (x == ("__debug__" : Str)) = false := by decide)
    (hcd : (x == ("__classdict__" : Str)) = false := by decide)
    (ha : ∀ v, assign (.Subscript (.Name x p) t ps) X.env v = (do
      let ov ← holding [v] (eval (.Name x p) X.env)
      let iv ← holding [v, ov] (eval t X.env)
      standAt ps
      holding [v, ov, iv] (setItem ov iv v)
      release [v, ov, iv] []) := by intro _; rfl)
    (hs : swapsWithSole [.Subscript (.Name x p) t ps] e pos.line X.env = pure false := by rfl) (hw : swappedStores [.Subscript (.Name x p) t ps] e X.env = pure none := by rfl)
    (h1 : (assignEach [.Subscript (.Name x p) t ps] X.env).map (·.2) = [assign (.Subscript (.Name x p) t ps) X.env] := by rfl) :
    DS X n (.Assign [.Subscript (.Name x p) t ps] e pos) (xSet i k o) := ⟨
  ps_mono (ps_asg h.pe (pg_sub (pe_var hN hv hd hcd) ht.pe set_list ha) hs hw h1) fun Dn σ H z => by
    obtain ⟨F, E₀, σ₀, H₀, E, fl, E', hn, e, r0, r, q⟩ := z
    obtain ⟨⟨w, E1⟩, e1, e⟩ := bindE e
    obtain ⟨ds0, e0, e⟩ := bindE e
    obtain ⟨⟨ws, E2⟩, e2, e⟩ := bindE e
    dsimp only at e e0 e2
    split at e
    · rename_i j
      obtain ⟨ds, e3, e⟩ := bindE e
      cases e4 : ixN ds.length j with
      | none => rw [e4] at e; cases e
      | some m =>
        rw [e4] at e
        cases e
        refine ⟨F, E, w, E1, e1, r.env, fun v H1 p1 => ?_⟩
        obtain ⟨r1, d1⟩ := p1.fz r.env
        obtain ⟨a, xs0, s1, h1, _⟩ := r1.own i ds0 (ownAt_some e0)
        have z := evs_ok (K := X.K) (F := F) (σ := σ) (Q := fun vs H2 => ∃ y, vs = [y] ∧ rSetL (.ref a) y v H2 (fun H3 => Dn.nx σ H3)) e2 r1 fun vs H2 p2 => ?_
        · refine ⟨.ref a, s1, ?_⟩
          have z' : tO X.K o σ H1 fun y H2 => ∃ y', [y] = [y'] ∧ rSetL (.ref a) y' v H2 (fun H3 => Dn.nx σ H3) := z
          refine tO_mono z' fun y H2 hy => ?_
          obtain ⟨y', ey, hy⟩ := hy
          cases ey
          exact hy
        · have sh := p2.args.sh p2.env
          cases sh with
          | cons q1 t =>
            cases t
            cases q1
            refine ⟨_, rfl, ?_⟩
            obtain ⟨a', xs, s2, h2, h3, h4⟩ := p2.env.own i ds (ownAt_some e3)
            rw [s1] at s2; cases s2
            have d2 : RelD X.K (F.or (Own E2 σ)) H2 v (fz w) := d1.step r1.moO (fun b z => .inl (z.imp id (p2.sub b))) fun b ob eb nb => p2.ext.keep b ob eb fun z => nb (.inr z)
            obtain ⟨r3, x3, l3⟩ := p2.env.chg (ownAt_some e3) s1 (h3.set d2 m)
            refine ⟨a, xs, j, m, rfl, rfl, h2, by rw [h3.length]; exact e4, q _ _ ?_ ?_⟩
            · exact ((r.expr r1 p1.ext p1.sub p1.lk).expr p2.env p2.ext p2.sub p2.lk).expr r3 x3 (fun b z => (own_chg (ownAt_some e3)).mp z) l3
            · exact ((Mv.post p1).trans ⟨p2.ext, fun b z => .inl (p2.sub b z)⟩).trans ⟨x3, fun b z => .inl ((own_chg (ownAt_some e3)).mp z)⟩
    · cases e⟩
end Mi
end
section
set_option Elab.async false
set_option linter.all false
set_option maxRecDepth 100000
set_option maxHeartbeats 4000000
namespace Mi
open PySem PySem.Spec L2
/-! ### a def -/
abbrev Fn := List Wv → Option (Wv × List Wv)
def afterW : List Wv → En → List Wv
  | [], _ => []
  | w :: ws, [] => w :: ws
  | .val d :: ws, _ :: E => .val d :: afterW ws E
  | .own ds :: ws, o :: E => o.getD (.own ds) :: afterW ws E
def flW : Fl → Wv
  | .nx => .val .non
  | .ret w => w
def runFn (N : Nat) (body : Ex) : Fn := fun ws => (body (ws.map some ++ List.replicate (N - ws.length) none)).map fun r => (flW r.1, afterW ws r.2)
def spD (K : PySem.W.Frag) (np : Nat) (f : Fn) : Sp := fun vs H Q _ => ∃ F ws w ws', ws.length = np ∧ f ws = some (w, ws') ∧ EnvR K F (ws.map some) (vs.map some) H ∧ ∀ v H', Post K F (ws.map some) (vs.map some) H w (ws'.map some) v H' → Q v H'

section
variable {K : PySem.W.Frag} {F : Ms} {E₀ E E1 : En} {σ₀ σ : Sg} {H₀ H H1 : Hp} {n : Nat} {ws ws' : List Wv} {vs : List V} {w : Wv} {v : V}
theorem map_some_get {α : Type} {xs : List α} {i : Nat} {x : α} (h : (xs.map some)[i]? = some (some x)) : xs[i]? = some x := by
  rw [List.getElem?_map] at h
  cases e : xs[i]? with
  | none => rw [e] at h; cases h
  | some y => rw [e] at h; cases h; rfl
theorem pad_get {α : Type} {xs : List (Option α)} {k i : Nat} {x : α} (h : (xs ++ List.replicate k none)[i]? = some (some x)) : xs[i]? = some (some x) := by
  by_cases hi : i < xs.length
  · rw [List.getElem?_append_left hi] at h; exact h
  · rw [List.getElem?_append_right (by omega), List.getElem?_replicate] at h
    split at h <;> cases h
theorem get_pad {α : Type} {xs : List (Option α)} {k i : Nat} {x : Option α} (h : xs[i]? = some x) : (xs ++ List.replicate k none)[i]? = some x := by
  rw [List.getElem?_append_left (List.getElem?_eq_some_iff.mp h).1]; exact h
theorem EnvR.pad (r : EnvR K F E σ H) (k : Nat) : EnvR K F (E ++ List.replicate k none) (σ ++ List.replicate k none) H ∧ ∀ a, Own (E ++ List.replicate k none) (σ ++ List.replicate k none) a → Own E σ a := by
  have o1 : ∀ a, Own (E ++ List.replicate k none) (σ ++ List.replicate k none) a → Own E σ a := fun a ⟨i, ds, e1, e2⟩ => ⟨i, ds, pad_get e1, pad_get e2⟩
  have g : ∀ a, (F.or (Own (E ++ List.replicate k none) (σ ++ List.replicate k none))) a → (F.or (Own E σ)) a ∨ H a = none := fun a z => .inl (z.imp id (o1 a))
  refine ⟨⟨by simp [r.len], fun i d e => ?_, fun i ds e => ?_, fun i j ds es a e1 e2 s1 s2 => r.inj i j ds es a (pad_get e1) (pad_get e2) (pad_get s1) (pad_get s2), r.mo⟩, o1⟩
  · obtain ⟨v, h1, h2⟩ := r.val i d (pad_get e)
    exact ⟨v, get_pad h1, h2.step r.moO g fun _ _ e _ => e⟩
  · obtain ⟨a, xs, h1, h2, h3, h4⟩ := r.own i ds (pad_get e)
    exact ⟨a, xs, get_pad h1, h2, h3.step r.moO g (fun _ _ e _ => e), h4⟩
theorem afterW_len : ∀ (ws : List Wv) (E : En), (afterW ws E).length = ws.length
  | [], _ => rfl
  | w :: ws, [] => rfl
  | .val d :: ws, _ :: E => by simp [afterW, afterW_len ws E]
  | .own ds :: ws, o :: E => by simp [afterW, afterW_len ws E]
theorem afterW_val : ∀ {ws : List Wv} {E : En} {i : Nat} {d : D}, ws[i]? = some (.val d) → (afterW ws E)[i]? = some (.val d)
  | w :: ws, [], i, d, h => h
  | .val d' :: ws, o :: E, 0, d, h => h
  | .own ds :: ws, o :: E, 0, d, h => by simp at h
  | .val d' :: ws, o :: E, i + 1, d, h => by
    simp only [List.getElem?_cons_succ] at h
    simp only [afterW, List.getElem?_cons_succ]; exact afterW_val h
  | .own ds :: ws, o :: E, i + 1, d, h => by
    simp only [List.getElem?_cons_succ] at h
    simp only [afterW, List.getElem?_cons_succ]; exact afterW_val h
theorem afterW_own : ∀ {ws : List Wv} {E : En} {i : Nat} {ds : List D} {w : Wv}, ws[i]? = some (.own ds) → E[i]? = some (some w) → (afterW ws E)[i]? = some w
  | _ :: ws, [], i, ds, w, h, e => by simp at e
  | .val d' :: ws, o :: E, 0, ds, w, h, e => by simp at h
  | .own ds' :: ws, o :: E, 0, ds, w, h, e => by simp at e; subst e; rfl
  | .val d' :: ws, o :: E, i + 1, ds, w, h, e => by
    simp only [List.getElem?_cons_succ] at h e
    simp only [afterW, List.getElem?_cons_succ]; exact afterW_own h e
  | .own ds' :: ws, o :: E, i + 1, ds, w, h, e => by
    simp only [List.getElem?_cons_succ] at h e
    simp only [afterW, List.getElem?_cons_succ]; exact afterW_own h e
theorem FR.start (r : EnvR K F (ws.map some) (vs.map some) H) (N : Nat) : FR K F (ws.map some) (vs.map some) H (ws.map some ++ List.replicate (N - ws.length) none) (vs.map some ++ List.replicate (N - ws.length) none) H := by
  obtain ⟨r1, o1⟩ := r.pad (N - ws.length)
  refine ⟨r1, .refl, fun a z => .inl (o1 a z), fun i es e => ?_⟩
  obtain ⟨v, hv⟩ := r.hasv e
  exact ⟨by rw [get_pad hv, hv], es, .inl (get_pad e)⟩
theorem Ret.post (r0 : EnvR K F (ws.map some) (vs.map some) H₀) (r : Ret K F (ws.map some) (vs.map some) H₀ E σ H w v) : Post K F (ws.map some) (vs.map some) H₀ w ((afterW ws E).map some) v H := by
  have new : ∀ a, tmp v w a → H₀ a = none := fun a z => by
    cases w with
    | val d => exact z.elim
    | own ds =>
      obtain ⟨b, xs, rfl, h1, _⟩ := r.rel
      have z' : V.ref b = .ref a := z
      cases z'; exact h1
  -- an argument that is a list of one's own behind it was one ahead
  have back : ∀ {i : Nat} {ds : List D}, (afterW ws E)[i]? = some (.own ds) → ∃ es, ws[i]? = some (.own es) ∧ E[i]? = some (some (.own ds)) ∧ σ[i]? = (vs.map some)[i]? := fun {i ds} h => by
    have hi : i < ws.length := by
      have := (List.getElem?_eq_some_iff.mp h).1
      rw [afterW_len] at this; exact this
    cases e : ws[i]? with
    | none => rw [List.getElem?_eq_none_iff] at e; omega
    | some w1 =>
      cases w1 with
      | val d => rw [afterW_val e] at h; cases h
      | own es =>
        obtain ⟨k1, gs, k2⟩ := r.fr.keep i es (by rw [List.getElem?_map, e]; rfl)
        rcases k2 with k2 | k2
        · rw [afterW_own e k2] at h; cases h; exact ⟨es, rfl, k2, k1⟩
        · rw [afterW_own e k2] at h; cases h
  have sub : ∀ a, Own ((afterW ws E).map some) (vs.map some) a → Own E σ a ∧ Own (ws.map some) (vs.map some) a := fun a ⟨i, ds, e1, e2⟩ => by
    obtain ⟨es, h1, h2, h3⟩ := back (map_some_get e1)
    exact ⟨⟨i, ds, h2, by rw [h3]; exact e2⟩, ⟨i, es, by rw [List.getElem?_map, h1]; rfl, e2⟩⟩
  have g : ∀ a, ((F.or (tmp v w)).or (Own ((afterW ws E).map some) (vs.map some))) a → ((F.or (tmp v w)).or (Own E σ)) a ∨ H a = none := fun a z => .inl (z.imp id fun z => (sub a z).1)
  refine ⟨⟨by rw [List.length_map, afterW_len, ← List.length_map (f := some)]; exact r0.len, fun i d e => ?_, fun i ds e => ?_, fun i j ds es a e1 e2 => ?_, r.fr.env.mo⟩, r.fr.ext, fun a z => (sub a z).2, ?_, fun i z => ?_⟩
  · have e' := map_some_get e
    have hi : i < ws.length := by
      have := (List.getElem?_eq_some_iff.mp e').1
      rw [afterW_len] at this; exact this
    cases ew : ws[i]? with
    | none => rw [List.getElem?_eq_none_iff] at ew; omega
    | some w1 =>
      cases w1 with
      | val d1 =>
        rw [afterW_val ew] at e'
        cases e'
        obtain ⟨v1, h1, h2⟩ := r0.val i d (by rw [List.getElem?_map, ew]; rfl)
        refine ⟨v1, h1, h2.step r0.moO (fun a z => ?_) fun a o eo no => r.fr.ext.keep a o eo fun z => no (.inr z)⟩
        rcases z with (z | z) | z
        · exact .inl (.inl z)
        · exact .inr (new a z)
        · exact .inl (.inr (sub a z).2)
      | own es =>
        obtain ⟨k1, gs, k2⟩ := r.fr.keep i es (by rw [List.getElem?_map, ew]; rfl)
        rcases k2 with k2 | k2
        · rw [afterW_own ew k2] at e'; cases e'
        · rw [afterW_own ew k2] at e'
          cases e'
          obtain ⟨v1, h1, h2⟩ := r.fr.env.val i _ k2
          exact ⟨v1, by rw [← k1]; exact h1, h2.step r.fr.env.moO g fun _ _ e _ => e⟩
  · obtain ⟨es, h1, h2, h3⟩ := back (map_some_get e)
    obtain ⟨a, xs, q1, q2, q3, q4⟩ := r.fr.env.own i ds h2
    exact ⟨a, xs, by rw [← h3]; exact q1, q2, q3.step r.fr.env.moO g (fun _ _ e _ => e), q4⟩
  · obtain ⟨_, h1, _⟩ := back (map_some_get e1)
    obtain ⟨_, h2, _⟩ := back (map_some_get e2)
    exact r0.inj i j _ _ a (by rw [List.getElem?_map, h1]; rfl) (by rw [List.getElem?_map, h2]; rfl)
  · have q := r.rel
    cases w with
    | val d => exact RelD.step r.fr.env.moO g (fun _ _ e _ => e) q
    | own ds =>
      obtain ⟨a, xs, h1, h2, h3, h4⟩ := q
      exact ⟨a, xs, h1, h2, h3, h4.step r.fr.env.moO g fun _ _ e _ => e⟩
  · obtain ⟨ds, z⟩ := z
    rcases z with z | z
    · obtain ⟨_, gs, k2⟩ := r.fr.keep i ds z
      rcases k2 with k2 | k2
      · exact ⟨gs, .inl (by rw [List.getElem?_map, afterW_own (map_some_get z) k2]; rfl)⟩
      · exact ⟨gs, .inr (by rw [List.getElem?_map, afterW_own (map_some_get z) k2]; rfl)⟩
    · exact ⟨ds, .inr (by rw [List.getElem?_map, afterW_val (map_some_get z)]; rfl)⟩
end
section
variable {P : Program} {w : World} {K : PySem.W.Frag} {mg : Str → Option Value} {base : Heap}
/-- THE RULE for a def -/
theorem fn_ok {x : Str} {st : Stmt} {f : Addr} {fd : FuncData} {N ps : List Str} {k np : Nat} {b : Ex} (Fu : Fun K x x st f fd) (S : FnScope N ps (defScope st)) (hp : ps.length = np)
    (hb : ∀ (cdv : Value) (A : Around) (outer : List PySem.Env) (s : Shared) (H : Hp) (E : XK), Room k (A.deeper (PyProof.Rows.envOfC x (defScope st) s.heap.objs.size f cdv)) → DSs (cxOf CX0 P w K mg base N x (defScope st) f cdv A outer s H E).nox np (defBody st) b) :
    FnOk P w K mg base CX0 (k + 1) f fd ps (spD K np (runFn N.length b)) := by
  refine Fu.ok S (fun vs H Q E h => ?_) (fun cdv A outer s H vs Q E hr h => ?_)
  · obtain ⟨F, ws, w, ws', hl, _, r, _⟩ := h
    have := r.len
    simp only [List.length_map] at this
    omega
  · obtain ⟨F, ws, w1, ws', hl, e, r, q⟩ := h
    have hlen := r.len
    simp only [List.length_map] at hlen
    refine ⟨_, (hb cdv A outer s H E hr).pe, ?_⟩
    unfold runFn at e
    cases e1 : b (ws.map some ++ List.replicate (N.length - ws.length) none) with
    | none => rw [e1] at e; cases e
    | some p =>
      obtain ⟨fl, E'⟩ := p
      rw [e1] at e
      simp only [Option.map_some, Option.some.injEq, Prod.mk.injEq] at e
      obtain ⟨rfl, rfl⟩ := e
      refine ⟨F, ws.map some, vs.map some, H, _, fl, E', by rw [List.length_map]; omega, e1, r, ?_, ?_⟩
      · have := FR.start r N.length
        rw [show L2.start N vs = vs.map some ++ List.replicate (N.length - ws.length) none from by unfold L2.start; rw [hlen]]
        exact this
      · cases fl with
        | nx => exact fun σ' H' fr _ => q _ _ ((fr.post (post_same fr.env .non)).post r)
        | ret w => exact fun v σ' H' rt => q _ _ (rt.post r)
theorem dfn_ok {x : Str} {st : Stmt} {N ps : List Str} {k np : Nat} {b : Ex} (S : St.Src K mg x st) (sc : FnScope N ps (defScope st)) (hp : ps.length = np)
    (hbi : ∀ f fd, Fun K x x st f fd → Binds K fd ps [])
    (hb : ∀ (f : Addr) (cdv : Value) (A : Around) (outer : List PySem.Env) (s : Shared) (H : Hp) (E : XK), Room k (A.deeper (PyProof.Rows.envOfC x (defScope st) s.heap.objs.size f cdv)) → DSs (cxOf CX0 P w K mg base N x (defScope st) f cdv A outer s H E).nox np (defBody st) b) :
    St.Dfn P w K mg base x (k + 1) ps (spD K np (runFn N.length b)) := by
  obtain ⟨f, fd, Fu, hm⟩ := S.ex
  exact ⟨f, fd, hm, Fu.kp, hbi f fd Fu, fn_ok Fu sc hp fun cdv A outer s H E hr => hb f cdv A outer s H E hr⟩
end
/-! ### a call -/
def bor : List Opd → List Wv → List Wv → Nat → Option Wv
  | .pk k :: os, .own _ :: ws, w' :: ws', i => (bor os ws ws' i).or (if k = i then some w' else none)
  | .pk _ :: os, .val _ :: ws, _ :: ws', i => bor os ws ws' i
  | .ex _ :: os, _ :: ws, _ :: ws', i => bor os ws ws' i
  | _, _, _, _ => none
def backW : List Opd → List Wv → List Wv → En → En
  | .pk k :: os, .own _ :: ws, w' :: ws', E => backW os ws ws' (E.set k (some w'))
  | .pk _ :: os, .val _ :: ws, _ :: ws', E => backW os ws ws' E
  | .ex _ :: os, _ :: ws, _ :: ws', E => backW os ws ws' E
  | _, _, _, E => E
def ownIx : List Opd → List Wv → List Nat
  | .pk k :: os, .own _ :: ws => k :: ownIx os ws
  | _ :: os, _ :: ws => ownIx os ws
  | _, _ => []
def eCall (np : Nat) (f : Fn) (os : List Opd) : Ev := fun E => (evs os E).bind fun r => if (decide ((ownIx os r.1).Nodup) && decide (r.1.length = np)) = true then (f r.1).map fun p => (p.1, backW os r.1 p.2 r.2) else none
section
variable {K : PySem.W.Frag} {F : Ms} {E E1 : En} {σ : Sg} {H H1 H2 : Hp} {os : List Opd} {ws ws' : List Wv} {vs : List V} {w : Wv} {v : V}
theorem backW_len : ∀ {os : List Opd} {ws ws' : List Wv} {E : En}, (backW os ws ws' E).length = E.length
  | .pk k :: os, .own _ :: ws, w' :: ws', E => by simp only [backW]; rw [backW_len, List.length_set]
  | .pk _ :: os, .val _ :: ws, _ :: ws', E => by simp only [backW]; exact backW_len
  | .ex _ :: os, _ :: ws, _ :: ws', E => by simp only [backW]; exact backW_len
  | [], _, _, E => by simp only [backW]
  | .pk _ :: os, [], _, E => by simp only [backW]
  | .pk _ :: os, .own _ :: _, [], E => by simp only [backW]
  | .pk _ :: os, .val _ :: _, [], E => by simp only [backW]
  | .ex _ :: os, [], _, E => by simp only [backW]
  | .ex _ :: os, _ :: _, [], E => by simp only [backW]
theorem backW_get : ∀ {os : List Opd} {ws ws' : List Wv} {E : En} {i : Nat}, i < E.length → (backW os ws ws' E)[i]? = match bor os ws ws' i with | some w => some (some w) | none => E[i]?
  | .pk k :: os, .own _ :: ws, w' :: ws', E, i, h => by
    simp only [backW, bor]
    rw [backW_get (by rw [List.length_set]; exact h)]
    cases bor os ws ws' i with
    | some x => rfl
    | none =>
      by_cases hk : k = i
      · subst hk
        simp [h]
      · simp [hk]
  | .pk _ :: os, .val _ :: ws, _ :: ws', E, i, h => by simp only [backW, bor]; exact backW_get h
  | .ex _ :: os, _ :: ws, _ :: ws', E, i, h => by simp only [backW, bor]; exact backW_get h
  | [], _, _, E, i, h => by simp only [backW, bor]
  | .pk _ :: os, [], _, E, i, h => by simp only [backW, bor]
  | .pk _ :: os, .own _ :: _, [], E, i, h => by simp only [backW, bor]
  | .pk _ :: os, .val _ :: _, [], E, i, h => by simp only [backW, bor]
  | .ex _ :: os, [], _, E, i, h => by simp only [backW, bor]
  | .ex _ :: os, _ :: _, [], E, i, h => by simp only [backW, bor]
theorem bor_some : ∀ {os : List Opd} {ws ws' : List Wv} {i : Nat} {w : Wv}, bor os ws ws' i = some w → ∃ (j : Nat) (ds : List D), os[j]? = some (.pk i) ∧ ws[j]? = some (.own ds) ∧ ws'[j]? = some w
  | .pk k :: os, .own ds :: ws, w' :: ws', i, w, h => by
    simp only [bor] at h
    cases e : bor os ws ws' i with
    | some x =>
      rw [e] at h
      cases h
      obtain ⟨j, ds, h1, h2, h3⟩ := bor_some e
      exact ⟨j + 1, ds, h1, h2, h3⟩
    | none =>
      rw [e] at h
      simp only [Option.none_or] at h
      split at h
      · rename_i hk
        subst hk
        cases h
        exact ⟨0, ds, rfl, rfl, rfl⟩
      · cases h
  | .pk _ :: os, .val _ :: ws, _ :: ws', i, w, h => by
    simp only [bor] at h
    obtain ⟨j, ds, h1, h2, h3⟩ := bor_some h
    exact ⟨j + 1, ds, h1, h2, h3⟩
  | .ex _ :: os, _ :: ws, _ :: ws', i, w, h => by
    simp only [bor] at h
    obtain ⟨j, ds, h1, h2, h3⟩ := bor_some h
    exact ⟨j + 1, ds, h1, h2, h3⟩
theorem bor_none : ∀ {os : List Opd} {ws ws' : List Wv} {i j : Nat} {ds : List D}, bor os ws ws' i = none → ws.length = ws'.length → os[j]? = some (.pk i) → ws[j]? = some (.own ds) → False
  | .pk k :: os, .own ds :: ws, w' :: ws', i, j, es, h, hl, h1, h2 => by
    simp only [bor] at h
    cases e : bor os ws ws' i with
    | some x => rw [e] at h; cases h
    | none =>
      rw [e] at h
      cases j with
      | zero =>
        simp at h1
        subst h1
        simp at h
      | succ j => exact bor_none e (by simpa using hl) (by simpa using h1) (by simpa using h2)
  | .pk _ :: os, .val _ :: ws, _ :: ws', i, j, es, h, hl, h1, h2 => by
    simp only [bor] at h
    cases j with
    | zero => simp at h2
    | succ j => exact bor_none h (by simpa using hl) (by simpa using h1) (by simpa using h2)
  | .ex _ :: os, _ :: ws, _ :: ws', i, j, es, h, hl, h1, h2 => by
    simp only [bor] at h
    cases j with
    | zero => simp at h1
    | succ j => exact bor_none h (by simpa using hl) (by simpa using h1) (by simpa using h2)
  | [], _, _, i, j, es, h, hl, h1, h2 => by simp at h1
  | _ :: _, [], _, i, j, es, h, hl, h1, h2 => by simp at h2
  | _ :: _, _ :: _, [], i, j, es, h, hl, h1, h2 => by simp at hl
theorem ArgR.own : ∀ {os : List Opd} {ws : List Wv} {vs : List V} {j : Nat} {ds : List D}, ArgR K F E σ H os ws vs → ws[j]? = some (.own ds) → ∃ (i : Nat) (v : V), os[j]? = some (.pk i) ∧ E[i]? = some (some (.own ds)) ∧ vs[j]? = some v ∧ σ[i]? = some (some v)
  | _, _, _, 0, ds, .pk h1 h2 t, e => by simp at e; subst e; exact ⟨_, _, rfl, h1, rfl, h2⟩
  | _, _, _, j + 1, ds, .pk h1 h2 t, e => by
    obtain ⟨i, v, q1, q2, q3, q4⟩ := ArgR.own (j := j) t (by simpa using e)
    exact ⟨i, v, by simpa using q1, q2, by simpa using q3, q4⟩
  | _, _, _, 0, ds, .ex h t, e => by simp at e
  | _, _, _, j + 1, ds, .ex h t, e => by
    obtain ⟨i, v, q1, q2, q3, q4⟩ := ArgR.own (j := j) t (by simpa using e)
    exact ⟨i, v, by simpa using q1, q2, by simpa using q3, q4⟩
theorem ArgR.vl (r : EnvR K F E σ H) : ∀ {os : List Opd} {ws : List Wv} {vs : List V} {j : Nat} {d : D}, ArgR K F E σ H os ws vs → ws[j]? = some (.val d) → ∃ (v : V), vs[j]? = some v ∧ RelD K (F.or (Own E σ)) H v d
  | _, _, _, 0, d, .pk h1 h2 t, e => by
    simp at e; subst e
    obtain ⟨v', q1, q2⟩ := r.val _ d h1
    rw [h2] at q1; cases q1
    exact ⟨_, rfl, q2⟩
  | _, _, _, j + 1, d, .pk h1 h2 t, e => by
    obtain ⟨v, q1, q2⟩ := ArgR.vl r (j := j) t (by simpa using e)
    exact ⟨v, by simpa using q1, q2⟩
  | _, _, _, 0, d, .ex h t, e => by simp at e; subst e; exact ⟨_, rfl, h⟩
  | _, _, _, j + 1, d, .ex h t, e => by
    obtain ⟨v, q1, q2⟩ := ArgR.vl r (j := j) t (by simpa using e)
    exact ⟨v, by simpa using q1, q2⟩
theorem ArgR.len : ∀ {os : List Opd} {ws : List Wv} {vs : List V}, ArgR K F E σ H os ws vs → ws.length = vs.length ∧ os.length = ws.length
  | _, _, _, .nil => ⟨rfl, rfl⟩
  | _, _, _, .pk _ _ t => by have := ArgR.len t; simp [this.1, this.2]
  | _, _, _, .ex _ t => by have := ArgR.len t; simp [this.1, this.2]
theorem ownIx_at : ∀ {os : List Opd} {ws : List Wv} {j k i : Nat} {ds es : List D}, (ownIx os ws).Nodup → os[j]? = some (.pk i) → ws[j]? = some (.own ds) → os[k]? = some (.pk i) → ws[k]? = some (.own es) → j = k := by
  have mem : ∀ {os : List Opd} {ws : List Wv} {j i : Nat} {ds : List D}, os[j]? = some (.pk i) → ws[j]? = some (.own ds) → i ∈ ownIx os ws := by
    intro os
    induction os with
    | nil => intro ws j i ds h; simp at h
    | cons o os ih =>
      intro ws j i ds h1 h2
      cases ws with
      | nil => simp at h2
      | cons w ws =>
        cases j with
        | zero => simp at h1 h2; subst h1 h2; simp [ownIx]
        | succ j =>
          have := ih (ws := ws) (j := j) (by simpa using h1) (by simpa using h2)
          cases o with
          | ex f => simpa [ownIx] using this
          | pk k => cases w with
            | val d => simpa [ownIx] using this
            | own d => simp [ownIx, this]
  intro os
  induction os with
  | nil => intro ws j k i ds es hn h1; simp at h1
  | cons o os ih =>
    intro ws j k i ds es hn h1 h2 h3 h4
    cases ws with
    | nil => simp at h2
    | cons w ws =>
      cases j with
      | zero =>
        cases k with
        | zero => rfl
        | succ k =>
          simp at h1 h2; subst h1 h2
          simp only [ownIx, List.nodup_cons] at hn
          exact absurd (mem (by simpa using h3) (by simpa using h4)) hn.1
      | succ j =>
        cases k with
        | zero =>
          simp at h3 h4; subst h3 h4
          simp only [ownIx, List.nodup_cons] at hn
          exact absurd (mem (by simpa using h1) (by simpa using h2)) hn.1
        | succ k =>
          have hn' : (ownIx os ws).Nodup := by
            cases o with
            | ex f => simpa [ownIx] using hn
            | pk q => cases w with
              | val d => simpa [ownIx] using hn
              | own d => simp only [ownIx, List.nodup_cons] at hn; exact hn.2
          have := ih hn' (by simpa using h1) (by simpa using h2) (by simpa using h3) (by simpa using h4)
          omega
/-- the callee's frame -/
def Fc (F : Ms) (E : En) (σ : Sg) (ws : List Wv) (vs : List V) : Ms := fun a => (F.or (Own E σ)) a ∧ ¬ Own (ws.map some) (vs.map some) a
theorem ArgR.sub (ar : ArgR K F E σ H os ws vs) {a : Addr} (z : Own (ws.map some) (vs.map some) a) : ∃ (i j : Nat) (ds : List D), os[j]? = some (.pk i) ∧ ws[j]? = some (.own ds) ∧ E[i]? = some (some (.own ds)) ∧ σ[i]? = some (some (.ref a)) ∧ vs[j]? = some (.ref a) := by
  obtain ⟨j, ds, e1, e2⟩ := z
  obtain ⟨i, v, q1, q2, q3, q4⟩ := ar.own (map_some_get e1)
  have := map_some_get e2
  rw [q3] at this; cases this
  exact ⟨i, j, ds, q1, map_some_get e1, q2, q4, q3⟩
theorem EnvR.callee (r : EnvR K F E σ H) (ar : ArgR K F E σ H os ws vs) (nd : (ownIx os ws).Nodup) : EnvR K (Fc F E σ ws vs) (ws.map some) (vs.map some) H := by
  have g : ∀ a, ((Fc F E σ ws vs).or (Own (ws.map some) (vs.map some))) a → (F.or (Own E σ)) a ∨ H a = none := fun a z => .inl (z.elim (fun z => z.1) fun z => by
    obtain ⟨i, j, ds, _, _, h1, h2, _⟩ := ar.sub z
    exact .inr ⟨i, ds, h1, h2⟩)
  refine ⟨by simp [ar.len.1], fun i d e => ?_, fun i ds e => ?_, fun i j ds es a e1 e2 s1 s2 => ?_, fun a z => r.moO a z.1⟩
  · obtain ⟨v, q1, q2⟩ := ar.vl r (map_some_get e)
    exact ⟨v, by rw [List.getElem?_map, q1]; rfl, q2.step r.moO g fun _ _ e _ => e⟩
  · obtain ⟨k, v, q1, q2, q3, q4⟩ := ar.own (map_some_get e)
    obtain ⟨a, xs, h1, h2, h3, h4⟩ := r.own k ds q2
    rw [q4] at h1; cases h1
    have z : (vs.map some)[i]? = some (some (.ref a)) := by rw [List.getElem?_map, q3]; rfl
    exact ⟨a, xs, z, h2, h3.step r.moO g (fun _ _ e _ => e), fun zz => zz.2 ⟨i, ds, e, z⟩⟩
  · obtain ⟨k, v, q1, q2, q3, q4⟩ := ar.own (map_some_get e1)
    obtain ⟨k', v', p1, p2, p3, p4⟩ := ar.own (map_some_get e2)
    have z1 := map_some_get s1
    have z2 := map_some_get s2
    rw [q3] at z1; rw [p3] at z2
    cases z1; cases z2
    have := r.inj k k' _ _ a q2 p2 q4 p4
    subst this
    exact ownIx_at nd q1 (map_some_get e1) p1 (map_some_get e2)
theorem Post.caller (r : EnvR K F E σ H) (ar : ArgR K F E σ H os ws vs) (nd : (ownIx os ws).Nodup) (p : Post K (Fc F E σ ws vs) (ws.map some) (vs.map some) H w (ws'.map some) v H2) : Post K F E σ H w (backW os ws ws' E) v H2 := by
  have hl : ws.length = ws'.length := by
    have h1 := p.env.len
    have h2 := ar.len.1
    simp only [List.length_map] at h1
    omega
  have new : ∀ a, tmp v w a → H a = none := fun a z => by
    cases w with
    | val d => exact z.elim
    | own ds =>
      obtain ⟨b, xs, rfl, h1, _⟩ := p.rel
      have z' : V.ref b = .ref a := z
      cases z'; exact h1
  have asub : ∀ a, Own (ws.map some) (vs.map some) a → Own E σ a := fun a z => by
    obtain ⟨i, j, ds, _, _, h1, h2, _⟩ := ar.sub z
    exact ⟨i, ds, h1, h2⟩
  -- what stands in a slot behind the call
  have slot : ∀ {i : Nat} {u : Wv}, (backW os ws ws' E)[i]? = some (some u) → (E[i]? = some (some u) ∧ bor os ws ws' i = none) ∨ ∃ (j : Nat) (ds : List D), os[j]? = some (.pk i) ∧ ws[j]? = some (.own ds) ∧ ws'[j]? = some u ∧ E[i]? = some (some (.own ds)) ∧ σ[i]? = (vs.map some)[j]? := fun {i u} h => by
    have hi : i < E.length := by
      have := (List.getElem?_eq_some_iff.mp h).1
      rw [backW_len] at this; exact this
    rw [backW_get hi] at h
    cases e : bor os ws ws' i with
    | none => rw [e] at h; exact .inl ⟨h, rfl⟩
    | some x =>
      rw [e] at h
      cases h
      obtain ⟨j, ds, h1, h2, h3⟩ := bor_some e
      obtain ⟨k, v', q1, q2, q3, q4⟩ := ar.own h2
      rw [h1] at q1; cases q1
      exact .inr ⟨j, ds, h1, h2, h3, q2, by rw [q4, List.getElem?_map, q3]; rfl⟩
  have notB : ∀ {i : Nat} {ds : List D} {a : Addr}, bor os ws ws' i = none → E[i]? = some (some (.own ds)) → σ[i]? = some (some (.ref a)) → ¬ Own (ws.map some) (vs.map some) a := fun {i ds a} hb e s z => by
    obtain ⟨i', j, es, q1, q2, q3, q4, _⟩ := ar.sub z
    have := r.inj i i' ds es a e q3 s q4
    subst this
    exact bor_none hb hl q1 q2
  have osub : ∀ a, Own (backW os ws ws' E) σ a → Own E σ a ∧ (Own (ws'.map some) (vs.map some) a ∨ ¬ Own (ws.map some) (vs.map some) a) := fun a ⟨i, ds, e1, e2⟩ => by
    rcases slot e1 with ⟨h1, hb⟩ | ⟨j, es, h1, h2, h3, h4, h5⟩
    · exact ⟨⟨i, ds, h1, e2⟩, .inr (notB hb h1 e2)⟩
    · exact ⟨⟨i, es, h4, e2⟩, .inl ⟨j, ds, by rw [List.getElem?_map, h3]; rfl, by rw [← h5]; exact e2⟩⟩
  -- marks: from the caller's to the callee's
  have gc : ∀ a, ((F.or (tmp v w)).or (Own (backW os ws ws' E) σ)) a → (((Fc F E σ ws vs).or (tmp v w)).or (Own (ws'.map some) (vs.map some))) a ∨ H2 a = none := fun a z => by
    rcases z with (z | z) | z
    · exact .inl (.inl (.inl ⟨.inl z, fun zz => r.nfo (asub a zz) z⟩))
    · exact .inl (.inl (.inr z))
    · obtain ⟨z1, z2⟩ := osub a z
      rcases z2 with z2 | z2
      · exact .inl (.inr z2)
      · exact .inl (.inl (.inl ⟨.inr z1, z2⟩))
  have gs : ∀ a, ((F.or (tmp v w)).or (Own (backW os ws ws' E) σ)) a → (F.or (Own E σ)) a ∨ H a = none := fun a z => by
    rcases z with (z | z) | z
    · exact .inl (.inl z)
    · exact .inr (new a z)
    · exact .inl (.inr (osub a z).1)
  have ks : ∀ a o, H a = some o → ¬ (F.or (Own E σ)) a → H2 a = some o := fun a o e n => p.ext.keep a o e fun z => n (.inr (asub a z))
  refine ⟨⟨by rw [backW_len]; exact r.len, fun i d e => ?_, fun i ds e => ?_, fun i j ds es a e1 e2 s1 s2 => ?_, fun a z => ?_⟩, p.ext.weak asub, fun a z => (osub a z).1, ?_, fun i z => ?_⟩
  · rcases slot e with ⟨h1, _⟩ | ⟨j, es, h1, h2, h3, h4, h5⟩
    · obtain ⟨v', q1, q2⟩ := r.val i d h1
      exact ⟨v', q1, q2.step r.moO gs ks⟩
    · obtain ⟨v', q1, q2⟩ := p.env.val j d (by rw [List.getElem?_map, h3]; rfl)
      exact ⟨v', by rw [h5]; exact q1, q2.step p.env.moO gc fun _ _ e _ => e⟩
  · rcases slot e with ⟨h1, hb⟩ | ⟨j, es, h1, h2, h3, h4, h5⟩
    · obtain ⟨a, xs, q1, q2, q3, q4⟩ := r.own i ds h1
      refine ⟨a, xs, q1, p.ext.keep a _ q2 (notB hb h1 q1), q3.step r.moO gs ks, fun z => z.elim q4 fun z => ?_⟩
      rw [new a z] at q2; cases q2
    · obtain ⟨a, xs, q1, q2, q3, q4⟩ := p.env.own j ds (by rw [List.getElem?_map, h3]; rfl)
      refine ⟨a, xs, by rw [h5]; exact q1, q2, q3.step p.env.moO gc (fun _ _ e _ => e), fun z => ?_⟩
      rcases z with z | z
      · exact r.nfo ⟨i, es, h4, by rw [h5]; exact q1⟩ z
      · exact q4 (.inr z)
  · have un : ∀ {i : Nat} {ds : List D}, (backW os ws ws' E)[i]? = some (some (.own ds)) → ∃ es, E[i]? = some (some (.own es)) := fun {i ds} h => by
      rcases slot h with ⟨h1, _⟩ | ⟨j, es, _, _, _, h4, _⟩
      · exact ⟨ds, h1⟩
      · exact ⟨es, h4⟩
    obtain ⟨_, u1⟩ := un e1
    obtain ⟨_, u2⟩ := un e2
    exact r.inj i j _ _ a u1 u2 s1 s2
  · rcases z with z | z
    · exact p.env.mo a (.inl ⟨.inl z, fun zz => r.nfo (asub a zz) z⟩)
    · exact p.env.mo a (.inr z)
  · have q := p.rel
    cases w with
    | val d => exact RelD.step p.env.moO gc (fun _ _ e _ => e) q
    | own ds =>
      obtain ⟨a, xs, h1, h2, h3, h4⟩ := q
      exact ⟨a, xs, h1, h2, h3, h4.step p.env.moO gc fun _ _ e _ => e⟩
  · obtain ⟨ds, z⟩ := z
    have hi : i < E.length := by
      rcases z with z | z <;> exact (List.getElem?_eq_some_iff.mp z).1
    unfold isL
    rw [backW_get hi]
    cases e : bor os ws ws' i with
    | none => exact ⟨ds, z⟩
    | some x =>
      obtain ⟨j, es, h1, h2, h3⟩ := bor_some e
      obtain ⟨fs, z'⟩ := p.lk j ⟨es, .inl (by rw [List.getElem?_map, h2]; rfl)⟩
      refine ⟨fs, ?_⟩
      rcases z' with z' | z' <;> (have := map_some_get z'; rw [h3] at this; cases this)
      · exact .inl rfl
      · exact .inr rfl
end
theorem de_call {X : Cx} {k np : Nat} {x : Str} {ps : List Str} {f : Fn} {e : Expr} {es : List Expr} {os : List Opd} {p pos : Pos} (d : St.Dfn X.prog X.w X.K X.mg X.base x k ps (spD X.K np f)) (hr : Room k X.A) (hg : Gl X x) (ha : DOs X (e :: es) os)
    (hdb : (x == ("__debug__" : Str)) = false := by decide) (he : starEach (e :: es) X.env = (false, eval e X.env) :: starEach es X.env := by rfl) (hpl : (backTo pos (starEach es X.env)).any (·.1) = false := by rfl) :
    DE X (.Call (.Name x p) (e :: es) [] pos) (eCall np f os) := ⟨pe_mono (St.pe_fn d hr hg ha.pe hdb he hpl) fun σ H Q z => by
  obtain ⟨F, E, w, E', e, r, q⟩ := z
  obtain ⟨⟨ws, E1⟩, e1, e⟩ := bindE e
  dsimp only at e
  split at e
  · rename_i hk
    rw [Bool.and_eq_true] at hk
    have nd := of_decide_eq_true hk.1
    have hnp := of_decide_eq_true hk.2
    cases e2 : f ws with
    | none => rw [e2] at e; cases e
    | some p =>
      obtain ⟨w1, ws'⟩ := p
      rw [e2] at e
      simp only [Option.map_some, Option.some.injEq, Prod.mk.injEq] at e
      obtain ⟨rfl, rfl⟩ := e
      refine evs_ok e1 r fun vs H1 p => ?_
      rw [List.append_nil]
      exact ⟨_, ws, w1, ws', hnp, e2, p.env.callee p.args nd, fun v H2 p2 => q _ _ ((Post.caller p.env p.args nd p2).after p.ext p.sub p.lk)⟩
  · cases e⟩
end Mi
end
section
set_option Elab.async false
set_option linter.all false
set_option maxRecDepth 100000
set_option maxHeartbeats 4000000
namespace Mi
open PySem PySem.Spec L2
/-! ### targets -/
abbrev Tf := D → En → Option En
structure Stp (n : Nat) (E : En) (σ : Sg) (E' : En) (σ' : Sg) : Prop where
  own : ∀ (i : Nat) (ds : List D), E'[i]? = some (some (.own ds)) → E[i]? = some (some (.own ds)) ∧ σ'[i]? = σ[i]?
  par : ∀ i, i < n → isL E i → E'[i]? = E[i]? ∧ σ'[i]? = σ[i]?
theorem Stp.refl {n : Nat} {E : En} {σ : Sg} : Stp n E σ E σ := ⟨fun _ _ e => ⟨e, rfl⟩, fun _ _ _ => ⟨rfl, rfl⟩⟩
theorem Stp.trans {n : Nat} {E E1 E2 : En} {σ σ1 σ2 : Sg} (h : Stp n E σ E1 σ1) (g : Stp n E1 σ1 E2 σ2) : Stp n E σ E2 σ2 := by
  refine ⟨fun i ds e => ?_, fun i hi z => ?_⟩
  · obtain ⟨h1, h2⟩ := g.own i ds e
    obtain ⟨h3, h4⟩ := h.own i ds h1
    exact ⟨h3, h2.trans h4⟩
  · obtain ⟨h1, h2⟩ := h.par i hi z
    have z' : isL E1 i := by unfold isL; rw [h1]; exact z
    obtain ⟨h3, h4⟩ := g.par i hi z'
    exact ⟨h3.trans h1, h4.trans h2⟩
theorem Stp.sub {n : Nat} {E E' : En} {σ σ' : Sg} (h : Stp n E σ E' σ') {a : Addr} (z : Own E' σ' a) : Own E σ a := by
  obtain ⟨i, ds, e1, e2⟩ := z
  obtain ⟨h1, h2⟩ := h.own i ds e1
  exact ⟨i, ds, h1, by rw [← h2]; exact e2⟩
def tG (K : PySem.W.Frag) (n : Nat) (t : Tf) : TG := fun v σ H Q => ∃ F d E E', t d E = some E' ∧ EnvR K F E σ H ∧ RelD K (F.or (Own E σ)) H v d ∧ ∀ σ', EnvR K F E' σ' H → Stp n E σ E' σ' → Q σ' H
structure DG (X : Cx) (n : Nat) (tg : Expr) (t : Tf) : Prop where
  pe : PG X tg (tG X.K n t)
def tNm (n i : Nat) : Tf := fun d E => if canSet n E i = true then some (E.set i (some (.val d))) else none
theorem pg_mono {X : Cx} {e : Expr} {t t' : TG} (h : PG X e t) (m : ∀ v σ H Q, t' v σ H Q → t v σ H Q) : PG X e t' := fun pins s σ H v u Q I r q => h pins s σ H v u Q I r (m _ _ _ _ q)
theorem stp_put {K : PySem.W.Frag} {F : Ms} {E : En} {σ : Sg} {H : Hp} {n i : Nat} {d : D} {v : V} (r : EnvR K F E σ H) (rd : RelD K (F.or (Own E σ)) H v d) (hc : canSet n E i = true) :
    EnvR K F (E.set i (some (.val d))) (σ.set i (some v)) H ∧ Stp n E σ (E.set i (some (.val d))) (σ.set i (some v)) := by
  unfold canSet at hc
  rw [Bool.and_eq_true] at hc
  have hi := of_decide_eq_true hc.1
  have hl := r.len
  have p := post_same r rd
  refine ⟨EnvR.put hi p.env p.rel fun a z => z.elim, fun j ds e => ?_, fun j hj z => ?_⟩
  · by_cases h : i = j
    · subst h; rw [List.getElem?_set_self hi] at e; cases e
    · rw [List.getElem?_set_ne h] at e; exact ⟨e, List.getElem?_set_ne h⟩
  · have h : i ≠ j := fun h => by
      subst h
      rw [isLb_of z, Bool.or_eq_true] at hc
      rcases hc.2 with z | z
      · have := of_decide_eq_true z; omega
      · cases z
    exact ⟨List.getElem?_set_ne h, List.getElem?_set_ne h⟩
theorem dg_nm {X : Cx} {n : Nat} {pos : Pos} (i : Nat) {x : Str} (hN : X.N.Nodup) (hi : X.N[i]? = some x := by rfl) (hx : Loc X.env.scope x := by first | exact Or.inl rfl | exact Or.inr rfl)
    (hf : X.fn x = true ∨ X.env.scope.names.lookup x = some .local := by first | exact .inl rfl | exact .inr rfl) : DG X n (.Name x pos) (tNm n i) := ⟨pg_mono (pg_name hN hi hx hf) fun v σ H Q z => by
  obtain ⟨F, d, E, E', e, r, rd, q⟩ := z
  unfold tNm at e
  split at e
  · cases e
    obtain ⟨r1, s1⟩ := stp_put r rd (by assumption)
    exact q _ r1 s1
  · cases e⟩
/-- several, of a tuple's parts -/
def tMs : List Tf → List D → En → Option En
  | [], [], E => some E
  | t :: ts, d :: ds, E => (t d E).bind fun E1 => tMs ts ds E1
  | _, _, _ => none
def tTp (ts : List Tf) : Tf := fun d E => match d with
  | .tup ds => tMs ts ds E
  | _ => none
def tGs (K : PySem.W.Frag) (n : Nat) : List Tf → TGs
  | [] => gNil
  | t :: ts => gCons (tG K n t) (tGs K n ts)
theorem tMs_ok {K : PySem.W.Frag} {F : Ms} {n : Nat} {H : Hp} : ∀ {ts : List Tf} {ds : List D} {vs : List V} {E E' : En} {σ : Sg} {Q : Sg → Hp → Prop}, tMs ts ds E = some E' → EnvR K F E σ H → RelDs K (F.or (Own E σ)) H vs ds → (∀ σ', EnvR K F E' σ' H → Stp n E σ E' σ' → Q σ' H) → tGs K n ts vs σ H Q
  | [], [], _, E, E', σ, Q, e, r, rd, q => by
    cases e
    cases rd
    exact ⟨rfl, q _ r .refl⟩
  | t :: ts, d :: ds, _, E, E', σ, Q, e, r, rd, q => by
    obtain ⟨E1, e1, e⟩ := bindE e
    cases rd with
    | cons h1 h2 =>
      refine ⟨_, _, rfl, F, d, E, E1, e1, r, h1, fun σ1 r1 s1 => ?_⟩
      exact tMs_ok e r1 (h2.step r.moO (fun a z => .inl (z.imp id s1.sub)) fun _ _ e _ => e) fun σ2 r2 s2 => q _ r2 (s1.trans s2)
  | [], _ :: _, _, E, E', σ, Q, e, r, rd, q => by cases e
  | _ :: _, [], _, E, E', σ, Q, e, r, rd, q => by cases e
theorem tMs_len : ∀ {ts : List Tf} {ds : List D} {E E' : En}, tMs ts ds E = some E' → ds.length = ts.length
  | [], [], _, _, _ => rfl
  | t :: ts, d :: ds, E, E', e => by
    obtain ⟨E1, e1, e⟩ := bindE e
    simp [tMs_len e]
  | [], _ :: _, _, _, e => by cases e
  | _ :: _, [], _, _, e => by cases e
structure DGs (X : Cx) (n : Nat) (es : List Expr) (ts : List Tf) : Prop where
  pe : PGs X es (tGs X.K n ts)
theorem dgs_nil {X : Cx} {n : Nat} : DGs X n [] [] := ⟨pgs_nil⟩
theorem dgs_cons {X : Cx} {n : Nat} {e : Expr} {es : List Expr} {t : Tf} {ts : List Tf} (h : DG X n e t) (g : DGs X n es ts) (hs : (assignEach (e :: es) X.env).map (·.2) = assign e X.env :: (assignEach es X.env).map (·.2) := by rfl) : DGs X n (e :: es) (t :: ts) := ⟨pgs_cons h.pe g.pe hs⟩
theorem dg_tp {X : Cx} {n k : Nat} {es : List Expr} {ts : List Tf} {pos : Pos} (hc : X.calm = true) (h : DGs X n es ts) (hn : (assignEach es X.env).length = ts.length := by rfl) (hst : (assignEach es X.env).findIdx? (·.1) = none := by rfl) : DG X n (.Tuple es k pos) (tTp ts) := ⟨
  pg_mono (pg_tup hc h.pe hn hst) fun v σ H Q z => by
    obtain ⟨F, d, E, E', e, r, rd, q⟩ := z
    unfold tTp at e
    split at e
    · cases rd with
      | tup h1 h2 => exact ⟨_, _, rfl, h1, by rw [h2.length]; exact tMs_len e, tMs_ok e r h2 q⟩
    · cases e⟩
section
variable {K : PySem.W.Frag} {F : Ms} {E₀ E E1 : En} {σ₀ σ σ1 : Sg} {H₀ H H1 : Hp} {n : Nat}
theorem FR.stp (hn : E₀.length ≤ n) (r : FR K F E₀ σ₀ H₀ E σ H) (r1 : EnvR K F E1 σ1 H) (s : Stp n E σ E1 σ1) : FR K F E₀ σ₀ H₀ E1 σ1 H := by
  refine ⟨r1, r.ext, fun a z => r.loc a (s.sub z), fun i es e => ?_⟩
  obtain ⟨k1, k2⟩ := r.keep i es e
  obtain ⟨h1, h2⟩ := s.par i (by have := (List.getElem?_eq_some_iff.mp e).1; omega) k2
  exact ⟨h2.trans k1, by unfold isL; rw [h1]; exact k2⟩
theorem Mv.stp (s : Stp n E σ E1 σ1) : Mv E σ H E1 σ1 H := ⟨.refl, fun a z => .inl (s.sub z)⟩
/-- more has come -/
theorem FR.grow (r : FR K F E₀ σ₀ H₀ E σ H) (k : ∀ a o, H a = some o → H1 a = some o) : FR K F E₀ σ₀ H₀ E σ H1 ∧ Mv E σ H E σ H1 := by
  have x : Ext (Own E σ) H H1 := ⟨fun a o e _ => k a o e, fun a e z => by
    cases h : H a with
    | none => exact e h
    | some o => rw [k a o h] at z; cases z⟩
  refine ⟨⟨r.env.step (fun _ z => .inl z) (fun a o e _ => k a o e) fun a z => ?_, r.ext.trans x r.loc, r.loc, r.keep⟩, x, fun a z => .inl z⟩
  obtain ⟨xs, h⟩ := r.env.mo a z
  exact ⟨xs, k _ _ h⟩
end
/-- a, b = e -/
def xUnp (t : Tf) (k : Ev) : Ex := fun E => (k E).bind fun r => (t (fz r.1) r.2).map fun E' => (.nx, E')
theorem ds_unp {X : Cx} {n : Nat} {tg e : Expr} {t : Tf} {k : Ev} {pos : Pos} (h : DE X e k) (hg : DG X n tg t) (hs : swapsWithSole [tg] e pos.line X.env = pure false := by rfl) (hw : swappedStores [tg] e X.env = pure none := by rfl)
    (h1 : (assignEach [tg] X.env).map (·.2) = [assign tg X.env] := by rfl) : DS X n (.Assign [tg] e pos) (xUnp t k) := ⟨ps_mono (ps_asg h.pe hg.pe hs hw h1) fun Dn σ H z => by
  obtain ⟨F, E₀, σ₀, H₀, E, fl, E', hn, e, r0, r, q⟩ := z
  obtain ⟨⟨w, E1⟩, e1, e⟩ := bindE e
  dsimp only at e
  cases e2 : t (fz w) E1 with
  | none => rw [e2] at e; cases e
  | some E2 =>
    rw [e2] at e
    cases e
    refine ⟨F, E, w, E1, e1, r.env, fun v H1 p1 => ?_⟩
    obtain ⟨r1, d1⟩ := p1.fz r.env
    exact ⟨F, _, E1, _, e2, r1, d1, fun σ' r2 s2 => q _ _ ((r.expr r1 p1.ext p1.sub p1.lk).stp hn r2 s2) ((Mv.post p1).trans (.stp s2))⟩⟩

/-! ### what is walked -/
abbrev Sr := En → Option (List D × En)
structure ItOk (K : PySem.W.Frag) (M : Ms) (H : Hp) (ds : List D) (J : It) : Prop where
  go : ∀ (i : Nat) (H2 : Hp), (∀ a o, H a = some o → ¬ M a → H2 a = some o) → i < ds.length → J.go i H2
  stop : ∀ (i : Nat) (H2 : Hp), (∀ a o, H a = some o → ¬ M a → H2 a = some o) → ds.length ≤ i → J.stop i H2
  yld : ∀ (i : Nat) (H2 : Hp) (x : V) (H3 : Hp) (d : D) (M2 : Ms), (∀ a o, H a = some o → ¬ M a → H2 a = some o) → (∀ a, M2 a → M a ∨ H a = none) → MOk M2 H2 → ds[i]? = some d → J.yld i H2 x H3 → (∀ a o, H2 a = some o → H3 a = some o) ∧ RelD K M2 H3 x d
structure IPost (K : PySem.W.Frag) (F : Ms) (E : En) (σ : Sg) (H : Hp) (ds : List D) (E' : En) (J : It) (H' : Hp) : Prop where
  env : EnvR K F E' σ H'
  ext : Ext (Own E σ) H H'
  sub : ∀ a, Own E' σ a → Own E σ a
  lk : Lk E E'
  it : ItOk K (F.or (Own E' σ)) H' ds J
def tI (K : PySem.W.Frag) (s : Sr) : TI := fun σ H R => ∃ F E ds E', s E = some (ds, E') ∧ EnvR K F E σ H ∧ ∀ J H', IPost K F E σ H ds E' J H' → R J H'
structure DI (X : Cx) (tg iter : Expr) (s : Sr) : Prop where
  pe : PI X tg iter (tI X.K s)
theorem pi_mono {X : Cx} {tg e : Expr} {t t' : TI} (h : PI X tg e t) (m : ∀ σ H R, t' σ H R → t σ H R) : PI X tg e t' := fun pins s σ H R I q => h pins s σ H R I (m _ _ _ q)
def iAny (K : PySem.W.Frag) (tl : TE) : TI := fun σ H R => tl σ H fun x H1 => ∃ a, x = .ref a ∧ (((∃ xs, SqL K H1 a xs) ∧ R (Itl K a) H1) ∨ ((∃ xs, SqT K H1 a xs) ∧ R (Itt K a) H1))
theorem pi_any {X : Cx} {tg l : Expr} {tl : TE} (hl : PE X l tl) : PI X tg l (iAny X.K tl) := by
  intro pins s σ H R I h
  refine thn (hl pins s σ H _ I h) fun v s1 ⟨x, H1, I1, r1, q1⟩ => ?_
  obtain ⟨a, e, q1⟩ := q1
  subst e
  cases r1
  rcases q1 with ⟨⟨xs, hq⟩, q⟩ | ⟨⟨xs, hq⟩, q⟩
  · obtain ⟨its, rv, p, hz⟩ := I1.list hq
    refine wpAny_pyIter_list p.isList ?_
    refine ⟨s1.heap.objs.size, [s1.heap.objs.size], _, _, H1, rfl, I1.kept (t' := s1.toks) fun b o e => Heap.get?_push_of_some _ e, turn_list a _, ⟨_, Heap.get?_push_size _ rfl, rfl, rfl⟩, fun b hb => ?_, q⟩
    have e : b = s1.heap.objs.size := by simpa using hb
    subst e
    exact I1.fpOk (Nat.le_refl _) (I1.hok.fresh (Nat.le_refl _))
  · obtain ⟨its, rv, p, hz⟩ := I1.tuple hq
    refine wpAny_pyIter_tuple (show s1.heap.IsTuple a its.toArray from p) ?_
    refine ⟨s1.heap.objs.size, [s1.heap.objs.size], _, _, H1, rfl, I1.kept (t' := s1.toks) fun b o e => Heap.get?_push_of_some _ e, turn_tuple a _, ⟨_, Heap.get?_push_size _ rfl, rfl, rfl⟩, fun b hb => ?_, q⟩
    have e : b = s1.heap.objs.size := by simpa using hb
    subst e
    exact I1.fpOk (Nat.le_refl _) (I1.hok.fresh (Nat.le_refl _))
theorem RelDs.get' {K : PySem.W.Frag} {M : Ms} {H : Hp} {vs : List V} {ds : List D} {i : Nat} (h : RelDs K M H vs ds) (hi : i < ds.length) : ∃ x, vs[i]? = some x := by
  have := h.length
  exact ⟨vs[i], List.getElem?_eq_getElem (by omega)⟩
theorem it_lst {K : PySem.W.Frag} {M : Ms} {H : Hp} {a : Addr} {xs : List V} {ds : List D} (mo : MOk M H) (h : H a = some (.lst xs)) (n : ¬ M a) (r : RelDs K M H xs ds) : ItOk K M H ds (Itl K a) where
  go := fun i H2 k hi => let ⟨x, hx⟩ := r.get' hi; ⟨xs, x, .of (k _ _ h n), hx⟩
  stop := fun i H2 k hi => ⟨xs, .of (k _ _ h n), by have := r.length; omega⟩
  yld := fun i H2 x H3 d M2 k g mo2 hd hy => by
    obtain ⟨rfl, hy⟩ := hy
    refine ⟨fun _ _ e => e, ?_⟩
    have hx := hy xs (.of (k _ _ h n))
    obtain ⟨x', h1, h2⟩ := r.get hd
    rw [hx] at h1; cases h1
    exact h2.step mo g k
theorem it_tup {K : PySem.W.Frag} {M : Ms} {H : Hp} {a : Addr} {xs : List V} {ds : List D} (mo : MOk M H) (h : SqT K H a xs) (r : RelDs K M H xs ds) : ItOk K M H ds (Itt K a) := by
  have kk : ∀ H2 : Hp, (∀ a o, H a = some o → ¬ M a → H2 a = some o) → SqT K H2 a xs := fun H2 k => sqT_keep h fun b o e nn => k b o e fun z => (mo b z).elim fun ys q => nn ys (Option.some.inj (e.symm.trans q))
  exact {
    go := fun i H2 k hi => let ⟨x, hx⟩ := r.get' hi; ⟨xs, x, kk H2 k, hx⟩
    stop := fun i H2 k hi => ⟨xs, kk H2 k, by have := r.length; omega⟩
    yld := fun i H2 x H3 d M2 k g mo2 hd hy => by
      obtain ⟨rfl, hy⟩ := hy
      refine ⟨fun _ _ e => e, ?_⟩
      have hx := hy xs (kk _ k)
      obtain ⟨x', h1, h2⟩ := r.get hd
      rw [hx] at h1; cases h1
      exact h2.step mo g k }
/-- for .. in e: e a list or a tuple -/
def sAny (f : Ev) : Sr := fun E => (f E).bind fun r => match fz r.1 with
  | .lst ds => some (ds, r.2)
  | .tup ds => some (ds, r.2)
  | _ => none
theorem di_any {X : Cx} {tg e : Expr} {f : Ev} (h : DE X e f) : DI X tg e (sAny f) := ⟨pi_mono (pi_any h.pe) fun σ H R z => by
  obtain ⟨F, E, ds, E', e, r, q⟩ := z
  obtain ⟨⟨w, E1⟩, e1, e⟩ := bindE e
  refine ⟨F, E, w, E1, e1, r, fun v H1 p1 => ?_⟩
  obtain ⟨r1, d1⟩ := p1.fz r
  dsimp only at e
  split at e
  · rename_i ds' ew
    cases e
    rw [ew] at d1
    cases d1 with
    | lst h.pe n rr => exact ⟨_, rfl, .inl ⟨⟨_, .of h.pe⟩, q _ _ ⟨r1, p1.ext, p1.sub, p1.lk, it_lst r1.moO h.pe n rr⟩⟩⟩
  · rename_i ds' ew
    cases e
    rw [ew] at d1
    cases d1 with
    | tup h.pe rr => exact ⟨_, rfl, .inr ⟨⟨_, h.pe⟩, q _ _ ⟨r1, p1.ext, p1.sub, p1.lk, it_tup r1.moO h.pe rr⟩⟩⟩
  · cases e⟩
/-- range(n), range(a, b) -/
def rngD (lo : Int) (n : Nat) : List D := (List.range n).map fun (i : Nat) => .int (lo + (i : Int))
theorem it_rng {K : PySem.W.Frag} {M : Ms} {H : Hp} {lo : Int} {n : Nat} : ItOk K M H (rngD lo n) (Itr lo n) where
  go := fun i H2 k hi => by
    have : i < n := by unfold rngD at hi; simpa using hi
    exact this
  stop := fun i H2 k hi => by
    have : n ≤ i := by unfold rngD at hi; simpa using hi
    exact this
  yld := fun i H2 x H3 d M2 k g mo2 hd hy => by
    obtain ⟨rfl, rfl⟩ := hy
    refine ⟨fun _ _ e => e, ?_⟩
    unfold rngD at hd
    rw [List.getElem?_map] at hd
    cases e : (List.range n)[i]? with
    | none => rw [e] at hd; cases hd
    | some j =>
      rw [e] at hd
      cases hd
      have : j = i := by
        obtain ⟨h1, h2⟩ := List.getElem?_eq_some_iff.mp e
        simpa using h2.symm
      subst this
      exact .int _
def sRng (os : List Opd) : Sr := fun E => (evs os E).bind fun r => match r.1 with
  | [.val (.int j)] => if (decide (-(2 ^ 62) ≤ j) && decide (j < 2 ^ 62)) = true then some (rngD 0 j.toNat, r.2) else none
  | [.val (.int i), .val (.int j)] => if (decide (-(2 ^ 62) ≤ i) && decide (i < 2 ^ 62) && decide (-(2 ^ 62) ≤ j) && decide (j < 2 ^ 62)) = true then some (rngD i (j - i).toNat, r.2) else none
  | _ => none
theorem shs_int {K : PySem.W.Frag} {M : Ms} {H : Hp} {vs : List V} {j : Int} (h : Shs K M H vs [.val (.int j)]) : vs = [.int j] := by
  cases h with
  | cons h t => cases t; cases h; rfl
theorem shs_ints {K : PySem.W.Frag} {M : Ms} {H : Hp} {vs : List V} {i j : Int} (h : Shs K M H vs [.val (.int i), .val (.int j)]) : vs = [.int i, .int j] := by
  cases h with
  | cons h t => cases h; cases shs_int t; rfl
theorem di_rng1 {X : Cx} {tg a : Expr} {o : Opd} {p pos : Pos} (hg : Gl X "range") (hm : X.mg "range" = none) (ha : DOs X [a] [o]) (hs : starEach [a] X.env = [(false, eval a X.env)] := by rfl) : DI X tg (.Call (.Name "range" p) [a] [] pos) (sRng [o]) := ⟨
  pi_mono (pi_range1 hg hm ha.pe hs) fun σ H R z => by
    obtain ⟨F, E, ds, E', e, r, q⟩ := z
    obtain ⟨⟨ws, E1⟩, e1, e⟩ := bindE e
    refine evs_ok e1 r fun vs H1 p => ?_
    have sh := p.args.sh p.env
    dsimp only at e
    split at e
    · split at e
      · rename_i j hk
        rw [Bool.and_eq_true] at hk
        cases e
        exact ⟨j, shs_int sh, of_decide_eq_true hk.1, of_decide_eq_true hk.2, q _ _ ⟨p.env, p.ext, p.sub, p.lk, it_rng⟩⟩
      · cases e
    · have := p.args.len
      have h2 := p.args.len.2
      simp at h2
    · cases e⟩
end Mi
end
section
set_option Elab.async false
set_option linter.all false
set_option maxRecDepth 100000
set_option maxHeartbeats 4000000
namespace Mi
open PySem PySem.Spec L2
/-! ### for -/
def forD (t : Tf) (body : Ex) : List D → En → Option (Fl × En)
  | [], E => some (.nx, E)
  | d :: ds, E => (t d E).bind fun E1 => (body E1).bind fun r => match r.1 with
    | .nx => forD t body ds r.2
    | .ret w => some (.ret w, r.2)
def xFor (s : Sr) (t : Tf) (body : Ex) : Ex := fun E => (s E).bind fun r => forD t body r.1 r.2
theorem drop_some {α : Type} {xs : List α} {i : Nat} {x : α} {r : List α} (h : xs.drop i = x :: r) : xs[i]? = some x ∧ xs.drop (i + 1) = r ∧ i < xs.length := by
  have hi : i < xs.length := by
    by_cases hi : i < xs.length
    · exact hi
    · rw [List.drop_eq_nil_of_le (by omega)] at h; cases h
  rw [List.drop_eq_getElem_cons hi] at h
  cases h
  exact ⟨List.getElem?_eq_getElem hi, rfl, hi⟩
theorem ds_for {X : Cx} {n : Nat} {tg iter : Expr} {body : List Stmt} {s : Sr} {t : Tf} {b : Ex} {pos : Pos} (hp : PassesOwn (model X.prog X.w) X.A X.env X.xe) (hc : X.calm = true) (hi : DI X tg iter s) (hg : DG X n tg t) (hb : DSs X n body b)
    (hs : ∀ x, foldedSetIterable iter X.env x = pure x := by intro _; rfl) : DS X n (.For tg iter body [] pos) (xFor s t b) := ⟨ps_mono (ps_for hp hc hi.pe hg.pe hb.pe hs) fun Dn σ H z => by
  obtain ⟨F, E₀, σ₀, H₀, E, fl, E', hn, e, r0, r, q⟩ := z
  obtain ⟨⟨ds, E1⟩, e1, e⟩ := bindE e
  dsimp only at e
  refine ⟨F, E, ds, E1, e1, r.env, fun J H1 p1 => ?_⟩
  have rr : FR X.K F E₀ σ₀ H₀ E1 σ H1 := r.expr p1.env p1.ext p1.sub p1.lk
  have q1 : End X.K F E₀ σ₀ H₀ Dn E1 σ H1 E' fl := q.later ⟨p1.ext, fun a z => .inl (p1.sub a z)⟩
  refine ⟨fun i m σ' H' => m = ds.length - i ∧ ∃ E2, forD t b (ds.drop i) E2 = some (fl, E') ∧ FR X.K F E₀ σ₀ H₀ E2 σ' H' ∧ Mv E1 σ H1 E2 σ' H', ⟨_, rfl, E1, e, rr, .refl⟩, fun i m σ2 H2 hW => ?_⟩
  obtain ⟨rfl, E2, e2, r2, m2⟩ := hW
  have keep : ∀ a o, H1 a = some o → ¬ (F.or (Own E1 σ)) a → H2 a = some o := fun a o eo no => m2.ext.keep a o eo fun z => no (.inr z)
  have mark : ∀ a, (F.or (Own E2 σ2)) a → (F.or (Own E1 σ)) a ∨ H1 a = none := fun a z => z.elim (fun z => .inl (.inl z)) fun z => (m2.loc a z).imp .inr id
  cases ed : ds.drop i with
  | nil =>
    rw [ed] at e2
    cases e2
    left
    exact ⟨p1.it.stop i H2 keep (List.drop_eq_nil_iff.mp ed), q1 _ _ r2 m2⟩
  | cons d rest =>
    obtain ⟨d1, d2, d3⟩ := drop_some ed
    rw [ed] at e2
    obtain ⟨E3, e3, e2⟩ := bindE e2
    obtain ⟨⟨f4, E4⟩, e4, e2⟩ := bindE e2
    dsimp only at e2
    right
    refine ⟨p1.it.go i H2 keep d3, fun σ' H' => ∃ m', m' < ds.length - i ∧ (m' = ds.length - (i + 1) ∧ ∃ E2, forD t b (ds.drop (i + 1)) E2 = some (fl, E') ∧ FR X.K F E₀ σ₀ H₀ E2 σ' H' ∧ Mv E1 σ H1 E2 σ' H'), fun σ' H' z => z, fun x H3 hy => ?_⟩
    obtain ⟨k3, rx⟩ := p1.it.yld i H2 x H3 d (F.or (Own E2 σ2)) keep mark r2.env.moO d1 hy
    obtain ⟨r3, m3⟩ := r2.grow k3
    refine ⟨F, d, E2, E3, e3, r3.env, rx, fun σ4 r4 s4 => ?_⟩
    have r5 := r3.stp hn r4 s4
    have m5 : Mv E1 σ H1 E3 σ4 H3 := (m2.trans m3).trans (.stp s4)
    refine ⟨F, E₀, σ₀, H₀, E3, f4, E4, hn, e4, r0, r5, ?_⟩
    split at e2
    · exact fun σ6 H6 r6 m6 => ⟨_, by omega, rfl, E4, by rw [d2]; exact e2, r6, m5.trans m6⟩
    · cases e2
      exact fun v σ6 H6 r6 => q _ _ _ r6⟩

/-! ### [e for t in s if c] -/
def compD (t : Tf) (c : Ev) (f : Ev) : List D → List D → En → Option (List D × En)
  | [], acc, E => some (acc, E)
  | d :: ds, acc, E => if acc.length < sizeLine then (t d E).bind fun E1 => (c E1).bind fun r => match r.1 with
      | .val (.bl true) => (f r.2).bind fun p => compD t c f ds (acc ++ [fz p.1]) p.2
      | .val (.bl false) => compD t c f ds acc r.2
      | _ => none
    else none
def eTrue : Ev := fun E => some (.val (.bl true), E)
/-- cap: the names of the frame that the block uses; m: how many names of its own it has -/
def eComp (cap : List Nat) (m : Nat) (s : Sr) (t : Tf) (c : Ev) (f : Ev) : Ev := fun E => (s E).bind fun r => (evs (cap.map .pk) r.2).bind fun p =>
  if (ownIx (cap.map .pk) p.1).Nodup then (compD t c f r.1 [] (p.1.map some ++ List.replicate m none)).map fun q => (.own q.1, backW (cap.map .pk) p.1 (afterW p.1 q.2) r.2) else none
def ixC (cap : List Nat) (m : Nat) : List (Option Nat) := cap.map some ++ List.replicate m none
theorem evs_pk : ∀ {cap : List Nat} {E : En} {ws : List Wv} {E' : En}, evs (cap.map .pk) E = some (ws, E') → E' = E
  | [], E, ws, E', h => by cases h; rfl
  | k :: cap, E, ws, E', h => by
    simp only [List.map_cons, evs, Opd.ev, Opd.re] at h
    cases e1 : at? E k with
    | none => rw [e1] at h; cases h
    | some w =>
      rw [e1] at h
      simp only [Option.map_some, Option.bind_some] at h
      cases e2 : evs (cap.map .pk) E with
      | none => rw [e2] at h; cases h
      | some p =>
        obtain ⟨ws2, E2⟩ := p
        have := evs_pk e2
        subst this
        rw [e2] at h
        simp only [Option.bind_some, e1, Option.map_some, Option.some.injEq, Prod.mk.injEq] at h
        exact h.2.symm
theorem argR_pk {K : PySem.W.Frag} {F : Ms} {E : En} {σ : Sg} {H : Hp} (r : EnvR K F E σ H) : ∀ {cap : List Nat} {ws : List Wv}, evs (cap.map .pk) E = some (ws, E) → ∃ vs, ArgR K F E σ H (cap.map .pk) ws vs ∧ (cap.map some).map (fun (o : Option Nat) => o.bind fun i => (σ[i]?).join) = vs.map some
  | [], ws, h => by cases h; exact ⟨[], .nil, rfl⟩
  | k :: cap, ws, h => by
    simp only [List.map_cons, evs, Opd.ev, Opd.re] at h
    cases e1 : at? E k with
    | none => rw [e1] at h; cases h
    | some w =>
      rw [e1] at h
      simp only [Option.map_some, Option.bind_some] at h
      cases e2 : evs (cap.map .pk) E with
      | none => rw [e2] at h; cases h
      | some p =>
        obtain ⟨ws2, E2⟩ := p
        have := evs_pk e2
        subst this
        rw [e2] at h
        simp only [Option.bind_some, e1, Option.map_some, Option.some.injEq, Prod.mk.injEq] at h
        obtain ⟨rfl, _⟩ := h
        obtain ⟨vs, h1, h2⟩ := argR_pk r e2
        obtain ⟨v, hv⟩ := r.hasv (at?_some e1)
        refine ⟨v :: vs, .pk (at?_some e1) hv h1, ?_⟩
        rw [List.map_cons, List.map_cons, List.map_cons, h2]
        show ((σ[k]?).join :: _) = _
        rw [hv]
        rfl
theorem sig_cap {cap : List Nat} {m : Nat} {σ : Sg} {vs : List V} (h : (cap.map some).map (fun (o : Option Nat) => o.bind fun i => (σ[i]?).join) = vs.map some) : sig (ixC cap m) σ = vs.map some ++ List.replicate m none := by
  unfold sig ixC
  rw [List.map_append, h, List.map_replicate]
  rfl
theorem comp_tD {K : PySem.W.Frag} {cap : List Nat} {m : Nat} {s : Sr} {t : Tf} {c f : Ev} {σ : Sg} {H : Hp} {Q : VK} (h : tD K (eComp cap m s t c f) σ H Q) : tComp (ixC cap m) (tI K s) (tG K cap.length t) (tDT K c) (tD K f) σ H Q := by
  obtain ⟨F, E, w, E', e, r, q⟩ := h
  obtain ⟨⟨ds, E1⟩, e1, e⟩ := bindE e
  obtain ⟨⟨ws, E1'⟩, e2, e⟩ := bindE e
  have := evs_pk e2
  dsimp only at e e2 this
  subst this
  split at e
  · rename_i nd
    cases e3 : compD t c f ds [] (ws.map some ++ List.replicate m none) with
    | none => rw [e3] at e; cases e
    | some pp =>
      obtain ⟨accf, Ef⟩ := pp
      rw [e3] at e
      simp only [Option.map_some, Option.some.injEq, Prod.mk.injEq] at e
      obtain ⟨rfl, rfl⟩ := e
      refine ⟨F, E, ds, E1', e1, r, fun J H1 p1 A0 hD => ?_⟩
      obtain ⟨vs, ar, hsig⟩ := argR_pk p1.env e2
      have r0 := p1.env.callee ar nd
      have hcap : ws.length = cap.length := by have := ar.len.2; simp at this; omega
      have k0 : ∀ a o, H1 a = some o → upd H1 A0 (.lst []) a = some o := fun a o ea => by rw [upd_ne (fun z => by subst z; rw [hD] at ea; cases ea)]; exact ea
      have fs : FR K (Fc F E1' σ ws vs) (ws.map some) (vs.map some) H1 (ws.map some ++ List.replicate m none) (vs.map some ++ List.replicate m none) H1 := by
        have := FR.start r0 (ws.length + m)
        rw [show ws.length + m - ws.length = m by omega] at this
        exact this
      have asub : ∀ a, Own (ws.map some) (vs.map some) a → Own E1' σ a := fun a z => by
        obtain ⟨i, j, es, _, _, h1, h2, _⟩ := ar.sub z
        exact ⟨i, es, h1, h2⟩
      have fd : FR K ((Fc F E1' σ ws vs).or fun a => a = A0) (ws.map some) (vs.map some) H1 (ws.map some ++ List.replicate m none) (vs.map some ++ List.replicate m none) (upd H1 A0 (.lst [])) := by
        refine ⟨fs.env.step (fun a z => z.imp id fun z => by subst z; exact hD) (fun a o ea _ => k0 a o ea) fun a z => ?_, .new hD, fs.loc, fs.keep⟩
        rcases z with z | z
        · obtain ⟨xs, hx⟩ := fs.env.mo a z
          exact ⟨xs, k0 _ _ hx⟩
        · subst z; exact ⟨[], upd_same⟩
      refine ⟨fun i mm σ' H' ys => mm = ds.length - i ∧ ∃ Ei acc, compD t c f (ds.drop i) acc Ei = some (accf, Ef) ∧ FR K ((Fc F E1' σ ws vs).or fun a => a = A0) (ws.map some) (vs.map some) H1 Ei σ' H' ∧ H' A0 = some (.lst ys) ∧ RelDs K (((Fc F E1' σ ws vs).or fun a => a = A0).or (Own Ei σ')) H' ys acc, ⟨_, rfl, ws.map some ++ List.replicate m none, [], e3, by rw [sig_cap hsig]; exact fd, upd_same, .nil⟩, fun i mm σ2 H2 ys hW => ?_⟩
      obtain ⟨rfl, Ei, acc, ec, r2, hy, ry⟩ := hW
      have keep : ∀ a o, H1 a = some o → ¬ (F.or (Own E1' σ)) a → H2 a = some o := fun a o eo no => r2.ext.keep a o eo fun z => no (.inr (asub a z))
      have mark : ∀ a, (((Fc F E1' σ ws vs).or fun a => a = A0).or (Own Ei σ2)) a → (F.or (Own E1' σ)) a ∨ H1 a = none := fun a z => by
        rcases z with (z | z) | z
        · exact .inl z.1
        · subst z; exact .inr hD
        · exact (r2.loc a z).imp (fun z => .inr (asub a z)) id
      refine ⟨hy, ?_⟩
      cases ed : ds.drop i with
      | nil =>
        rw [ed] at ec
        cases ec
        left
        refine ⟨p1.it.stop i H2 keep (List.drop_eq_nil_iff.mp ed), q _ _ ?_⟩
        have rt : Ret K (Fc F E1' σ ws vs) (ws.map some) (vs.map some) H1 Ef σ2 H2 (.own accf) (.ref A0) := by
          have tn : ∀ a, tmp (.ref A0) (.own accf) a ↔ a = A0 := fun a => ⟨fun z => by have z' : V.ref A0 = .ref a := z; cases z'; rfl, fun z => by subst z; exact rfl⟩
          refine ⟨⟨r2.env.step (fun a z => .inl (z.imp id (tn a).mp)) (fun _ _ e _ => e) fun a z => r2.env.mo a (z.imp id (tn a).mp), r2.ext, r2.loc, r2.keep⟩, A0, ys, rfl, hD, hy, ry.step r2.env.moO (fun a z => .inl (Or.imp (fun y => Or.imp id (tn a).mp y) id z)) fun _ _ e _ => e⟩
        exact (Post.caller p1.env ar nd (rt.post r0)).after p1.ext p1.sub p1.lk
      | cons d rest =>
        obtain ⟨d1, d2, d3⟩ := drop_some ed
        rw [ed] at ec
        unfold compD at ec
        split at ec
        · rename_i hz
          obtain ⟨E3, e4, ec⟩ := bindE ec
          obtain ⟨⟨w5, E5⟩, e5, ec⟩ := bindE ec
          right
          refine ⟨p1.it.go i H2 keep d3, by rw [ry.length]; exact hz, fun x H3 hyl => ?_⟩
          obtain ⟨k3, rx⟩ := p1.it.yld i H2 x H3 d _ keep mark r2.env.moO d1 hyl
          obtain ⟨r3, m3⟩ := r2.grow k3
          refine ⟨_, d, Ei, E3, e4, r3.env, rx, fun σ4 r4 s4 => ?_⟩
          have r5 := r3.stp (n := cap.length) (by rw [List.length_map]; omega) r4 s4
          have ry3 : RelDs K (((Fc F E1' σ ws vs).or fun a => a = A0).or (Own E3 σ4)) H3 ys acc := ry.step r2.env.moO (fun a z => .inl (z.imp id s4.sub)) fun a o eo _ => k3 a o eo
          have hy3 : H3 A0 = some (.lst ys) := k3 _ _ hy
          have nD : ∀ {E6 : En} {σ6 : Sg} {H6 : Hp}, EnvR K ((Fc F E1' σ ws vs).or fun a => a = A0) E6 σ6 H6 → ¬ Own E6 σ6 A0 := fun r6 z => r6.nfo z (.inr rfl)
          have fin : ∀ {E6 : En} {H6 : Hp} {zs : List V} {acc6 : List D}, compD t c f rest acc6 E6 = some (accf, Ef) → FR K ((Fc F E1' σ ws vs).or fun a => a = A0) (ws.map some) (vs.map some) H1 E6 σ4 H6 → H6 A0 = some (.lst zs) → RelDs K (((Fc F E1' σ ws vs).or fun a => a = A0).or (Own E6 σ4)) H6 zs acc6 →
              ∃ m', m' < ds.length - i ∧ (m' = ds.length - (i + 1) ∧ ∃ Ei acc, compD t c f (ds.drop (i + 1)) acc Ei = some (accf, Ef) ∧ FR K ((Fc F E1' σ ws vs).or fun a => a = A0) (ws.map some) (vs.map some) H1 Ei σ4 H6 ∧ H6 A0 = some (.lst zs) ∧ RelDs K (((Fc F E1' σ ws vs).or fun a => a = A0).or (Own Ei σ4)) H6 zs acc) :=
            fun {E6 H6 zs acc6} ec r6 h6 y6 => ⟨_, by omega, rfl, E6, acc6, by rw [d2]; exact ec, r6, h6, y6⟩
          dsimp only at ec
          split at ec
          · obtain ⟨⟨w7, E7⟩, e7, ec⟩ := bindE ec
            refine ⟨_, E3, true, E5, e5, r5.env, fun H5 r6 x6 s6 l6 => ?_⟩
            refine iteT ?_
            have r7 := r5.expr r6 x6 s6 l6
            refine ⟨_, E5, w7, E7, e7, r6, fun y H7 p7 => ?_⟩
            obtain ⟨r8, d8⟩ := p7.fz r6
            have r9 := r7.expr r8 p7.ext p7.sub p7.lk
            have hy5 : H5 A0 = some (.lst ys) := x6.keep _ _ hy3 (nD r5.env)
            have hy7 : H7 A0 = some (.lst ys) := p7.ext.keep _ _ hy5 (nD r6)
            have ry5 : RelDs K (((Fc F E1' σ ws vs).or fun a => a = A0).or (Own E5 σ4)) H5 ys acc := ry3.step r5.env.moO (fun a z => .inl (z.imp id (s6 a))) fun a o eo no => x6.keep a o eo fun z => no (.inr z)
            have ry7 : RelDs K (((Fc F E1' σ ws vs).or fun a => a = A0).or (Own E7 σ4)) H7 ys acc := ry5.step r6.moO (fun a z => .inl (z.imp id (p7.sub a))) fun a o eo no => p7.ext.keep a o eo fun z => no (.inr z)
            refine ⟨hy7, ?_⟩
            have ku : ∀ a o, H7 a = some o → ¬ ((Fc F E1' σ ws vs).or fun a => a = A0) a → upd H7 A0 (.lst (ys ++ [y])) a = some o := fun a o eo no => by rw [upd_ne (fun z => no (.inr z))]; exact eo
            have ku' : ∀ a o, H7 a = some o → ¬ (((Fc F E1' σ ws vs).or fun a => a = A0).or (Own E7 σ4)) a → upd H7 A0 (.lst (ys ++ [y])) a = some o := fun a o eo no => ku a o eo fun z => no (.inl z)
            refine fin ec ⟨r9.env.step (fun a z => .inl z) ku fun a z => ?_, ⟨fun a o eo no => ?_, fun a ea => ?_⟩, r9.loc, r9.keep⟩ upd_same ((ry7.append (.cons d8 .nil)).step r9.env.moO (fun a z => .inl z) ku')
            · by_cases h : a = A0
              · subst h; exact ⟨_, upd_same⟩
              · rw [upd_ne h]; exact r9.env.mo a z
            · rw [upd_ne (fun z => by subst z; rw [hD] at eo; cases eo)]
              exact r9.ext.keep a o eo no
            · by_cases h : a = A0
              · subst h; rw [upd_same]; intro z; cases z
              · rw [upd_ne h]; exact r9.ext.some a ea
          · refine ⟨_, E3, false, E5, e5, r5.env, fun H5 r6 x6 s6 l6 => ?_⟩
            refine iteF ?_
            exact fin ec (r5.expr r6 x6 s6 l6) (x6.keep _ _ hy3 (nD r5.env)) (ry3.step r5.env.moO (fun a z => .inl (z.imp id (s6 a))) fun a o eo no => x6.keep a o eo fun z => no (.inr z))
          · cases ec
        · cases ec
  · cases e
end Mi
end
section
set_option Elab.async false
set_option linter.all false
set_option maxRecDepth 100000
set_option maxHeartbeats 4000000
namespace Mi
open PySem PySem.Spec L2
structure DTs (X : Cx) (ifs : List Expr) (c : Ev) : Prop where
  pe : PTs X ifs (tDT X.K c)
theorem pts_mono {X : Cx} {e : List Expr} {t t' : TT} (h : PTs X e t) (m : ∀ σ H Q, t' σ H Q → t σ H Q) : PTs X e t' := fun pins s σ H Q I q => h pins s σ H Q I (m _ _ _ q)
theorem dts_nil {X : Cx} : DTs X [] eTrue := ⟨pts_mono pts_nil fun σ H Q z => by
  obtain ⟨F, E, b, E', e, r, q⟩ := z
  cases e
  exact q _ r .refl (fun _ z => z) .refl⟩
section
variable {X : Cx} {N' : List Str} {cap : List Nat} {m : Nat} {scope : Scope} {elt tg iter : Expr} {ifs : List Expr} {pos : Pos} {s : Sr} {t : Tf} {c f : Ev}
def Blk (X : Cx) (cap : List Nat) (N' : List Str) (scope : Scope) (tg : Expr) (ifs : List Expr) (elt : Expr) (t : Tf) (c f : Ev) : Prop :=
  ∀ (s : Shared) (H : Hp) (fp : List Addr), DG (cxComp X N' scope s H fp) cap.length tg t ∧ DTs (cxComp X N' scope s H fp) ifs c ∧ DE (cxComp X N' scope s H fp) elt f
theorem de_comp (cap : List Nat) (m : Nat) (N' : List Str) (hc : X.calm = true) (S : CompScope X.N X.env.scope N' (ixC cap m) scope) (hi : DI X tg iter s) (hb : Blk X cap N' scope tg ifs elt t c f) (hs : ∀ x, foldedSetIterable iter X.env x = pure x := by intro _; rfl) :
    DE X (.ListComp elt [⟨tg, iter, ifs, 0⟩] scope pos) (eComp cap m s t c f) := ⟨
  pe_mono (pe_comp (g := tG X.K cap.length t) (tc := tDT X.K c) (te := tD X.K f) hc S hi.pe (fun s H fp => ⟨(hb s H fp).1.pe, (hb s H fp).2.1.pe, (hb s H fp).2.2.pe⟩) hs) fun _ _ _ h => comp_tD h⟩
/-- y = [..] -/
theorem ds_setcomp {n i : Nat} {y : Str} {py spos : Pos} (cap : List Nat) (m : Nat) (N' : List Str) (hc : X.calm = true) (hN : X.N.Nodup) (hi' : X.N[i]? = some y) (hx : X.env.scope.names.lookup y = some .local) (S : CompScope X.N X.env.scope N' (ixC cap m) scope) (hi : DI X tg iter s) (hb : Blk X cap N' scope tg ifs elt t c f)
    (hsw : swapsWith (.ListComp elt [⟨tg, iter, ifs, 0⟩] scope pos) (some (.Name y py)) spos.line X.env = pure true := by rfl) (hs : ∀ x, foldedSetIterable iter X.env x = pure x := by intro _; rfl) :
    DS X n (.Assign [.Name y py] (.ListComp elt [⟨tg, iter, ifs, 0⟩] scope pos) spos) (xAsg n i (eComp cap m s t c f)) := ⟨
  ps_mono (ps_setcomp (g := tG X.K cap.length t) (tc := tDT X.K c) (te := tD X.K f) hc hN hi' hx S hi.pe (fun s H fp => ⟨(hb s H fp).1.pe, (hb s H fp).2.1.pe, (hb s H fp).2.2.pe⟩) hsw hs) fun Dn σ H z => by
    obtain ⟨F, E₀, σ₀, H₀, E, fl, E', hn, e, r0, r, q⟩ := z
    obtain ⟨⟨w, E1⟩, e1, e⟩ := bindE e
    dsimp only at e
    split at e
    · cases e
      exact comp_tD ⟨F, E, w, E1, e1, r.env, fun v H1 p1 => q _ _ (FR.put hn r0 (r.post p1) (by assumption)) (Mv.put p1 (by assumption))⟩
    · cases e⟩
end

/-! ### slices -/
def cutL {α : Type} (xs : List α) (lo hi : Option Int) : List α := (xs.drop (HT.sIx xs.length 0 lo)).take (HT.sIx xs.length xs.length hi - HT.sIx xs.length 0 lo)
theorem cut_rel {K : PySem.W.Frag} {M : Ms} {H : Hp} {xs : List V} {ds : List D} (h : RelDs K M H xs ds) (lo hi : Option Int) : RelDs K M H (cutV xs lo hi) (cutL ds lo hi) := by
  unfold cutV cutL
  rw [h.length]
  exact (h.drop _).take _
theorem cut_whole {α : Type} {xs : List α} {lo hi : Option Int} (h1 : HT.sIx xs.length 0 lo = 0) (h2 : HT.sIx xs.length xs.length hi = xs.length) : cutL xs lo hi = xs := by
  unfold cutL
  rw [h1, h2]
  simp
def wSl (lo hi : Option Int) : Op1 := fun w => match w with
  | .val (.tup ds) => some (.val (.tup (cutL ds lo hi)))
  | .val (.str z) => if z.length ≤ sizeLine then some (.val (.str (Txt.slice z lo hi))) else none
  | w => (asL w).map fun ds => .own (cutL ds lo hi)
def rSlD (K : PySem.W.Frag) : V → Option Int → Option Int → Hp → VK → Prop := fun x lo hi H Q => ∃ M w r, wSl lo hi w = some r ∧ MOk M H ∧ Sh K M H x w ∧ ∀ v H', Nw K M H H' v r → Q v H'
theorem sl_str {X : Cx} : SlR X (fun x lo hi H Q => ∃ z, x = .str z ∧ z.length ≤ sizeLine ∧ Q (.str (Txt.slice z lo hi)) H) := by
  intro pins s σ H x v vl vu lo hi sl Q I rx hs pl pu h
  obtain ⟨z, rfl, hz, q⟩ := h
  obtain ⟨t, rfl⟩ := rx
  have fin : ∀ t' k, EP X pins σ Q (.str (Txt.slice z lo hi) t') { s with toks := k } := fun t' k => ⟨.str _, H, I.tok k, ⟨t', rfl⟩, q⟩
  cases pl with
  | none =>
    cases pu with
    | none => exact ⟨"str", _, PySem.F.slot_str_getitem.lookup, typeIs_str _ _ _, wpAny_getItem_str_slice (l := none) (u := none) (st := none) hs rfl (post_val_or_str ⟨Nat.le_trans (Txt.slice_le z _ _) hz, fin⟩)⟩
    | int j u => exact ⟨"str", _, PySem.F.slot_str_getitem.lookup, typeIs_str _ _ _, wpAny_getItem_str_slice (l := none) (u := some (j, u)) (st := none) hs rfl (post_val_or_str ⟨Nat.le_trans (Txt.slice_le z _ _) hz, fin⟩)⟩
  | int i u' =>
    cases pu with
    | none => exact ⟨"str", _, PySem.F.slot_str_getitem.lookup, typeIs_str _ _ _, wpAny_getItem_str_slice (l := some (i, u')) (u := none) (st := none) hs rfl (post_val_or_str ⟨Nat.le_trans (Txt.slice_le z _ _) hz, fin⟩)⟩
    | int j u => exact ⟨"str", _, PySem.F.slot_str_getitem.lookup, typeIs_str _ _ _, wpAny_getItem_str_slice (l := some (i, u')) (u := some (j, u)) (st := none) hs rfl (post_val_or_str ⟨Nat.le_trans (Txt.slice_le z _ _) hz, fin⟩)⟩
theorem sl_D {X : Cx} : SlR X (rSlD X.K) := by
  intro pins s σ H x v vl vu lo hi sl Q I rx hs pl pu h
  obtain ⟨M, w, r, e, mo, sh, q⟩ := h
  unfold wSl at e
  split at e
  · rename_i ds
    cases e
    cases sh with
    | tup hx rr =>
      rename_i a xs
      have hl := rr.length
      by_cases hw : HT.sIx xs.length 0 lo = 0 ∧ HT.sIx xs.length xs.length hi = xs.length
      · refine St.sl_all pins s σ H _ v vl vu lo hi sl Q I rx hs pl pu ⟨a, xs, rfl, hx, hw.1, hw.2, ?_⟩
        have ew : cutL ds lo hi = ds := cut_whole (by rw [← hl]; exact hw.1) (by rw [← hl]; exact hw.2)
        rw [ew] at q
        exact q _ _ (.same mo (.tup hx rr))
      · exact sl_tup pins s σ H _ v vl vu lo hi sl Q I rx hs pl pu ⟨a, xs, rfl, hx, hw, fun p hp => q _ _ (.tup mo hp (cut_rel rr lo hi))⟩
  · split at e
    · cases e
      cases sh
      exact sl_str pins s σ H _ v vl vu lo hi sl Q I rx hs pl pu ⟨_, rfl, by assumption, q _ _ (.same mo (.str _))⟩
    · cases e
  · cases e1 : asL w with
    | none => rw [e1] at e; cases e
    | some ds =>
      rw [e1] at e
      cases e
      obtain ⟨a, xs, rfl, h1, rr⟩ := sh.l e1
      exact sl_list pins s σ H _ v vl vu lo hi sl Q I rx hs pl pu ⟨a, xs, rfl, .of h1, fun p hp => q _ _ (.lst mo hp (cut_rel rr lo hi))⟩
def intW : Wv → Option Int
  | .val (.int i) => some i
  | _ => none
/-- a[lo:hi], lo and hi as they are there -/
def wSlN (l h : Bool) : OpN := fun ws => match l, h, ws with
  | false, false, [a] => wSl none none a
  | true, false, [a, b] => (intW b).bind fun i => wSl (some i) none a
  | false, true, [a, b] => (intW b).bind fun i => wSl none (some i) a
  | true, true, [a, b, c] => (intW b).bind fun i => (intW c).bind fun j => wSl (some i) (some j) a
  | _, _, _ => none
theorem intW_sh {K : PySem.W.Frag} {M : Ms} {H : Hp} {v : V} {w : Wv} {i : Int} (s : Sh K M H v w) (e : intW w = some i) : v = .int i := by
  cases w with
  | own ds => cases e
  | val d =>
    cases d <;> first | (cases e; done) | skip
    cases e; cases s; rfl
section
variable {X : Cx} {e lo hi : Expr} {oe ol oh : Opd} {pos p2 : Pos}
theorem de_sl10 (h : DO X e oe) (hl : DO X lo ol) : DE X (.Subscript e (.Slice (some lo) none none p2) pos) (eOp (wSlN true false) [oe, ol]) := ⟨pe_mono (pe_slice sl_D h.pe (po_some hl.pe) po_none) fun σ H Q z => by
  obtain ⟨F, E, w, E', e, r, q⟩ := z
  have z : tO X.K oe σ H fun x H1 => tO X.K ol σ H1 fun y H2 => rN X.K (wSlN true false) [x, y] H2 Q := eOp_ok (Q := Q) e r q
  refine tO_mono z fun x H1 z1 => tO_mono z1 fun y H2 z2 => ?_
  obtain ⟨M, ws, w', e1, mo, sh, q1⟩ := z2
  cases sh with
  | cons h1 t =>
    cases t with
    | cons h2 t =>
      cases t
      obtain ⟨i, ei, e1⟩ := bindE e1
      exact ⟨i, intW_sh h2 ei, M, _, w', e1, mo, h1, q1⟩⟩
theorem de_sl01 (h : DO X e oe) (hh : DO X hi oh) : DE X (.Subscript e (.Slice none (some hi) none p2) pos) (eOp (wSlN false true) [oe, oh]) := ⟨pe_mono (pe_slice sl_D h.pe po_none (po_some hh.pe)) fun σ H Q z => by
  obtain ⟨F, E, w, E', e, r, q⟩ := z
  have z : tO X.K oe σ H fun x H1 => tO X.K oh σ H1 fun y H2 => rN X.K (wSlN false true) [x, y] H2 Q := eOp_ok (Q := Q) e r q
  refine tO_mono z fun x H1 z1 => tO_mono z1 fun y H2 z2 => ?_
  obtain ⟨M, ws, w', e1, mo, sh, q1⟩ := z2
  cases sh with
  | cons h1 t =>
    cases t with
    | cons h2 t =>
      cases t
      obtain ⟨i, ei, e1⟩ := bindE e1
      exact ⟨i, intW_sh h2 ei, M, _, w', e1, mo, h1, q1⟩⟩
/-! ### t[::-1], t a tuple -/
def revL {α : Type} (xs : List α) : List α := (List.range xs.length).filterMap fun k => xs[St.revIx xs.length k]?
theorem rev_rel {K : PySem.W.Frag} {M : Ms} {H : Hp} {xs : List V} {ds : List D} (h : RelDs K M H xs ds) : RelDs K M H (revL xs) (revL ds) := by
  unfold revL
  rw [h.length]
  generalize List.range ds.length = ks
  induction ks with
  | nil => exact .nil
  | cons k ks ih =>
    rw [List.filterMap_cons, List.filterMap_cons]
    cases e : ds[St.revIx ds.length k]? with
    | none =>
      have : xs[St.revIx ds.length k]? = none := by rw [List.getElem?_eq_none_iff] at e ⊢; rw [h.length]; exact e
      rw [this]
      exact ih
    | some d =>
      obtain ⟨x, h1, h2⟩ := h.get e
      rw [h1]
      exact .cons h2 ih
def wRev : Op1
  | .val (.tup ds) => some (.val (.tup (revL ds)))
  | _ => none
def tRevX (K : PySem.W.Frag) (te : TE) : TE := fun σ H Q => te σ H fun x H1 => ∃ a xs, x = .ref a ∧ SqT K H1 a xs ∧ ∀ p, H1 p = none → Q (.ref p) (upd H1 p (.tup (revL xs)))
theorem pe_revX {e : Expr} {te : TE} {p1 p2 p3 pos : Pos} {k : Nat} (he : PE X e te) : PE X (.Subscript e (.Slice none none (some (.UnaryOp .USub (.Constant (.int 1) k p1) p2)) p3) pos) (tRevX X.K te) := by
  intro pins s σ H Q I h
  refine PyProof.Rows.Subscript_ (thn (he pins s σ H _ I h) fun v s1 ⟨x, H1, I1, r1, q1⟩ => ?_)
  obtain ⟨a, xs, rfl, hx, q⟩ := q1
  cases r1
  refine wpAny_Slice ?_
  rw [evalPart_none]
  refine wpAny_pure (wpAny_pure ?_)
  rw [evalPart_some]
  refine thn ((pe_un (X := X) un_neg (pe_int (i := 1) (j := k) (pos := p1)) (pos := p2)) pins s1 σ H1 (fun v H2 => v = .int (-1) ∧ H2 = H1) I1 ⟨_, rfl, rfl, rfl⟩) fun u s2 ⟨y, H2, I2, r2, ey, eh⟩ => ?_
  subst ey eh
  obtain ⟨tk, rfl⟩ := r2
  have I4 : Inv X pins σ H2 { s2 with heap := s2.heap.push { cls := .type "slice", data := .fields #[.none, .none, .int (-1) tk] } } := I2.kept (t' := s2.toks) fun b ob q => Heap.get?_push_of_some _ q
  obtain ⟨its, r, ht, hz⟩ := I4.tuple hx
  have hlen : its.toArray.size = xs.length := by rw [List.size_toArray]; exact r.length.symm
  refine PyProof.Rows.tail_any (ops := [.ref a, .ref s2.heap.objs.size]) ht.typeIs PyProof.Rows.slot_tuple_getitem.lookup ?_ (by with_unfolding_all rfl)
  refine St.getItem_tuple_rev ht (Heap.IsSliceOf.new ..) (by rw [hlen]; exact hz) ?_
  have fr := I4.hok.fresh (Nat.le_refl _)
  refine ⟨.ref _, _, I4.laid (o := .tup (revL xs)) (fun b ob q => Heap.get?_push_of_some _ q) (Nat.le_refl _) ?_, rfl, q _ fr⟩
  have := St.Vals.pick r (St.revIx xs.length) (List.range xs.length)
  refine ⟨?_, _, this, ?_⟩
  · unfold revL
    refine Nat.le_trans (List.length_filterMap_le _ _) ?_
    rw [List.length_range]
    exact hz
  · have e : ((List.range its.toArray.size).filterMap fun k => its.toArray[St.revIx its.toArray.size k]?) = ((List.range xs.length).filterMap fun k => its[St.revIx xs.length k]?) := by
      rw [hlen]
      congr 1
      funext k
      rw [List.getElem?_toArray]
    rw [e]
    exact PyProof.Rows.IsTup.new _ _
theorem de_rev {p1 p3 : Pos} {k : Nat} (h : DO X e oe) : DE X (.Subscript e (.Slice none none (some (.UnaryOp .USub (.Constant (.int 1) k p1) p2)) p3) pos) (eOp (o1 wRev) [oe]) := ⟨pe_mono (pe_revX h.pe) fun σ H Q z => by
  refine tO_mono (one_of z) fun x H1 z1 => ?_
  obtain ⟨M, w, r, e, mo, sh, q⟩ := z1
  unfold wRev at e
  split at e
  · cases e
    cases sh with
    | tup hx rr => exact ⟨_, _, rfl, hx, fun p hp => q _ _ (.tup mo hp (rev_rel rr))⟩
  · cases e⟩
/-! ### x.upper() -/
def wUp : Op1
  | .val (.str z) => if (Txt.upper z).length ≤ sizeLine then some (.val (.str (Txt.upper z))) else none
  | _ => none
theorem mt_upper : MtR X "str.upper" (fun x xs H Q => xs = [] ∧ ∃ z, x = .str z ∧ (Txt.upper z).length ≤ sizeLine ∧ Q (.str (Txt.upper z)) H) := by
  intro pins s σ H x xs v us Q I rx rv h
  obtain ⟨rfl, z, rfl, hz, q⟩ := h
  cases rv
  obtain ⟨t, rfl⟩ := rx
  have hfit : Builtin.Str.tooLong (Txt.upper z).length = false := by
    unfold Builtin.Str.tooLong
    exact decide_eq_false (by omega)
  exact call_gives PySem.F.slot_str_upper (typeIs_str _ _ _) PySem.F.entry_str_upper (PySem.F.args_str_upper_1 _) (gives_str_upper z t hfit) ⟨hz, ⟨.str _, H, I.tok _, ⟨_, rfl⟩, q⟩⟩
theorem de_upper {o : Expr} {oo : Opd} {apos cpos : Pos} (h : DO X o oo) (hbase : attributeBase o "upper" X.env (eval o X.env) = eval o X.env := by rfl) (hline : (apos.endLine == cpos.line) = true := by rfl) : DE X (.Call (.Attribute o "upper" apos) [] [] cpos) (eOp (o1 wUp) [oo]) := ⟨
  pe_mono (pe_bm0 PySem.F.plainAttrs_str PySem.F.slot_str_upper PySem.F.type_str_upper mt_upper h.pe hbase hline) fun σ H Q z => by
    refine tO_mono (one_of z) fun x H1 z1 => ?_
    obtain ⟨M, w, r, e, mo, sh, q⟩ := z1
    unfold wUp at e
    split at e
    · split at e
      · cases e
        cases sh
        exact ⟨rfl, rfl, _, rfl, by assumption, q _ _ (.same mo (.str _))⟩
      · cases e
    · cases e⟩
/-! ### a <= b <= c -/
def eLeLe (oa ob oc : Opd) : Ev := fun E => (evs [oa, ob] E).bind fun r => match r.1 with
  | [.val (.int i), .val (.int j)] => if i ≤ j then (evs [oc] r.2).bind fun p => match p.1 with
      | [.val (.int k)] => some (.val (.bl (decide (j ≤ k))), p.2)
      | _ => none
    else some (.val (.bl false), r.2)
  | _ => none
theorem le_le {K : PySem.W.Frag} {oa ob oc : Opd} {σ : Sg} {H : Hp} {Q : VK} (h : tD K (eLeLe oa ob oc) σ H Q) : tChain (rI0 fun i j => .bl (decide (i ≤ j))) (rI0 fun i j => .bl (decide (i ≤ j))) (tO K oa) (tO K ob) (tO K oc) σ H Q := by
  obtain ⟨F, E, w, E', e, r, q⟩ := h
  obtain ⟨⟨ws, E1⟩, e1, e⟩ := bindE e
  have z : tO K oa σ H fun x H1 => tO K ob σ H1 fun y H2 => ∃ i j : Int, [x, y] = [V.int i, V.int j] ∧ rI0 (fun i j => .bl (decide (i ≤ j))) x y H2 fun z H3 => ∃ k, z = .bl k ∧ (if k = true then tO K oc σ H3 fun w' H4 => rI0 (fun i j => .bl (decide (i ≤ j))) y w' H4 Q else Q (.bl false) H3) := by
    have zz := evs_ok (K := K) (F := F) (σ := σ) (Q := fun vs H2 => ∃ i j : Int, vs = [V.int i, V.int j] ∧ rI0 (fun i j => .bl (decide (i ≤ j))) (.int i) (.int j) H2 fun z H3 => ∃ k, z = .bl k ∧ (if k = true then tO K oc σ H3 fun w' H4 => rI0 (fun i j => .bl (decide (i ≤ j))) (.int j) w' H4 Q else Q (.bl false) H3)) e1 r (fun vs H1 p => by
      dsimp only at e
      split at e
      · rename_i i j
        have hv := shs_ints (p.args.sh p.env)
        refine ⟨i, j, hv, i, j, rfl, rfl, _, rfl, ?_⟩
        by_cases hij : i ≤ j
        · rw [if_pos hij] at e
          rw [if_pos (by simpa using hij)]
          obtain ⟨⟨ws2, E2⟩, e2, e⟩ := bindE e
          dsimp only at e
          split at e
          · rename_i k
            cases e
            have zz : tO K oc σ H1 fun y H2 => ∃ k : Int, [y] = [V.int k] ∧ Q (.bl (decide (j ≤ k))) H2 := evs_ok (Q := fun vs H2 => ∃ k : Int, vs = [V.int k] ∧ Q (.bl (decide (j ≤ k))) H2) e2 p.env fun vs H2 p2 => ⟨k, shs_int (p2.args.sh p2.env), q _ _ ((mk_bl (c := true) _ p2.ext p2.sub p2.lk p2.env).after p.ext p.sub p.lk)⟩
            refine tO_mono zz fun y H2 hz => ?_
            obtain ⟨k', ek, hz⟩ := hz
            cases ek
            exact ⟨j, k', rfl, rfl, hz⟩
          · cases e
        · rw [if_neg hij] at e
          cases e
          rw [if_neg (by simpa using hij)]
          exact q _ _ (mk_bl (c := true) _ p.ext p.sub p.lk p.env)
      · cases e)
    refine tO_mono (show tO K oa σ H _ from zz) fun x H1 z1 => tO_mono z1 fun y H2 z2 => ?_
    obtain ⟨i, j, ev, z2⟩ := z2
    cases ev
    exact ⟨i, j, rfl, z2⟩
  exact tO_mono z fun x H1 z1 => tO_mono z1 fun y H2 z2 => let ⟨_, _, _, z3⟩ := z2; z3
theorem de_lele {a b c : Expr} {oa ob oc : Opd} (ha : DO X a oa) (hb : DO X b ob) (hc : DO X c oc) (hm : lastMarks [.LtE, .LtE] [b, c] = false := by with_unfolding_all rfl) : DE X (.Compare a [.LtE, .LtE] [b, c] pos) (eLeLe oa ob oc) := ⟨
  pe_mono (pe_chain op_le op_le ha.pe hb.pe hc.pe hm) fun _ _ _ h => le_le h⟩

/-! ### constants of the top -/
structure CstD (K : PySem.W.Frag) (mg : Str → Option Value) (x : Str) (d : D) : Prop where
  ex : ∃ v u, mg x = some u ∧ RelV v u ∧ ∀ M H, RelD K M H v d
theorem de_glob {x : Str} {d : D} (c : CstD X.K X.mg x d) (hg : Gl X x) (hd : (x == ("__debug__" : Str)) = false := by decide) : DE X (.Name x pos) (eC d) := ⟨by
  obtain ⟨v, u, h1, h2, h3⟩ := c.ex
  exact pe_mono (pe_glob hg h1 h2 hd) fun σ H Q z => by
    obtain ⟨F, E, w, E', e, rr, q⟩ := z
    cases e
    exact q _ _ (post_same rr (h3 _ _))⟩
theorem de_ty {x : Str} {T : String} (hg : Gl X x) (hm : X.mg x = none) (hv : bootBuiltins x = some (.type T)) (hn : x ≠ "__name__" := by decide) (hd : (x == ("__debug__" : Str)) = false := by decide) : DE X (.Name x pos) (eC (.ty T)) :=
  de_con (pe_bltn (v := .ty T) hg hm hv rfl hn hd) fun _ _ _ => .ty T
structure TopT (K : PySem.W.Frag) (w : World) (mg : Str → Option Value) (x : Str) (tbl : List (Str × D)) : Prop where
  ex : ∃ a kvs, mg x = some (.ref a) ∧ TopD K w a kvs ∧ ∀ k, (tbl.lookup k = none → kvs.lookup k = none) ∧ ∀ d, tbl.lookup k = some d → ∃ v, kvs.lookup k = some v ∧ ∀ M H, RelD K M H v d
def wTop (tbl : List (Str × D)) : Op1
  | .val (.str k) => (tbl.lookup k).map .val
  | _ => none
def wTopIn (neg : Bool) (tbl : List (Str × D)) : Op1
  | .val (.str k) => some (.val (.bl (if neg then !(tbl.lookup k).isSome else (tbl.lookup k).isSome)))
  | _ => none
theorem de_top {x : Str} {tbl : List (Str × D)} {i : Expr} {o : Opd} {p : Pos} (c : TopT X.K X.w X.mg x tbl) (hg : Gl X x) (h : DO X i o) (hs : PlainIx i := by exact fun _ _ => rfl) (hd : (x == ("__debug__" : Str)) = false := by decide) : DE X (.Subscript (.Name x p) i pos) (eOp (o1 (wTop tbl)) [o]) := ⟨by
  obtain ⟨a, kvs, h1, h2, h3⟩ := c.ex
  refine pe_mono (pe_ix ix_top (pe_glob (v := .ref a) hg h1 rfl hd) h.pe hs) fun σ H Q z => ?_
  refine tO_mono (one_of z) fun y H1 z1 => ?_
  obtain ⟨M, w, r, e, mo, sh, q⟩ := z1
  unfold wTop at e
  split at e
  · rename_i k
    cases e1 : tbl.lookup k with
    | none => rw [e1] at e; cases e
    | some d =>
      rw [e1] at e
      cases e
      cases sh
      obtain ⟨v, q1, q2⟩ := (h3 k).2 d e1
      exact ⟨a, kvs, k, v, rfl, rfl, h2, q1, q _ _ (.same mo (q2 _ _))⟩
  · cases e⟩
theorem top_in {x : Str} {tbl : List (Str × D)} {neg : Bool} {a : Addr} {kvs : List (Str × V)} (h2 : TopD X.K X.w a kvs) (h3 : ∀ k, (tbl.lookup k = none → kvs.lookup k = none) ∧ ∀ d, tbl.lookup k = some d → ∃ v, kvs.lookup k = some v ∧ ∀ M H, RelD X.K M H v d)
    {y : V} {H : Hp} {Q : VK} (z : rUn X.K (wTopIn neg tbl) y H Q) : rTopIn X.K X.w neg y (.ref a) H Q := by
  obtain ⟨M, w, r, e, mo, sh, q⟩ := z
  unfold wTopIn at e
  split at e
  · rename_i k
    cases e
    cases sh
    refine ⟨a, kvs, k, rfl, rfl, h2, ?_⟩
    have : (kvs.lookup k).isSome = (tbl.lookup k).isSome := by
      cases e1 : tbl.lookup k with
      | none => rw [(h3 k).1 e1]; rfl
      | some d => obtain ⟨v, q1, _⟩ := (h3 k).2 d e1; rw [q1]; rfl
    rw [this]
    exact q _ _ (.same mo (.bl _))
  · cases e
theorem dt_topNotIn {x : Str} {tbl : List (Str × D)} {i : Expr} {o : Opd} {p : Pos} (c : TopT X.K X.w X.mg x tbl) (hg : Gl X x) (h : DO X i o) (hd : (x == ("__debug__" : Str)) = false := by decide) : DT X (.Compare i [.NotIn] [.Name x p] pos) (eOp (o1 (wTopIn true tbl)) [o]) := by
  obtain ⟨a, kvs, h1, h2, h3⟩ := c.ex
  exact dt_of (pt_cmpR op_notIn_top h.pe (pe_glob (v := .ref a) hg h1 rfl hd) rfl) fun σ H Q z => tO_mono (one_of z) fun y H1 z1 => top_in (x := x) h2 h3 z1
end
end Mi
end
section
set_option Elab.async false
set_option linter.all false
set_option maxRecDepth 100000
set_option maxHeartbeats 4000000
namespace Mi
open PySem PySem.Spec L2
/-! ### enumerate of a tuple -/
def enuD : Nat → List D → List D
  | _, [] => []
  | k, d :: ds => .tup [.int k, d] :: enuD (k + 1) ds
theorem enuD_get : ∀ {ds : List D} {k i : Nat}, (enuD k ds)[i]? = (ds[i]?).map fun d => .tup [.int ((k + i : Nat) : Int), d]
  | [], k, i => by simp [enuD]
  | d :: ds, k, 0 => by simp [enuD]
  | d :: ds, k, i + 1 => by
    simp only [enuD, List.getElem?_cons_succ]
    rw [enuD_get, show k + 1 + i = k + (i + 1) by omega]
theorem enuD_len : ∀ {ds : List D} {k : Nat}, (enuD k ds).length = ds.length
  | [], k => rfl
  | d :: ds, k => by simp [enuD, enuD_len (ds := ds)]
theorem it_enu {K : PySem.W.Frag} {M : Ms} {H : Hp} {a : Addr} {xs : List V} {ds : List D} (mo : MOk M H) (h : SqT K H a xs) (r : RelDs K M H xs ds) : ItOk K M H (enuD 0 ds) (Ite K a) := by
  have kk : ∀ H2 : Hp, (∀ a o, H a = some o → ¬ M a → H2 a = some o) → SqT K H2 a xs := fun H2 k => sqT_keep h fun b o e nn => k b o e fun z => (mo b z).elim fun ys q => nn ys (Option.some.inj (e.symm.trans q))
  exact {
    go := fun i H2 k hi => by
      rw [enuD_len] at hi
      obtain ⟨x, hx⟩ := r.get' hi
      exact ⟨xs, x, kk H2 k, hx⟩
    stop := fun i H2 k hi => by
      rw [enuD_len] at hi
      exact ⟨xs, kk H2 k, by have := r.length; omega⟩
    yld := fun i H2 x H3 d M2 k g mo2 hd hy => by
      obtain ⟨p, y, hp, rfl, hy, rfl⟩ := hy
      have hx := hy xs (kk _ k)
      rw [enuD_get] at hd
      cases e : ds[i]? with
      | none => rw [e] at hd; cases hd
      | some d0 =>
        rw [e] at hd
        cases hd
        obtain ⟨x', h1, h2⟩ := r.get e
        rw [hx] at h1; cases h1
        have k3 : ∀ b o, H2 b = some o → upd H2 p (.tup [.int i, y]) b = some o := fun b o eb => by rw [upd_ne (fun z => by subst z; rw [hp] at eb; cases eb)]; exact eb
        refine ⟨k3, .tup (.of upd_same) (.cons ?_ (.cons ((h2.step mo g k).step mo2 (fun _ z => .inl z) fun b o eb _ => k3 b o eb) .nil))⟩
        rw [Nat.zero_add]
        exact .int _ }
def sEnu (o : Opd) : Sr := fun E => (evs [o] E).bind fun r => match r.1 with
  | [.val (.tup ds)] => some (enuD 0 ds, r.2)
  | _ => none
theorem di_enu {X : Cx} {a : Expr} {o : Opd} {p pos tp : Pos} {elts : List Expr} {k : Nat} (hg : Gl X "enumerate") (hm : X.mg "enumerate" = none) (ha : DOs X [a] [o]) (hs : starEach [a] X.env = [(false, eval a X.env)] := by rfl) : DI X (.Tuple elts k tp) (.Call (.Name "enumerate" p) [a] [] pos) (sEnu o) := ⟨
  pi_mono (pi_enum hg hm ha.pe hs) fun σ H R z => by
    obtain ⟨F, E, ds, E', e, r, q⟩ := z
    obtain ⟨⟨ws, E1⟩, e1, e⟩ := bindE e
    refine evs_ok e1 r fun vs H1 p => ?_
    have sh := p.args.sh p.env
    dsimp only at e
    split at e
    · cases e
      cases sh with
      | cons h1 t =>
        cases t
        cases h1 with
        | tup h rr => exact ⟨_, rfl, ⟨_, h⟩, q _ _ ⟨p.env, p.ext, p.sub, p.lk, it_enu p.env.moO h rr⟩⟩
    · cases e⟩
end Mi
end
section
set_option Elab.async false
set_option linter.all false
set_option maxRecDepth 100000
set_option maxHeartbeats 4000000
namespace Mi
open PySem PySem.Spec L2
/-! ### what is not reached -/
/-! ### a, b = e, f -/
def xPar (n i j : Nat) (f g : Ev) : Ex := fun E => (evs [.ex f, .ex g] E).bind fun r => match r.1 with
  | [.val d, .val d'] => if canSet n r.2 i = true then (if canSet n (r.2.set i (some (.val d))) j = true then some (.nx, (r.2.set i (some (.val d))).set j (some (.val d'))) else none) else none
  | _ => none
theorem ds_par {X : Cx} {n i j : Nat} {x y : Str} {a b : Expr} {f g : Ev} {px py pt : Pos} {kt k2 : Nat} {pt2 pos : Pos} (hc : X.calm = true) (hN : X.N.Nodup) (hi : X.N[i]? = some x) (hj : X.N[j]? = some y) (hij : i ≠ j)
    (hx : X.env.scope.names.lookup x = some .local) (hy : X.env.scope.names.lookup y = some .local) (ha : DE X a f) (hb : DE X b g)
    (hw : swappedStores [.Tuple [.Name x px, .Name y py] kt pt] (.Tuple [a, b] k2 pt2) X.env = pure (some [x, y]) := by rfl)
    (hsa : starEach [a, b] X.env = (false, eval a X.env) :: starEach [b] X.env := by rfl) (hsb : starEach [b] X.env = (false, eval b X.env) :: starEach [] X.env := by rfl)
    (hs : swapsWithSole [.Tuple [.Name x px, .Name y py] kt pt] (.Tuple [a, b] k2 pt2) pos.line X.env = pure false := by rfl) : DS X n (.Assign [.Tuple [.Name x px, .Name y py] kt pt] (.Tuple [a, b] k2 pt2) pos) (xPar n i j f g) := ⟨by
  refine ps_mono (ps_par hc hN hi hj hij hx hy (pa_cons ha.pe (pa_cons hb.pe pa_nil hsb) hsa) hw hs) fun Dn σ H z => ?_
  obtain ⟨F, E₀, σ₀, H₀, E, fl, E', hn, e, r0, r, q⟩ := z
  obtain ⟨⟨ws, E1⟩, e1, e⟩ := bindE e
  refine evs_ok (K := X.K) e1 r.env fun vs H1 p => ?_
  dsimp only at e
  split at e
  · rename_i d d'
    split at e
    · rename_i c1
      split at e
      · rename_i c2
        cases e
        have sh := p.args.sh p.env
        cases sh with
        | cons h1 t =>
          cases t with
          | cons h2 t =>
            cases t
            obtain ⟨r1, s1⟩ := stp_put p.env h1 c1
            have h2' : RelD X.K (F.or (Own _ _)) H1 _ d' := RelD.step p.env.moO (fun a z => .inl (Or.imp id s1.sub z)) (fun _ _ e _ => e) h2
            obtain ⟨r2, s2⟩ := stp_put r1 h2' c2
            have rr := r.expr p.env p.ext p.sub p.lk
            exact ⟨_, _, rfl, q _ _ ((rr.stp hn r1 s1).stp hn r2 s2) ((Mv.trans ⟨p.ext, fun a z => .inl (p.sub a z)⟩ (.stp s1)).trans (.stp s2))⟩
      · cases e
    · cases e
  · cases e⟩
/-! ### the scopes of the comprehensions of a def -/
def scE : Nat → PySem.Expr → List Scope
  | 0, _ => []
  | n + 1, .ListComp e gs s _ => s :: (gs.flatMap fun g => scE n g.iter) ++ scE n e ++ (gs.flatMap fun g => g.ifs.flatMap (scE n))
  | n + 1, .BoolOp _ vs _ => vs.flatMap (scE n)
  | n + 1, .Call f as _ _ => scE n f ++ as.flatMap (scE n)
  | n + 1, .BinOp a _ b _ => scE n a ++ scE n b
  | n + 1, .UnaryOp _ a _ => scE n a
  | n + 1, .Compare a _ cs _ => scE n a ++ cs.flatMap (scE n)
  | n + 1, .Subscript a b _ => scE n a ++ scE n b
  | n + 1, .Tuple es _ _ => es.flatMap (scE n)
  | n + 1, .List es _ => es.flatMap (scE n)
  | n + 1, .IfExp c a b _ => scE n c ++ scE n a ++ scE n b
  | n + 1, .Dict _ vs _ => vs.flatMap (scE n)
  | n + 1, .Slice a b c _ => (a.toList ++ b.toList ++ c.toList).flatMap (scE n)
  | n + 1, .Attribute v _ _ => scE n v
  | _, _ => []
def scS : Nat → Stmt → List Scope
  | 0, _ => []
  | n + 1, .Return (some e) _ => scE 30 e
  | n + 1, .Assign ts e _ => ts.flatMap (scE 30) ++ scE 30 e
  | n + 1, .AugAssign t _ e _ => scE 30 t ++ scE 30 e
  | n + 1, .Expr e _ => scE 30 e
  | n + 1, .If t a b _ => scE 30 t ++ a.flatMap (scS n) ++ b.flatMap (scS n)
  | n + 1, .For _ it a b _ => scE 30 it ++ a.flatMap (scS n) ++ b.flatMap (scS n)
  | n + 1, .While t a b _ => scE 30 t ++ a.flatMap (scS n) ++ b.flatMap (scS n)
  | _, _ => []
def scOf (st : Stmt) (k : Nat) : Scope := ((defBody st).flatMap (scS 20)).getD k (defScope st)
end Mi
end
section
set_option Elab.async false
set_option linter.all false
set_option maxRecDepth 100000
set_option maxHeartbeats 4000000
namespace Mi
open PySem PySem.Spec L2
/-! ### while -/
def whileD (c : Ev) (b : Ex) : Nat → En → Option (Fl × En)
  | 0, _ => none
  | k + 1, E => (c E).bind fun r => match r.1 with
    | .val (.bl true) => (b r.2).bind fun p => match p.1 with
      | .nx => whileD c b k p.2
      | .ret w => some (.ret w, p.2)
    | .val (.bl false) => some (.nx, r.2)
    | _ => none
def xWhile (fuel : En → Nat) (c : Ev) (b : Ex) : Ex := fun E => whileD c b (fuel E) E
theorem ds_while {X : Cx} {n : Nat} {c : Expr} {body : List Stmt} {k : Ev} {b : Ex} {pos : Pos} (fuel : En → Nat) (hp : PassesOwn (model X.prog X.w) X.A X.env X.xe) (hc : DT X c k) (hb : DSs X n body b) : DS X n (.While c body [] pos) (xWhile fuel k b) := ⟨
  ps_mono (ps_while hp hc.pe hb.pe) fun Dn σ H z => by
    obtain ⟨F, E₀, σ₀, H₀, E, fl, E', hn, e, r0, r, q⟩ := z
    refine ⟨fun m σ' H' => ∃ E2, whileD k b m E2 = some (fl, E') ∧ FR X.K F E₀ σ₀ H₀ E2 σ' H' ∧ Mv E σ H E2 σ' H', ⟨fuel E, E, e, r, .refl⟩, fun m σ2 H2 hW => ?_⟩
    obtain ⟨E2, e2, r2, m2⟩ := hW
    cases m with
    | zero => cases e2
    | succ m =>
      obtain ⟨⟨w3, E3⟩, e3, e2⟩ := bindE e2
      dsimp only at e2
      split at e2
      · obtain ⟨⟨f4, E4⟩, e4, e2⟩ := bindE e2
        refine ⟨F, E2, true, E3, e3, r2.env, fun H3 r3 x3 s3 l3 => ?_⟩
        refine iteT ⟨fun σ' H' => ∃ m', m' < m + 1 ∧ ∃ E2, whileD k b m' E2 = some (fl, E') ∧ FR X.K F E₀ σ₀ H₀ E2 σ' H' ∧ Mv E σ H E2 σ' H', fun σ' H' z => z, ?_⟩
        have m3 : Mv E σ H E3 σ2 H3 := m2.trans ⟨x3, fun a z => .inl (s3 a z)⟩
        refine ⟨F, E₀, σ₀, H₀, E3, f4, E4, hn, e4, r0, r2.expr r3 x3 s3 l3, ?_⟩
        dsimp only at e2
        split at e2
        · exact fun σ5 H5 r5 m5 => ⟨m, by omega, E4, e2, r5, m3.trans m5⟩
        · cases e2
          exact fun v σ5 H5 r5 => q _ _ _ r5
      · cases e2
        refine ⟨F, E2, false, _, e3, r2.env, fun H3 r3 x3 s3 l3 => ?_⟩
        refine iteF ?_
        exact q _ _ (r2.expr r3 x3 s3 l3) (m2.trans ⟨x3, fun a z => .inl (s3 a z)⟩)
      · cases e2⟩

/-! ### {'a': x, ..}: texts for keys; a constant, or a name, for a value -/
inductive Itm where
  | con (v : V) (d : D)
  | nam (i : Nat)
def putD (kvs : List (Key × D)) (k : Key) (v : D) : List (Key × D) :=
  if (kvs.any fun kv => decide (kv.1 = k)) = true then kvs.map (fun kv => if kv.1 = k then (kv.1, v) else kv) else kvs ++ [(k, v)]
def mergeD (kvs more : List (Key × D)) : List (Key × D) := more.foldl (fun acc kv => putD acc kv.1 kv.2) kvs
section
variable {K : PySem.W.Frag} {M : Ms} {H : Hp}
theorem RelKs.any (k : Key) : ∀ {kvs : List (Key × V)} {es : List (Key × D)}, RelKs K M H kvs es → (kvs.any fun kv => decide (kv.1 = k)) = es.any fun kv => decide (kv.1 = k)
  | _, _, .nil => rfl
  | _, _, .cons h t => by rw [List.any_cons, List.any_cons, RelKs.any k t]
theorem RelKs.app : ∀ {kvs kvs' : List (Key × V)} {es es' : List (Key × D)}, RelKs K M H kvs es → RelKs K M H kvs' es' → RelKs K M H (kvs ++ kvs') (es ++ es')
  | _, _, _, _, .nil, s => s
  | _, _, _, _, .cons h t, s => .cons h (RelKs.app t s)
theorem RelKs.repl {k : Key} {v : V} {d : D} (r : RelD K M H v d) : ∀ {kvs : List (Key × V)} {es : List (Key × D)}, RelKs K M H kvs es → RelKs K M H (kvs.map fun kv => if kv.1 = k then (kv.1, v) else kv) (es.map fun kv => if kv.1 = k then (kv.1, d) else kv)
  | _, _, .nil => .nil
  | _, _, .cons (k := k') h t => by
    rw [List.map_cons, List.map_cons]
    by_cases e : k' = k
    · rw [if_pos e, if_pos e]; exact .cons r (RelKs.repl r t)
    · rw [if_neg e, if_neg e]; exact .cons h (RelKs.repl r t)
theorem RelKs.put {k : Key} {v : V} {d : D} {kvs : List (Key × V)} {es : List (Key × D)} (r : RelD K M H v d) (h : RelKs K M H kvs es) : RelKs K M H (putK kvs k v) (putD es k d) := by
  unfold putK putD
  rw [h.any k]
  split
  · exact h.repl r
  · exact h.app (.cons r .nil)
theorem RelKs.merge : ∀ {more : List (Key × V)} {more' : List (Key × D)} {kvs : List (Key × V)} {es : List (Key × D)}, RelKs K M H more more' → RelKs K M H kvs es → RelKs K M H (mergeK kvs more) (mergeD es more')
  | _, _, _, _, .nil, h => h
  | _, _, kvs, es, .cons (k := k) (v := v) (d := d) (vs := vs) (ds := ds) r t, h => show RelKs K M H (mergeK (putK kvs k v) vs) (mergeD (putD es k d) ds) from RelKs.merge t (h.put r)
theorem RelKs.val (k : Key) : ∀ {kvs : List (Key × V)} {es : List (Key × D)}, RelKs K M H kvs es → match es.find? (fun kv => decide (kv.1 = k)) with | some kv => ∃ v, valV kvs k = some v ∧ RelD K M H v kv.2 | none => valV kvs k = none
  | _, _, .nil => rfl
  | _, _, .cons (k := k') h t => by
    rw [List.find?_cons]
    by_cases e : k' = k
    · simp only [decide_eq_true e]
      exact ⟨_, valV_pos e, h⟩
    · simp only [decide_eq_false e]
      have ih := RelKs.val k t
      rw [valV_neg e]
      exact ih
end
def itmD (E : En) : Itm → Option D
  | .con _ d => some d
  | .nam i => (at? E i).map fz
def itmsD (E : En) : List (Str × Itm) → Option (List (Key × D))
  | [] => some []
  | (k, x) :: r => (itmD E x).bind fun d => (itmsD E r).map fun ds => (.inr k, d) :: ds
def fzAll : List (Str × Itm) → En → En
  | [], E => E
  | (_, .con _ _) :: r, E => fzAll r E
  | (_, .nam i) :: r, E => fzAll r (match at? E i with | some w => E.set i (some (.val (fz w))) | none => E)
def okItm (x : Itm) : Prop := match x with
  | .con v d => ∀ K M H, RelD K M H v d
  | .nam _ => True
def okAll : List (Str × Itm) → Prop
  | [] => True
  | (_, x) :: r => okItm x ∧ okAll r
theorem okAll_mem : ∀ {is : List (Str × Itm)} {k : Str} {x : Itm}, okAll is → (k, x) ∈ is → okItm x
  | (_, y) :: r, k, x, h, z => by
    rcases List.mem_cons.mp z with z | z
    · cases z; exact h.1
    · exact okAll_mem h.2 z
def eDict (is : List (Str × Itm)) : Ev := fun E => if is.length ≤ 15 then (itmsD (fzAll is E) is).map fun es => (.val (.dct (mergeD [] es)), fzAll is E) else none
def tItm : Itm → TE
  | .con v _ => tC v
  | .nam i => tVar i
theorem fzAll_ok {K : PySem.W.Frag} {F : Ms} {σ : Sg} {H : Hp} : ∀ {is : List (Str × Itm)} {E : En}, EnvR K F E σ H → EnvR K F (fzAll is E) σ H ∧ (∀ a, Own (fzAll is E) σ a → Own E σ a) ∧ Lk E (fzAll is E)
  | [], E, r => ⟨r, fun _ z => z, .refl⟩
  | (_, .con _ _) :: is, E, r => fzAll_ok (is := is) r
  | (_, .nam i) :: is, E, r => by
    unfold fzAll
    cases e : at? E i with
    | none => exact fzAll_ok (is := is) r
    | some w =>
      obtain ⟨v, hv⟩ := r.hasv (at?_some e)
      obtain ⟨r1, _⟩ := r.fzn (at?_some e) hv
      obtain ⟨r2, s2, l2⟩ := fzAll_ok (is := is) r1
      exact ⟨r2, fun a z => own_fz (s2 a z), (lk_fz (at?_some e)).trans l2⟩
/-- names that hold a list of one's own no more -/
theorem fzAll_val {E : En} {i : Nat} {ds : List D} : ∀ {is : List (Str × Itm)}, (∀ k, (k, Itm.nam i) ∉ is) ∨ ¬ (fzAll is E)[i]? = some (some (.own ds)) := by
  intro is
  induction is generalizing E with
  | nil => exact .inl fun k z => by cases z
  | cons x is ih =>
    obtain ⟨k, x⟩ := x
    cases x with
    | con v d =>
      rcases ih (E := E) with z | z
      · exact .inl fun k' z' => by
          rcases List.mem_cons.mp z' with z' | z'
          · cases z'
          · exact z k' z'
      · exact .inr z
    | nam j =>
      unfold fzAll
      by_cases hij : j = i
      · subst hij
        right
        have key : ∀ {is : List (Str × Itm)} {E : En}, (∀ ds, ¬ E[j]? = some (some (.own ds))) → ∀ ds, ¬ (fzAll is E)[j]? = some (some (.own ds)) := by
          intro is
          induction is with
          | nil => intro E h; exact h
          | cons y is ih2 =>
            intro E h
            obtain ⟨k', y⟩ := y
            cases y with
            | con v d => exact ih2 h
            | nam l =>
              unfold fzAll
              refine ih2 fun es => ?_
              split
              · rw [List.getElem?_set]
                split
                · split
                  · intro z; cases z
                  · intro z; cases z
                · exact h es
              · exact h es
        refine key (fun es => ?_) ds
        split
        · rw [List.getElem?_set]
          split
          · split
            · intro z; cases z
            · intro z; cases z
          · rename_i hh; exact absurd rfl hh
        · rename_i e
          intro z
          unfold at? at e
          rw [z] at e
          cases e
      · rcases ih (E := match at? E j with | some w => E.set j (some (.val (fz w))) | none => E) with z | z
        · exact .inl fun k' z' => by
            rcases List.mem_cons.mp z' with z' | z'
            · cases z'; exact hij rfl
            · exact z k' z'
        · exact .inr z
theorem itms_ok {K : PySem.W.Frag} {F : Ms} {E : En} {σ : Sg} {H H0 : Hp} (r : EnvR K F E σ H) : ∀ {is : List (Str × Itm)} {es : List (Key × D)} {Q : List (V × V) → Hp → Prop}, (∀ k x, (k, x) ∈ is → okItm x) → (∀ k i ds, (k, Itm.nam i) ∈ is → ¬ E[i]? = some (some (.own ds))) → itmsD E is = some es →
    (∀ kvs : List (Key × V), RelKs K (F.or (Own E σ)) H kvs es → kvs.length = is.length → Q (kvs.map fun kv => (kV kv.1, kv.2)) H0) → tPairs (is.map fun x => (tC (.str x.1), tItm x.2)) σ H0 Q
  | [], es, Q, _, _, e, q => by cases e; exact q [] .nil rfl
  | (k, x) :: is, es, Q, ok, no, e, q => by
    obtain ⟨d, e1, e⟩ := bindE e
    cases e2 : itmsD E is with
    | none => rw [e2] at e; cases e
    | some ds =>
      rw [e2] at e
      cases e
      have tail : ∀ {v : V}, RelD K (F.or (Own E σ)) H v d → tPairs (is.map fun x => (tC (.str x.1), tItm x.2)) σ H0 fun ps H3 => Q ((.str k, v) :: ps) H3 := fun {v} rv =>
        itms_ok r (fun k' x' z => ok k' x' (List.mem_cons_of_mem _ z)) (fun k' i' ds' z => no k' i' ds' (List.mem_cons_of_mem _ z)) e2 fun kvs rk hl => q ((.inr k, v) :: kvs) (.cons rv rk) (by simp [hl])
      cases x with
      | con v d' => cases e1; exact tail (ok k _ List.mem_cons_self _ _ _)
      | nam i =>
        have e1' : (at? E i).map fz = some d := e1
        clear e1
        have e1 := e1'
        cases e3 : at? E i with
        | none => rw [e3] at e1; cases e1
        | some w =>
          rw [e3] at e1
          cases e1
          cases w with
          | own ds' => exact absurd (at?_some e3) (no k i ds' List.mem_cons_self)
          | val d' =>
            obtain ⟨v, h1, h2⟩ := r.val i d' (at?_some e3)
            exact ⟨v, h1, tail h2⟩
theorem de_dict {X : Cx} {keys : List (Option Expr)} {values : List Expr} {is : List (Str × Itm)} {pos : Pos} (h : PPs X pos keys values (is.map fun x => (tC (.str x.1), tItm x.2))) (okA : okAll is) (hall : keys.all (·.isSome) = true := by rfl) (hl : keys.length = values.length := by rfl) (h0 : keys ≠ [] := by simp) (h15 : keys.length ≤ 15 := by decide) :
    DE X (.Dict keys values pos) (eDict is) := ⟨pe_mono (pe_disp h hall hl h0 h15) fun σ H Q z => by
  obtain ⟨F, E, w, E', e, r, q⟩ := z
  unfold eDict at e
  split at e
  · rename_i h15'
    cases e1 : itmsD (fzAll is E) is with
    | none => rw [e1] at e; cases e
    | some es =>
      rw [e1] at e
      cases e
      obtain ⟨r1, s1, l1⟩ := fzAll_ok (is := is) r
      intro p hp
      refine itms_ok r1 (fun k x z => okAll_mem okA z) (fun k i ds hm z => ?_) e1 fun kvs rk hlen => ⟨upd_same, kvs, rfl, by omega, ?_⟩
      · rcases fzAll_val (E := E) (i := i) (ds := ds) (is := is) with zz | zz
        · exact zz k hm
        · exact zz z
      · rw [upd_upd]
        have k3 : ∀ b o, H b = some o → upd H p (.dK (mergeK [] kvs)) b = some o := fun b o eb => by rw [upd_ne (fun z => by subst z; rw [hp] at eb; cases eb)]; exact eb
        have nw : Nw X.K (F.or (Own (fzAll is E) σ)) H (upd H p (.dK (mergeK [] kvs))) (.ref p) (.val (.dct (mergeD [] es))) :=
          ⟨k3, .dct upd_same ((RelKs.merge rk .nil).step r1.moO (fun a z => .inl (z.elim id False.elim)) fun b o eb _ => k3 b o eb)⟩
        have ap : APost X.K F E σ H [] [] (fzAll is E) [] H := ⟨r1, .refl, s1, .nil, l1⟩
        exact q _ _ (nw.post r ap)
  · cases e⟩
/-- what a display's rows are -/
inductive DIt (X : Cx) : List (Option Expr) → List Expr → List (Str × Itm) → Prop
  | nil : DIt X [] [] []
  | int {k : Str} {i : Int} {j j2 : Nat} {p p2 : Pos} {ks : List (Option Expr)} {vs : List Expr} {is : List (Str × Itm)} (h : DIt X ks vs is) : DIt X (some (.Constant (.str k) j p) :: ks) (.Constant (.int i) j2 p2 :: vs) ((k, .con (.int i) (.int i)) :: is)
  | nam {k y : Str} {i : Nat} {j : Nat} {p p2 : Pos} {ks : List (Option Expr)} {vs : List Expr} {is : List (Str × Itm)} (hy : PE X (.Name y p2) (tVar i)) (h : DIt X ks vs is) : DIt X (some (.Constant (.str k) j p) :: ks) (.Name y p2 :: vs) ((k, .nam i) :: is)
theorem DIt.pps {X : Cx} {pos : Pos} : ∀ {ks : List (Option Expr)} {vs : List Expr} {is : List (Str × Itm)}, DIt X ks vs is → PPs X pos ks vs (is.map fun x => (tC (.str x.1), tItm x.2))
  | _, _, _, .nil => pps_nil
  | _, _, _, .int h => pps_cons pe_str pe_int (DIt.pps h)
  | _, _, _, .nam hy h => pps_cons pe_str hy (DIt.pps h)
theorem DIt.ok {X : Cx} : ∀ {ks : List (Option Expr)} {vs : List Expr} {is : List (Str × Itm)}, DIt X ks vs is → okAll is
  | _, _, _, .nil => trivial
  | _, _, _, .int h => ⟨fun _ _ _ => .int _, DIt.ok h⟩
  | _, _, _, .nam _ h => ⟨trivial, DIt.ok h⟩
theorem DIt.all {X : Cx} : ∀ {ks : List (Option Expr)} {vs : List Expr} {is : List (Str × Itm)}, DIt X ks vs is → ks.all (·.isSome) = true ∧ ks.length = vs.length
  | _, _, _, .nil => ⟨rfl, rfl⟩
  | _, _, _, .int h => ⟨by rw [List.all_cons, (DIt.all h).1]; rfl, by rw [List.length_cons, List.length_cons, (DIt.all h).2]⟩
  | _, _, _, .nam _ h => ⟨by rw [List.all_cons, (DIt.all h).1]; rfl, by rw [List.length_cons, List.length_cons, (DIt.all h).2]⟩
theorem de_dct {X : Cx} {keys : List (Option Expr)} {values : List Expr} {is : List (Str × Itm)} {pos : Pos} (h : DIt X keys values is) (h0 : keys ≠ []) (h15 : keys.length ≤ 15) : DE X (.Dict keys values pos) (eDict is) := de_dict h.pps h.ok h.all.1 h.all.2 h0 h15
/-! ### d.get(k, x) -/
def eGet (i : Nat) (o x : Opd) : Ev := fun E => match at? E i with
  | some (.val (.dct _)) => (evs [.pk i, o, x] E).bind fun r => match r.1 with
    | [.val (.dct es), .val (.str k), .val d] => some (.val (match es.find? (fun kv => decide (kv.1 = Sum.inr k)) with | some kv => kv.2 | none => d), r.2)
    | _ => none
  | _ => none
theorem de_get {X : Cx} {e f : Expr} {o x : Opd} {p apos cpos : Pos} (i : Nat) {y : Str} (hu : X.A.units + 100 < cLine) (h : DO X e o) (hx : DO X f x) (m : M2 X (.Name y p) "get" apos e f cpos) (hN : X.N[i]? = some y := by rfl) (hv : Vis X.env.scope y := by first | exact Or.inl rfl | exact Or.inr (Or.inl rfl) | exact Or.inr (Or.inr rfl)) (hd : (y == ("__debug__" : Str)) = false := by decide)
    (hcd : (y == ("__classdict__" : Str)) = false := by decide) : DE X (.Call (.Attribute (.Name y p) "get" apos) [e, f] [] cpos) (eGet i o x) := ⟨pe_mono (pe_dget2 (by omega) (pe_var hN hv hd hcd) h.pe hx.pe m) fun σ H Q z => by
  obtain ⟨F, E, w, E', e, r, q⟩ := z
  unfold eGet at e
  split at e
  · rename_i es0 e0
    obtain ⟨⟨ws, E1⟩, e1, e⟩ := bindE e
    obtain ⟨v0, h1, h2⟩ := r.val i _ (at?_some e0)
    cases h2 with
    | @dct a kvs0 _ hd0 _ =>
      have zz := evs_ok (K := X.K) (F := F) (σ := σ) (Q := fun vs H3 => ∀ y z, vs = [.ref a, y, z] → ∃ ov, DGet H3 a y ov ∧ Q (ov.getD z) H3) e1 r (fun vs H1 p y z ev => by
        subst ev
        have sh := p.args.sh p.env
        dsimp only at e
        split at e
        · rename_i es k d
          cases e
          cases sh with
          | cons q1 t =>
            cases t with
            | cons q2 t =>
              cases t with
              | cons q3 t =>
                cases t
                cases q2
                cases q1 with
                | dct hd1 rk =>
                  refine ⟨_, .inl ⟨_, .inr k, .inl hd1, rfl, rfl⟩, ?_⟩
                  have := rk.val (.inr k)
                  cases ef : es.find? (fun kv => decide (kv.1 = Sum.inr k)) with
                  | none =>
                    rw [ef] at this
                    simp only at this
                    rw [this]
                    refine q _ _ ?_
                    rw [ef]
                    exact (post_same p.env q3).after p.ext p.sub p.lk
                  | some kv =>
                    rw [ef] at this
                    obtain ⟨v, hv, rv⟩ := this
                    rw [hv]
                    refine q _ _ ?_
                    rw [ef]
                    exact (post_same p.env rv).after p.ext p.sub p.lk
        · cases e)
      have zz' : tVar i σ H fun x0 H1 => tO X.K o σ H1 fun y H2 => tO X.K x σ H2 fun z H3 => ∀ y' z', [x0, y, z] = [V.ref a, y', z'] → ∃ ov, DGet H3 a y' ov ∧ Q (ov.getD z') H3 := zz
      obtain ⟨v1, hv1, zz⟩ := zz'
      rw [h1] at hv1
      cases hv1
      refine ⟨_, h1, a, rfl, .inl ⟨_, .inl hd0⟩, ?_⟩
      exact tO_mono (o := o) zz fun y H2 z2 => tO_mono (o := x) z2 fun z H3 z3 => z3 y z rfl
  · cases e⟩
/-! ### for the texts that are written by program -/
def fuelI (i : Nat) : En → Nat := fun E => match at? E i with
  | some (.val (.int j)) => j.natAbs + 2
  | _ => 0
theorem hu_room {A : Around} {k : Nat} (hr : Room k A) : A.units + 100 < cLine := by have := hr.un; omega
section
variable {P : Program} {w : World} {K : PySem.W.Frag} {mg : Str → Option Value} {base : Heap}
theorem dfn_none {x : Str} {st : Stmt} {k np : Nat} {ps : List Str} (S : St.Src K mg x st) (hbi : ∀ f fd, Fun K x x st f fd → Binds K fd ps []) : St.Dfn P w K mg base x k ps (spD K np fun _ => none) := by
  obtain ⟨f, fd, Fu, hm⟩ := S.ex
  refine ⟨f, fd, hm, Fu.kp, hbi f fd Fu, ⟨fun vs H Q E h => ?_, fun A outer s H args us vs Q E hr h0 hb hv h => ?_⟩⟩
  · obtain ⟨_, _, _, _, _, e, _⟩ := h; cases e
  · obtain ⟨_, _, _, _, _, e, _⟩ := h; cases e
end
end Mi
end
section
set_option Elab.async false
set_option linter.all false
set_option maxRecDepth 100000
set_option maxHeartbeats 4000000
namespace Mi
open PySem PySem.Spec L2
/-! ### sum of small numbers -/
def intD : D → Option Int
  | .int i => some i
  | _ => none
def intsD (ds : List D) : Option (List Int) := ds.mapM intD
theorem intsD_rel {K : PySem.W.Frag} {M : Ms} {H : Hp} : ∀ {vs : List V} {ds : List D} {ns : List Int}, RelDs K M H vs ds → intsD ds = some ns → vs = ns.map V.int
  | _, _, ns, .nil, e => by cases e; rfl
  | _, _, ns, .cons (d := d) (ds := ds) h t, e => by
    unfold intsD at e
    rw [List.mapM_cons] at e
    cases e1 : intD d with
    | none => rw [e1] at e; cases e
    | some b =>
      rw [e1] at e
      cases e2 : ds.mapM intD with
      | none => rw [e2] at e; cases e
      | some cs =>
        rw [e2] at e
        cases e
        have hd : d = .int b := by
          cases d <;> first | (cases e1; done) | skip
          cases e1; rfl
        subst hd
        cases h
        rw [List.map_cons, ← intsD_rel t e2]
def wSum : Op1 := fun w => (asL w).bind fun ds => (intsD ds).bind fun ns => if (decide (ns.length ≤ 1000) && ns.all fun n => decide (0 ≤ n) && decide (n ≤ 1000000)) = true then some (.val (.int ns.sum)) else none
theorem call_sumD {X : Cx} (hc : X.calm = true) : CallR X (.builtin "sum") (rN X.K (o1 wSum)) := by
  intro pins s σ H xs us Q I r h
  obtain ⟨M, ws, w, e, mo, sh, q⟩ := h
  obtain ⟨v, w1, rfl, rfl, s1, e1⟩ := shs_one sh e
  obtain ⟨ds, e2, e1⟩ := bindE e1
  obtain ⟨ns, e3, e1⟩ := bindE e1
  split at e1
  · rename_i hk
    rw [Bool.and_eq_true] at hk
    cases e1
    obtain ⟨a, ys, rfl, h3, h4⟩ := s1.l e2
    refine St.call_sumL hc pins s σ H _ us Q I r ⟨a, ns, rfl, by rw [← intsD_rel h4 e3]; exact .of h3, of_decide_eq_true hk.1, fun n hn => ?_, q _ _ (.same mo (.int _))⟩
    have := (List.all_eq_true.mp hk.2) n hn
    rw [Bool.and_eq_true] at this
    exact ⟨of_decide_eq_true this.1, of_decide_eq_true this.2⟩
  · cases e1
end Mi
end
section
set_option Elab.async false
set_option linter.all false
set_option maxRecDepth 100000
set_option maxHeartbeats 4000000
namespace Mi
open PySem PySem.Spec L2
/-! ### h = TABLE[x]; return h(..): a table of defs -/
structure TopF (P : Program) (w : World) (K : PySem.W.Frag) (mg : Str → Option Value) (base : Heap) (x : Str) (k np : Nat) (tbl : List (Str × Fn)) : Prop where
  ex : ∃ a kvs, mg x = some (.ref a) ∧ TopD K w a kvs ∧ ∀ p G, tbl.lookup p = some G → ∃ f fd ps, kvs.lookup p = some (.ref f) ∧ FnOk P w K mg base CX0 k f fd ps (spD K np G) ∧ PySem.W.keepIn K (.ref f) = true ∧ Binds K fd ps []
/-- i: the name that the def is kept under; j: the name that holds the key -/
def xTbl (np : Nat) (tbl : List (Str × Fn)) (i j : Nat) (os : List Opd) : Ex := fun E => if ((at? E i).isNone && decide (i < E.length)) = true then (at? E j).bind fun w => match w with
  | .val (.str p) => (tbl.lookup p).bind fun G => xRet (eCall np G os) E
  | _ => none
  else none
theorem EnvR.setNone {K : PySem.W.Frag} {F : Ms} {E : En} {σ : Sg} {H : Hp} {i : Nat} {v : V} (r : EnvR K F E σ H) (h : at? E i = none) : EnvR K F E (σ.set i (some v)) H ∧ ∀ a, Own E (σ.set i (some v)) a ↔ Own E σ a := by
  have ne : ∀ {j : Nat} {w : Wv}, E[j]? = some (some w) → i ≠ j := fun {j w} e z => by
    subst z
    unfold at? at h
    rw [e] at h
    cases h
  have o : ∀ a, Own E (σ.set i (some v)) a ↔ Own E σ a := fun a => ⟨fun ⟨j, ds, e1, e2⟩ => ⟨j, ds, e1, by rw [List.getElem?_set_ne (ne e1)] at e2; exact e2⟩, fun ⟨j, ds, e1, e2⟩ => ⟨j, ds, e1, by rw [List.getElem?_set_ne (ne e1)]; exact e2⟩⟩
  have g : ∀ a, (F.or (Own E (σ.set i (some v)))) a → (F.or (Own E σ)) a ∨ H a = none := fun a z => .inl (z.imp id (o a).mp)
  refine ⟨⟨by rw [List.length_set]; exact r.len, fun j d e => ?_, fun j ds e => ?_, fun j k ds es a e1 e2 s1 s2 => ?_, r.mo⟩, o⟩
  · obtain ⟨u, h1, h2⟩ := r.val j d e
    exact ⟨u, by rw [List.getElem?_set_ne (ne e)]; exact h1, h2.step r.moO g fun _ _ e _ => e⟩
  · obtain ⟨a, xs, h1, h2, h3, h4⟩ := r.own j ds e
    exact ⟨a, xs, by rw [List.getElem?_set_ne (ne e)]; exact h1, h2, h3.step r.moO g (fun _ _ e _ => e), h4⟩
  · rw [List.getElem?_set_ne (ne e1)] at s1
    rw [List.getElem?_set_ne (ne e2)] at s2
    exact r.inj j k ds es a e1 e2 s1 s2
theorem dss_tbl {X : Cx} {n k np : Nat} {tbl : List (Str × Fn)} {x h y : Str} {px ph ph2 py pr p1 p2 pc : Pos} {e : Expr} {es : List Expr} {os : List Opd} (i j : Nat) (T : TopF X.prog X.w X.K X.mg X.base x k np tbl) (hr : Room k X.A) (ha : DOs X (e :: es) os) (hn : n ≤ i) (hN : X.N.Nodup)
    (hg : Gl X x := by rfl) (hi : X.N[i]? = some h := by rfl) (hil : X.env.scope.names.lookup h = some .local := by rfl) (hj : X.N[j]? = some y := by rfl) (hv : Vis X.env.scope y := by first | exact Or.inl rfl | exact Or.inr (Or.inl rfl) | exact Or.inr (Or.inr rfl))
    (hdx : (x == ("__debug__" : Str)) = false := by decide) (hdy : (y == ("__debug__" : Str)) = false := by decide) (hcy : (y == ("__classdict__" : Str)) = false := by decide) (hdh : (h == ("__debug__" : Str)) = false := by decide) (hch : (h == ("__classdict__" : Str)) = false := by decide)
    (hs : swapsWith (.Subscript (.Name x px) (.Name y py) p1) (some (.Name h ph)) p2.line X.env = pure false := by rfl) (hpl : PlainIx (.Name y py) := by exact fun _ _ => rfl)
    (he : starEach (e :: es) X.env = (false, eval e X.env) :: starEach es X.env := by rfl) (hpa : (backTo pc (starEach es X.env)).any (·.1) = false := by rfl) :
    DSs X n [.Assign [.Name h ph] (.Subscript (.Name x px) (.Name y py) p1) p2, .Return (some (.Call (.Name h ph2) (e :: es) [] pc)) pr] (xTbl np tbl i j os) := ⟨by
  obtain ⟨a, kvs, t1, t2, t3⟩ := T.ex
  refine pss_mono (pss_cons (ps_set (i := i) hN hi (.inl hil) (pe_ix ix_top (pe_glob (v := .ref a) hg t1 rfl hdx) (pe_var hj hv hdy hcy) hpl) hs (.inr hil)) (pss_one (ps_ret (pe_callL (k := k) (i := i) hi (.inl hil) hr ha.pe hdh hch he hpa)))) fun Dn σ H z => ?_
  obtain ⟨F, E₀, σ₀, H₀, E, fl, E', hn0, e, r0, r, q⟩ := z
  unfold xTbl at e
  split at e
  · rename_i hnone
    rw [Bool.and_eq_true] at hnone
    have hlt := of_decide_eq_true hnone.2
    have hnone : at? E i = none := by simpa using hnone.1
    obtain ⟨w, e1, e⟩ := bindE e
    split at e
    · rename_i p
      obtain ⟨G, e2, e⟩ := bindE e
      unfold xRet at e
      cases e3 : eCall np G os E with
      | none => rw [e3] at e; cases e
      | some pp =>
        obtain ⟨w4, E4⟩ := pp
        rw [e3] at e
        cases e
        obtain ⟨v, hv1, hv2⟩ := r.env.val j _ (at?_some e1)
        cases hv2
        obtain ⟨f, fd, ps, l1, l2, l3, l4⟩ := t3 p G e2
        refine ⟨_, hv1, a, kvs, p, _, rfl, rfl, t2, l1, ?_⟩
        obtain ⟨r1, o1⟩ := r.env.setNone (v := .ref f) hnone
        have hlen : i < σ.length := by
          have := r.env.len
          omega
        refine ⟨f, spD X.K np G, List.getElem?_set_self hlen, ⟨fd, ps, l2, l3, l4⟩, ?_⟩
        have rr : FR X.K F E₀ σ₀ H₀ E (σ.set i (some (.ref f))) H := ⟨r1, r.ext, fun b z => r.loc b ((o1 b).mp z), fun l es' el => by
          obtain ⟨k1, k2⟩ := r.keep l es' el
          have : i ≠ l := by
            have := (List.getElem?_eq_some_iff.mp el).1
            omega
          exact ⟨by rw [List.getElem?_set_ne this]; exact k1, k2⟩⟩
        obtain ⟨⟨ws, E1⟩, e4, e3⟩ := bindE e3
        dsimp only at e3
        split at e3
        · rename_i hk
          rw [Bool.and_eq_true] at hk
          have nd := of_decide_eq_true hk.1
          have hnp := of_decide_eq_true hk.2
          cases e5 : G ws with
          | none => rw [e5] at e3; cases e3
          | some p5 =>
            obtain ⟨w5, ws5⟩ := p5
            rw [e5] at e3
            cases e3
            refine evs_ok e4 r1 fun vs H1 p => ?_
            rw [List.append_nil]
            exact ⟨_, ws, w5, ws5, hnp, e5, p.env.callee p.args nd, fun v H2 p2 => q _ _ _ (rr.post ((Post.caller p.env p.args nd p2).after p.ext p.sub p.lk))⟩
        · cases e3
    · cases e
  · cases e⟩
end Mi
end
section
set_option Elab.async false
set_option linter.all false
set_option maxRecDepth 100000
set_option maxHeartbeats 4000000
namespace Mi
open PySem PySem.Spec L2
/-! ### from the text's top -/
section
variable {P : Program} {w : World} {K : PySem.W.Frag} {mg : Str → Option Value} {base h : Heap}
theorem src_mk {x : Str} {st : Stmt} {f : Addr} {oc : Value} {od an : Option Addr} {osl : Array (Option Value)} {kV doc pm cdv ct : Value} (X : K.In h) (G : h.Ns mainGlobals mg) (a : PySem.W.nsIn K mainGlobals x = some (some (.ref f)))
    (l : K.lookup f = some ⟨oc, od, .func (PySem.W.fnOf x x (defArgs st) (defBody st) (defScope st) .none kV doc pm an cdv ct), osl⟩) (c : PySem.W.codeIn K cdv x = true) (k : PySem.W.keepIn K (.ref f) = true) : St.Src K mg x st :=
  ⟨f, _, fun_mk l c k, PySem.W.mg_of X G a⟩
/-- a value of the top that is data -/
def IsD (K : PySem.W.Frag) (u : Value) (d : D) : Prop := ∃ v, RelV v u ∧ ∀ M H, RelD K M H v d
theorem isd_int {i : Int} {t : Tok} : IsD K (.int i t) (.int i) := ⟨.int i, ⟨t, rfl⟩, fun _ _ => .int i⟩
theorem isd_str {x : Str} {t : Tok} : IsD K (.str x t) (.str x) := ⟨.str x, ⟨t, rfl⟩, fun _ _ => .str x⟩
theorem isds_rel : ∀ {us : List Value} {ds : List D}, Paired (fun d u => IsD K u d) ds us → ∃ xs, Vals xs us ∧ ∀ M H, RelDs K M H xs ds
  | _, _, .nil => ⟨[], .nil, fun _ _ => .nil⟩
  | _, _, .cons h t => by
    obtain ⟨v, h1, h2⟩ := h
    obtain ⟨xs, h3, h4⟩ := isds_rel t
    exact ⟨v :: xs, .cons h1 h3, fun M H => .cons (h2 M H) (h4 M H)⟩
theorem isd_tup {a : Addr} {od : Option Addr} {osl : Array (Option Value)} {its : List Value} {n : Nat} {ds : List D} (l : K.lookup a = some ⟨.type "tuple", od, .seq its.toArray n, osl⟩) (hz : its.length ≤ sizeLine) (r : Paired (fun d u => IsD K u d) ds its) : IsD K (.ref a) (.tup ds) := by
  obtain ⟨xs, h1, h2⟩ := isds_rel r
  exact ⟨.ref a, rfl, fun M H => .tup (.inr ⟨_, its.toArray, n, l, rfl, rfl, by simpa using hz, by simpa using h1⟩) (h2 M H)⟩
theorem cst_mk {x : Str} {u : Value} {d : D} (X : K.In h) (G : h.Ns mainGlobals mg) (e : PySem.W.nsIn K mainGlobals x = some (some u)) (r : IsD K u d) : CstD K mg x d := by
  obtain ⟨v, h1, h2⟩ := r
  exact ⟨v, u, PySem.W.mg_of X G e, h1, h2⟩
theorem tbl_kvs : ∀ {tbl : List (Str × D)} {es : List DictEntry}, Paired (fun (p : Str × D) (e : DictEntry) => (∃ t, e.key = .str p.1 t) ∧ IsD K e.val p.2) tbl es →
    ∃ kvs : List (Str × V), Paired (fun (p : Str × V) (e : DictEntry) => (∃ t, e.key = .str p.1 t) ∧ RelV p.2 e.val) kvs es ∧ ∀ k, (tbl.lookup k = none → kvs.lookup k = none) ∧ ∀ d, tbl.lookup k = some d → ∃ v, kvs.lookup k = some v ∧ ∀ M H, RelD K M H v d
  | _, _, .nil => ⟨[], .nil, fun k => ⟨fun _ => rfl, fun d e => by cases e⟩⟩
  | (k0, d0) :: tbl, _ :: es, .cons hh t => by
    obtain ⟨hk, v, h1, h2⟩ := hh
    obtain ⟨kvs, h3, h4⟩ := tbl_kvs t
    refine ⟨(k0, v) :: kvs, .cons ⟨hk, h1⟩ h3, fun k => ?_⟩
    rw [List.lookup_cons, List.lookup_cons]
    cases e : k == k0 with
    | true => exact ⟨fun z => (nomatch z), fun d z => by cases z; exact ⟨v, rfl, h2⟩⟩
    | false => exact h4 k
theorem topT_mk {x : Str} {a : Addr} {n : Nat} {es : List DictEntry} {tbl : List (Str × D)} (X : K.In h) (G : h.Ns mainGlobals mg) (e : PySem.W.nsIn K mainGlobals x = some (some (.ref a))) (l : K.lookup a = some ⟨.type "dict", none, .dict es.toArray n, #[]⟩)
    (hk : PySem.W.KeysLit w.params es) (hne : (a == sysModules) = false) (hp : Paired (fun (p : Str × D) (e : DictEntry) => (∃ t, e.key = .str p.1 t) ∧ IsD K e.val p.2) tbl es) : TopT K w mg x tbl := by
  obtain ⟨kvs, h1, h2⟩ := tbl_kvs hp
  exact ⟨a, kvs, PySem.W.mg_of X G e, top_mk l hk hne h1, h2⟩
/-- a table of defs, by their names -/
structure TopR (w : World) (K : PySem.W.Frag) (mg : Str → Option Value) (x : Str) (ns : List (Str × Str)) : Prop where
  ex : ∃ a kvs, mg x = some (.ref a) ∧ TopD K w a kvs ∧ Paired (fun (n : Str × Str) (q : Str × V) => n.1 = q.1 ∧ ∃ f, q.2 = .ref f ∧ mg n.2 = some (.ref f)) ns kvs
theorem names_kvs (X : K.In h) (G : h.Ns mainGlobals mg) : ∀ {ns : List (Str × Str)} {es : List DictEntry}, Paired (fun (n : Str × Str) (e : DictEntry) => (∃ t, e.key = .str n.1 t) ∧ ∃ f, e.val = .ref f ∧ PySem.W.nsIn K mainGlobals n.2 = some (some (.ref f))) ns es →
    ∃ kvs : List (Str × V), Paired (fun (p : Str × V) (e : DictEntry) => (∃ t, e.key = .str p.1 t) ∧ RelV p.2 e.val) kvs es ∧ Paired (fun (n : Str × Str) (q : Str × V) => n.1 = q.1 ∧ ∃ f, q.2 = .ref f ∧ mg n.2 = some (.ref f)) ns kvs
  | _, _, .nil => ⟨[], .nil, .nil⟩
  | (k0, g0) :: ns, _ :: es, .cons hh t => by
    obtain ⟨hk, f, h1, h2⟩ := hh
    obtain ⟨kvs, h3, h4⟩ := names_kvs X G t
    exact ⟨(k0, .ref f) :: kvs, .cons ⟨hk, h1⟩ h3, .cons ⟨rfl, f, rfl, PySem.W.mg_of X G h2⟩ h4⟩
theorem topR_mk {x : Str} {a : Addr} {n : Nat} {es : List DictEntry} {ns : List (Str × Str)} (X : K.In h) (G : h.Ns mainGlobals mg) (e : PySem.W.nsIn K mainGlobals x = some (some (.ref a))) (l : K.lookup a = some ⟨.type "dict", none, .dict es.toArray n, #[]⟩)
    (hk : PySem.W.KeysLit w.params es) (hne : (a == sysModules) = false) (hp : Paired (fun (n : Str × Str) (e : DictEntry) => (∃ t, e.key = .str n.1 t) ∧ ∃ f, e.val = .ref f ∧ PySem.W.nsIn K mainGlobals n.2 = some (some (.ref f))) ns es) : TopR w K mg x ns := by
  obtain ⟨kvs, h1, h2⟩ := names_kvs X G hp
  exact ⟨a, kvs, PySem.W.mg_of X G e, top_mk l hk hne h1, h2⟩
theorem topF_at {k np : Nat} : ∀ {ns : List (Str × Str)} {kvs : List (Str × V)} {tbl : List (Str × Fn)}, Paired (fun (n : Str × Str) (q : Str × V) => n.1 = q.1 ∧ ∃ f, q.2 = .ref f ∧ mg n.2 = some (.ref f)) ns kvs → Paired (fun (n : Str × Str) (q : Str × Fn) => n.1 = q.1 ∧ ∃ j ps, j ≤ k ∧ St.Dfn P w K mg base n.2 j ps (spD K np q.2)) ns tbl →
    ∀ p G, tbl.lookup p = some G → ∃ f fd ps, kvs.lookup p = some (.ref f) ∧ FnOk P w K mg base CX0 k f fd ps (spD K np G) ∧ PySem.W.keepIn K (.ref f) = true ∧ Binds K fd ps []
  | _, _, _, .nil, .nil, p, G, e => by cases e
  | _ :: _, (k1, v1) :: kvs, (k2, G2) :: tbl, .cons h1 t1, .cons h2 t2, p, G, e => by
    obtain ⟨e1, f, e2, e3⟩ := h1
    obtain ⟨e4, j, ps, hj, hd⟩ := h2
    have e5 : k1 = k2 := e1.symm.trans e4
    subst e5
    rw [List.lookup_cons] at e ⊢
    cases eq : p == k1 with
    | true =>
      rw [eq] at e
      cases e
      obtain ⟨f', fd, m1, m2, m3, m4⟩ := hd.ex
      have : f' = f := by
        have := m1.symm.trans e3
        cases this; rfl
      subst this
      exact ⟨f', fd, ps, by rw [show v1 = .ref f' from e2], m4.mono hj, m2, m3⟩
    | false =>
      rw [eq] at e
      exact topF_at t1 t2 p G e
theorem topF_mk {x : Str} {k np : Nat} {ns : List (Str × Str)} {tbl : List (Str × Fn)} (T : TopR w K mg x ns) (h : Paired (fun (n : Str × Str) (q : Str × Fn) => n.1 = q.1 ∧ ∃ j ps, j ≤ k ∧ St.Dfn P w K mg base n.2 j ps (spD K np q.2)) ns tbl) : TopF P w K mg base x k np tbl := by
  obtain ⟨a, kvs, h1, h2, h3⟩ := T.ex
  exact ⟨a, kvs, h1, h2, topF_at h3 h⟩
/-! ### the law's call -/
def spLaw (K : PySem.W.Frag) : Sp := fun vs H Q _ => ∃ (a : Addr) (ns : List Int), vs = [.ref a] ∧ SqL K H a (ns.map V.int) ∧ ns.length ≤ 63 ∧ ∀ H', Q (.bl true) H'
theorem law_sp {k : Nat} {f : Addr} {fd : FuncData} {x : Str} {F : Fn} (Fk : FnOk P w K mg base CX0 k f fd [x] (spD K 1 F)) (h : ∀ ns : List Int, ns.length ≤ 63 → ∃ ws, F [.val (.scr ns)] = some (.val (.bl true), ws)) : FnOk P w K mg base CX0 k f fd [x] (spLaw K) := by
  refine Fk.imp fun vs H Q E z => ?_
  obtain ⟨a, ns, rfl, hs, hl, q⟩ := z
  obtain ⟨ws, e⟩ := h ns hl
  refine ⟨fun _ => False, [.val (.scr ns)], _, ws, rfl, e, ⟨rfl, fun i d ei => ?_, fun i ds ei => ?_, fun i j ds es b ei => ?_, fun b z => z.elim⟩, fun v H' p => ?_⟩
  · cases i with
    | zero =>
      cases ei
      refine ⟨.ref a, rfl, .scr ?_⟩
      rcases hs with hs | hs
      · refine .inl ⟨hs, fun z => ?_⟩
        rcases z with z | ⟨j, es, z1, _⟩
        · exact z
        · cases j with
          | zero => cases z1
          | succ j => cases z1
      · exact .inr hs
    | succ i => cases ei
  · cases i with
    | zero => cases ei
    | succ i => cases ei
  · cases i with
    | zero => cases ei
    | succ i => cases ei
  · have r : RelD K _ H' v (.bl true) := p.rel
    cases r
    exact q H'
end
end Mi
end
section
set_option Elab.async false
set_option linter.all false
set_option maxRecDepth 100000
set_option maxHeartbeats 4000000
set_option exponentiation.threshold 10000
namespace Mi
open PySem PySem.Spec L2
section
variable {E : En} {op : OpN} {f g c : Ev} {d : D} {i : Nat} {w : Wv} {a b e h r' : D} {r : List D}
@[simp] theorem at_z {o : Option Wv} {E : En} : at? (o :: E) 0 = o := rfl
@[simp] theorem at_s {o : Option Wv} {E : En} {i : Nat} : at? (o :: E) (i + 1) = at? E i := rfl
@[simp] theorem at_1 {o o1 : Option Wv} {E : En} : at? (o :: o1 :: E) 1 = o1 := rfl
@[simp] theorem at_2 {o o1 o2 : Option Wv} {E : En} : at? (o :: o1 :: o2 :: E) 2 = o2 := rfl
@[simp] theorem at_3 {o o1 o2 o3 : Option Wv} {E : En} : at? (o :: o1 :: o2 :: o3 :: E) 3 = o3 := rfl
@[simp] theorem at_4 {o o1 o2 o3 o4 : Option Wv} {E : En} : at? (o :: o1 :: o2 :: o3 :: o4 :: E) 4 = o4 := rfl
@[simp] theorem at_5 {o o1 o2 o3 o4 o5 : Option Wv} {E : En} : at? (o :: o1 :: o2 :: o3 :: o4 :: o5 :: E) 5 = o5 := rfl
@[simp] theorem at_6 {o o1 o2 o3 o4 o5 o6 : Option Wv} {E : En} : at? (o :: o1 :: o2 :: o3 :: o4 :: o5 :: o6 :: E) 6 = o6 := rfl
@[simp] theorem at_7 {o o1 o2 o3 o4 o5 o6 o7 : Option Wv} {E : En} : at? (o :: o1 :: o2 :: o3 :: o4 :: o5 :: o6 :: o7 :: E) 7 = o7 := rfl
@[simp] theorem at_8 {o o1 o2 o3 o4 o5 o6 o7 o8 : Option Wv} {E : En} : at? (o :: o1 :: o2 :: o3 :: o4 :: o5 :: o6 :: o7 :: o8 :: E) 8 = o8 := rfl
@[simp] theorem eC_run : eC d E = some (.val d, E) := rfl
@[simp] theorem eV_run : eV i E = (at? E i).map fun w => (.val (fz w), E.set i (some (.val (fz w)))) := rfl
@[simp] theorem evs_nil : evs [] E = some ([], E) := rfl
@[simp] theorem evs_pk1 {os : List Opd} : evs (.pk i :: os) E = (at? E i).bind fun w0 => (evs os E).bind fun q => (at? q.2 i).map fun w => (w :: q.1, q.2) := by
  simp only [evs, Opd.ev, Opd.re]
  cases at? E i <;> rfl
@[simp] theorem evs_ex1 {os : List Opd} : evs (.ex f :: os) E = (f E).bind fun r => (evs os r.2).bind fun q => some (.val (fz r.1) :: q.1, q.2) := by
  simp only [evs, Opd.ev, Opd.re]
  cases f E <;> rfl
@[simp] theorem eOp_run {os : List Opd} : eOp op os E = (evs os E).bind fun r => (op r.1).map fun w => (w, r.2) := rfl
@[simp] theorem o1_run {f : Op1} : o1 f [w] = f w := rfl
@[simp] theorem o2_run {f : Op2} {w' : Wv} : o2 f [w, w'] = f w w' := rfl
@[simp] theorem fz_val : fz (.val d) = d := rfl
@[simp] theorem fz_own : fz (.own r) = .lst r := rfl
@[simp] theorem eAnd_run : eAnd f g E = (f E).bind fun r => match r.1 with | .val (.bl true) => g r.2 | .val (.bl false) => some (.val (.bl false), r.2) | _ => none := rfl
@[simp] theorem eOr_run : eOr f g E = (f E).bind fun r => match r.1 with | .val (.bl false) => g r.2 | .val (.bl true) => some (.val (.bl true), r.2) | _ => none := rfl
@[simp] theorem eNot_run : eNot f E = (f E).bind fun r => match r.1 with | .val (.bl b) => some (.val (.bl (!b)), r.2) | _ => none := rfl
@[simp] theorem eIf_run : eIf c f g E = (c E).bind fun r => match r.1 with | .val (.bl true) => f r.2 | .val (.bl false) => g r.2 | _ => none := rfl
variable {x y : Ex}
@[simp] theorem xSeq_run : xSeq x y E = (x E).bind fun r => match r.1 with | .nx => y r.2 | .ret w => some (.ret w, r.2) := rfl
@[simp] theorem xNil_run : xNil E = some (.nx, E) := rfl
@[simp] theorem xIf_run : xIf c x y E = (c E).bind fun r => match r.1 with | .val (.bl true) => x r.2 | .val (.bl false) => y r.2 | _ => none := rfl
@[simp] theorem xRet_run : xRet f E = (f E).map fun r => (.ret r.1, r.2) := rfl
@[simp] theorem xRetV_run {n : Nat} : xRetV n i E = (at? E i).bind fun w => match w with
  | .own ds => if n ≤ i then some (.ret (.own ds), E.set i none) else some (.ret (.val (.lst ds)), E.set i (some (.val (.lst ds))))
  | .val d => some (.ret (.val d), E) := rfl
@[simp] theorem xAsg_run {n : Nat} : xAsg n i f E = (f E).bind fun r => if canSet n r.2 i = true then some (.nx, r.2.set i (some r.1)) else none := rfl
@[simp] theorem canSet_cons {n : Nat} : canSet n E i = (decide (i < E.length) && (decide (n ≤ i) || !isLb E i)) := rfl
@[simp] theorem xSet_run {o : Opd} : xSet i f o E = (f E).bind fun r => (ownAt r.2 i).bind fun _ => (evs [o] r.2).bind fun p => match p.1 with
  | [.val (.int j)] => (ownAt p.2 i).bind fun ds => (ixN ds.length j).map fun m => (.nx, p.2.set i (some (.own (ds.set m (fz r.1)))))
  | _ => none := rfl
@[simp] theorem ownAt_run : ownAt E i = match at? E i with | some (.own ds) => some ds | _ => none := rfl
@[simp] theorem runFn_run {N : Nat} {ws : List Wv} : runFn N x ws = (x (ws.map some ++ List.replicate (N - ws.length) none)).map fun r => (flW r.1, afterW ws r.2) := rfl
@[simp] theorem flW_nx : flW .nx = .val .non := rfl
@[simp] theorem flW_ret : flW (.ret w) = w := rfl
@[simp] theorem after_nil : afterW [] E = [] := rfl
@[simp] theorem after_val {ws : List Wv} {o : Option Wv} : afterW (.val d :: ws) (o :: E) = .val d :: afterW ws E := rfl
@[simp] theorem after_own {ws : List Wv} {o : Option Wv} : afterW (.own r :: ws) (o :: E) = o.getD (.own r) :: afterW ws E := rfl
@[simp] theorem wI2_run {f : Int → Int → Option D} {i j : Int} : wI2 f (.val (.int i)) (.val (.int j)) = (f i j).map .val := rfl
@[simp] theorem wAdd_ii {i j : Int} : wAdd (.val (.int i)) (.val (.int j)) = some (.val (.int (i + j))) := rfl
@[simp] theorem wMul_ii {i j : Int} : wMul (.val (.int i)) (.val (.int j)) = if mulOk i j = true then some (.val (.int (i * j))) else none := rfl
@[simp] theorem asS_own : asS (.own r) = some r := rfl
@[simp] theorem asS_lst : asS (.val (.lst r)) = some r := rfl
@[simp] theorem asS_tup : asS (.val (.tup r)) = some r := rfl
@[simp] theorem asS_scr {ns : List Int} : asS (.val (.scr ns)) = some (ns.map .int) := rfl
@[simp] theorem asL_own : asL (.own r) = some r := rfl
@[simp] theorem asL_lst : asL (.val (.lst r)) = some r := rfl
@[simp] theorem wIx_run {j : Int} : wIx w (.val (.int j)) = (asS w).bind fun ds => (atI ds j).map .val := rfl
theorem atI_lit {α : Type} {xs : List α} {n : Nat} {x : α} (h : xs[n]? = some x) : atI xs (n : Int) = some x := atI_nat h
@[simp] theorem atI_0 : atI (a :: r) 0 = some a := atI_lit (n := 0) rfl
@[simp] theorem atI_1 : atI (a :: b :: r) 1 = some b := atI_lit (n := 1) rfl
@[simp] theorem atI_2 : atI (a :: b :: e :: r) 2 = some e := atI_lit (n := 2) rfl
@[simp] theorem atI_3 : atI (a :: b :: e :: h :: r) 3 = some h := atI_lit (n := 3) rfl
@[simp] theorem atI_4 {k : D} : atI (a :: b :: e :: h :: k :: r) 4 = some k := atI_lit (n := 4) rfl
@[simp] theorem atI_5 {k l : D} : atI (a :: b :: e :: h :: k :: l :: r) 5 = some l := atI_lit (n := 5) rfl
theorem ixN_lit {n k : Nat} (h : k < n) : ixN n (k : Int) = some k := by
  unfold ixN
  simp
  omega
@[simp] theorem deq_ii {i j : Int} : deq (.int i) (.int j) = (i == j) := rfl
@[simp] theorem okEq_ii {i j : Int} : okEq (.int i) (.int j) = true := rfl
@[simp] theorem wEq_run {w' : Wv} : wEq w w' = if okEq (fz w) (fz w') = true then some (.val (.bl (deq (fz w) (fz w')))) else none := rfl
@[simp] theorem wNe_run {w' : Wv} : wNe w w' = if okEq (fz w) (fz w') = true then some (.val (.bl (!deq (fz w) (fz w')))) else none := rfl
@[simp] theorem wLt_run {i j : Int} : wLt (.val (.int i)) (.val (.int j)) = some (.val (.bl (decide (i < j)))) := rfl
@[simp] theorem wLe_run {i j : Int} : wLe (.val (.int i)) (.val (.int j)) = some (.val (.bl (decide (i ≤ j)))) := rfl
@[simp] theorem wGt_run {i j : Int} : wGt (.val (.int i)) (.val (.int j)) = some (.val (.bl (decide (j < i)))) := rfl
@[simp] theorem wGe_run {i j : Int} : wGe (.val (.int i)) (.val (.int j)) = some (.val (.bl (decide (j ≤ i)))) := rfl
@[simp] theorem wSub_run {i j : Int} : wSub (.val (.int i)) (.val (.int j)) = some (.val (.int (i - j))) := rfl
@[simp] theorem wMod_run {i j : Int} : wMod (.val (.int i)) (.val (.int j)) = (if 0 < j then some (.val (.int (i % j))) else none) := by
  show Option.map Wv.val (if 0 < j then some (D.int (i % j)) else none) = _
  split <;> rfl
@[simp] theorem wFdiv_run {i j : Int} : wFdiv (.val (.int i)) (.val (.int j)) = (if (decide (0 < j) && decide (j.natAbs < 2 ^ 8000)) = true then some (.val (.int (i / j))) else none) := by
  show Option.map Wv.val (if (decide (0 < j) && decide (j.natAbs < 2 ^ 8000)) = true then some (D.int (i / j)) else none) = _
  split <;> rfl
end
end Mi
end
section
set_option Elab.async false
set_option linter.all false
set_option maxRecDepth 100000
set_option maxHeartbeats 4000000
set_option exponentiation.threshold 10000
namespace Mi
open PySem PySem.Spec L2
section
variable {E : En} {f g c : Ev} {d : D} {i : Nat} {w : Wv} {r : List D} {os : List Opd} {ws ws' : List Wv}
@[simp] theorem eCall_run {np : Nat} {F : Fn} : eCall np F os E = (evs os E).bind fun r => if (decide ((ownIx os r.1).Nodup) && decide (r.1.length = np)) = true then (F r.1).map fun p => (p.1, backW os r.1 p.2 r.2) else none := rfl
@[simp] theorem ownIx_nil : ownIx [] ws = [] := by cases ws <;> rfl
@[simp] theorem ownIx_pkv : ownIx (.pk i :: os) (.val d :: ws) = ownIx os ws := rfl
@[simp] theorem ownIx_pko : ownIx (.pk i :: os) (.own r :: ws) = i :: ownIx os ws := rfl
@[simp] theorem ownIx_ex : ownIx (.ex f :: os) (w :: ws) = ownIx os ws := rfl
@[simp] theorem backW_nil : backW [] ws ws' E = E := by cases ws <;> cases ws' <;> rfl
@[simp] theorem backW_pkv {w' : Wv} : backW (.pk i :: os) (.val d :: ws) (w' :: ws') E = backW os ws ws' E := rfl
@[simp] theorem backW_pko {w' : Wv} : backW (.pk i :: os) (.own r :: ws) (w' :: ws') E = backW os ws ws' (E.set i (some w')) := rfl
@[simp] theorem backW_ex {w' : Wv} : backW (.ex f :: os) (w :: ws) (w' :: ws') E = backW os ws ws' E := rfl
@[simp] theorem wTup_nil : wTup [] = some (.val (.tup [])) := rfl
@[simp] theorem mapM_valD_nil : List.mapM valD [] = some [] := rfl
@[simp] theorem mapM_valD_cons : List.mapM valD (.val d :: ws) = (List.mapM valD ws).map fun ds => d :: ds := by
  rw [List.mapM_cons]
  show (do let r ← some d; let rs ← List.mapM valD ws; pure (r :: rs)) = _
  cases List.mapM valD ws <;> rfl
@[simp] theorem valD_val : valD (.val d) = some d := rfl
@[simp] theorem wTup_run : wTup ws = (ws.mapM valD).bind fun ds => if ds.length ≤ sizeLine then some (.val (.tup ds)) else none := rfl
@[simp] theorem wLst_run : wLst ws = (ws.mapM valD).bind fun ds => if ds.length ≤ sizeLine then some (.own ds) else none := rfl
theorem size_big {n : Nat} (h : n ≤ 1000) : n ≤ sizeLine := Nat.le_trans h (by decide)
@[simp] theorem sz0 : (0 : Nat) ≤ sizeLine := Nat.zero_le _
@[simp] theorem sz1 : (1 : Nat) ≤ sizeLine := size_big (by decide)
@[simp] theorem sz2 : (2 : Nat) ≤ sizeLine := size_big (by decide)
@[simp] theorem sz3 : (3 : Nat) ≤ sizeLine := size_big (by decide)
@[simp] theorem sz4 : (4 : Nat) ≤ sizeLine := size_big (by decide)
@[simp] theorem sz5 : (5 : Nat) ≤ sizeLine := size_big (by decide)
@[simp] theorem sz6 : (6 : Nat) ≤ sizeLine := size_big (by decide)
@[simp] theorem sz7 : (7 : Nat) ≤ sizeLine := size_big (by decide)
@[simp] theorem sz8 : (8 : Nat) ≤ sizeLine := size_big (by decide)
@[simp] theorem sz9 : (9 : Nat) ≤ sizeLine := size_big (by decide)
@[simp] theorem sz10 : (10 : Nat) ≤ sizeLine := size_big (by decide)
@[simp] theorem sz11 : (11 : Nat) ≤ sizeLine := size_big (by decide)
@[simp] theorem sz12 : (12 : Nat) ≤ sizeLine := size_big (by decide)
@[simp] theorem eTrue_run : eTrue E = some (.val (.bl true), E) := rfl
@[simp] theorem tNm_run {n : Nat} : tNm n i d E = if canSet n E i = true then some (E.set i (some (.val d))) else none := rfl
@[simp] theorem tTp_run {ts : List Tf} {ds : List D} : tTp ts (.tup ds) E = tMs ts ds E := rfl
@[simp] theorem tMs_nil : tMs [] [] E = some E := rfl
@[simp] theorem tMs_cons {t : Tf} {ts : List Tf} {ds : List D} : tMs (t :: ts) (d :: ds) E = (t d E).bind fun E1 => tMs ts ds E1 := rfl
@[simp] theorem xUnp_run {t : Tf} : xUnp t f E = (f E).bind fun r => (t (fz r.1) r.2).map fun E' => (.nx, E') := rfl
@[simp] theorem xDrop_run : xDrop f E = (f E).map fun r => (.nx, r.2) := rfl
@[simp] theorem xApp_run : xApp i f E = (ownAt E i).bind fun _ => (f E).bind fun r => (ownAt r.2 i).bind fun ds => if ds.length < sizeLine then some (.nx, r.2.set i (some (.own (ds ++ [fz r.1])))) else none := rfl
@[simp] theorem xFor_run {s : Sr} {t : Tf} {b : Ex} : xFor s t b E = (s E).bind fun r => forD t b r.1 r.2 := rfl
@[simp] theorem forD_nil {t : Tf} {b : Ex} : forD t b [] E = some (.nx, E) := rfl
theorem forD_cons {t : Tf} {b : Ex} {ds : List D} : forD t b (d :: ds) E = (t d E).bind fun E1 => (b E1).bind fun r => match r.1 with
    | .nx => forD t b ds r.2
    | .ret w => some (.ret w, r.2) := rfl
@[simp] theorem sAny_run : sAny f E = (f E).bind fun r => match fz r.1 with | .lst ds => some (ds, r.2) | .tup ds => some (ds, r.2) | _ => none := rfl
@[simp] theorem sRng_run : sRng os E = (evs os E).bind fun r => match r.1 with
  | [.val (.int j)] => if (decide (-(2 ^ 62) ≤ j) && decide (j < 2 ^ 62)) = true then some (rngD 0 j.toNat, r.2) else none
  | [.val (.int i), .val (.int j)] => if (decide (-(2 ^ 62) ≤ i) && decide (i < 2 ^ 62) && decide (-(2 ^ 62) ≤ j) && decide (j < 2 ^ 62)) = true then some (rngD i (j - i).toNat, r.2) else none
  | _ => none := rfl
@[simp] theorem sEnu_run {o : Opd} : sEnu o E = (evs [o] E).bind fun r => match r.1 with | [.val (.tup ds)] => some (enuD 0 ds, r.2) | _ => none := rfl
@[simp] theorem eComp_run {cap : List Nat} {m : Nat} {s : Sr} {t : Tf} : eComp cap m s t c f E = (s E).bind fun r => (evs (cap.map .pk) r.2).bind fun p =>
  if (ownIx (cap.map .pk) p.1).Nodup then (compD t c f r.1 [] (p.1.map some ++ List.replicate m none)).map fun q => (.own q.1, backW (cap.map .pk) p.1 (afterW p.1 q.2) r.2) else none := rfl
@[simp] theorem wLen_own : wLen (.own r) = some (.val (.int r.length)) := rfl
@[simp] theorem wLen_lst : wLen (.val (.lst r)) = some (.val (.int r.length)) := rfl
@[simp] theorem wLen_tup : wLen (.val (.tup r)) = some (.val (.int r.length)) := rfl
@[simp] theorem wLen_scr {ns : List Int} : wLen (.val (.scr ns)) = some (.val (.int ns.length)) := by
  show some (Wv.val (D.int ((ns.map D.int).length : Nat))) = _
  rw [List.length_map]
@[simp] theorem wTuple_run : wTuple w = (asS w).map fun ds => .val (.tup ds) := rfl
@[simp] theorem wList_run : wList w = (asS w).map fun ds => .own ds := rfl
@[simp] theorem wInt_i {j : Int} : wInt (.val (.int j)) = some (.val (.int j)) := rfl
@[simp] theorem wInt_b {b : Bool} : wInt (.val (.bl b)) = some (.val (.int (if b then 1 else 0))) := rfl
@[simp] theorem wMax_run {i j : Int} : wMax (.val (.int i)) (.val (.int j)) = some (.val (.int (if j > i then j else i))) := rfl
@[simp] theorem wMin_run {i j : Int} : wMin (.val (.int i)) (.val (.int j)) = some (.val (.int (if j < i then j else i))) := rfl
@[simp] theorem wIsi_run {T : String} : wIsi w (.val (.ty T)) = if isiOk T = true then (kdW w).map fun k => .val (.bl (k.isA T)) else none := rfl
@[simp] theorem isi_int : isiOk "int" = true := by decide
@[simp] theorem isi_bool : isiOk "bool" = true := by decide
@[simp] theorem isi_tuple : isiOk "tuple" = true := by decide
@[simp] theorem isi_str : isiOk "str" = true := by decide
@[simp] theorem isi_list : isiOk "list" = true := by decide
@[simp] theorem wAll_own : wAll (.own r) = (bls r).map fun bs => .val (.bl (bs.all id)) := rfl
@[simp] theorem wAll_lst : wAll (.val (.lst r)) = (bls r).map fun bs => .val (.bl (bs.all id)) := rfl
theorem bls_map {α : Type} (p : α → Bool) : ∀ xs : List α, bls (xs.map fun x => .bl (p x)) = some (xs.map p)
  | [] => rfl
  | x :: xs => by
    have ih := bls_map p xs
    unfold bls at ih ⊢
    rw [List.map_cons, List.mapM_cons, ih]
    rfl
end
/-! ### comprehensions: one name of the block's own, behind those that it uses -/
theorem set_last {C : En} {o o' : Option Wv} : (C ++ [o]).set C.length o' = C ++ [o'] := by simp
theorem canSet_last {C : En} {o : Option Wv} {n : Nat} (h : n ≤ C.length) : canSet n (C ++ [o]) C.length = true := by
  unfold canSet
  rw [Bool.and_eq_true, Bool.or_eq_true]
  exact ⟨decide_eq_true (by simp), .inl (decide_eq_true h)⟩
/-- what goes on in a comprehension: I of the names used, R of what is made -/
theorem comp_inv {I : En → Prop} {R : D → D → Prop} {n : Nat} {f : Ev} : ∀ {ds acc : List D} {C : En} {o : Option Wv}, C.length = n → I C → acc.length + ds.length ≤ sizeLine →
    (∀ C d, d ∈ ds → C.length = n → I C → ∃ w C', f (C ++ [some (.val d)]) = some (w, C' ++ [some (.val d)]) ∧ C'.length = n ∧ I C' ∧ R d (fz w)) →
    ∃ ys C' o', compD (tNm n n) eTrue f ds acc (C ++ [o]) = some (acc ++ ys, C' ++ [o']) ∧ C'.length = n ∧ I C' ∧ ys.length = ds.length ∧ Paired R ds ys
  | [], acc, C, o, hl, hI, hz, h => ⟨[], C, o, by simp [compD], hl, hI, rfl, .nil⟩
  | d :: ds, acc, C, o, hl, hI, hz, h => by
    obtain ⟨w, C1, e1, l1, I1, r1⟩ := h C d List.mem_cons_self hl hI
    obtain ⟨ys, C2, o2, e2, l2, I2, y2, r2⟩ := comp_inv (ds := ds) (acc := acc ++ [fz w]) (C := C1) (o := some (.val d)) l1 I1 (by simp at hz ⊢; omega) fun C d' hd => h C d' (List.mem_cons_of_mem _ hd)
    refine ⟨fz w :: ys, C2, o2, ?_, l2, I2, by simp [y2], .cons r1 r2⟩
    have hz' : acc.length < sizeLine := by simp at hz; omega
    unfold compD
    rw [if_pos hz']
    subst hl
    simp only [tNm, canSet_last (Nat.le_refl _), if_true, set_last, Option.bind_some, eTrue_run, e1]
    rw [e2]
    simp
end Mi
end
section
set_option Elab.async false
set_option linter.all false
set_option maxRecDepth 100000
set_option maxHeartbeats 4000000
namespace Mi
open PySem PySem.Spec L2
open PyProof.Rows (boot_isinstance boot_int boot_bool boot_tuple boot_str boot_list boot_abs boot_all boot_any boot_sum boot_max boot_min boot_range boot_enumerate boot_zip boot_sorted boot_set boot_divmod)
def top (i : Nat) : Stmt := PySem.Challenge.pw_sharetrail_k02_loads_and_deeds.main.body.getD i (.Pass ⟨0, 0, 0, 0⟩)
abbrev s_p_is_whole : Stmt := top 3
abbrev s_p_is_from : Stmt := top 4
abbrev s_p_is_within : Stmt := top 5
abbrev s_p_greatest_divisor : Stmt := top 6
abbrev s_p_is_amount : Stmt := top 7
abbrev s_p_lowest : Stmt := top 8
abbrev s_p_plus : Stmt := top 9
abbrev s_p_total : Stmt := top 10
abbrev s_p_is_tuple_of : Stmt := top 14
abbrev s_p_is_share : Stmt := top 15
abbrev s_p_are_owners : Stmt := top 16
abbrev s_p_is_partner : Stmt := top 17
abbrev s_p_is_kind : Stmt := top 18
abbrev s_p_is_load_number : Stmt := top 19
abbrev s_p_is_trade_number : Stmt := top 20
abbrev s_p_are_pieces : Stmt := top 21
abbrev s_p_are_values : Stmt := top 22
abbrev s_p_are_worths : Stmt := top 23
abbrev s_p_is_sold_share : Stmt := top 24
abbrev s_p_is_part : Stmt := top 26
abbrev s_p_is_load : Stmt := top 27
abbrev s_p_is_deed : Stmt := top 28
abbrev s_law_cell_at : Stmt := top 30
abbrev s_law_pen : Stmt := top 31
abbrev s_law_draw : Stmt := top 32
abbrev s_law_common : Stmt := top 33
abbrev s_law_made : Stmt := top 34
abbrev s_law_plus : Stmt := top 35
abbrev s_law_sum : Stmt := top 38
abbrev s_law_whole : Stmt := top 39
abbrev s_law_pieces : Stmt := top 40
abbrev s_law_train : Stmt := top 41
abbrev s_law_share : Stmt := top 43
abbrev s_law_worths : Stmt := top 44
abbrev s_law_thing : Stmt := top 45
abbrev s_law_spoilt : Stmt := top 46
abbrev s_law_in : Stmt := top 47
abbrev s_law_is_amount : Stmt := top 48
abbrev s_law_is_share : Stmt := top 49
abbrev s_law_are_shares : Stmt := top 50
abbrev s_law_is_load : Stmt := top 52
abbrev s_law_are_worths : Stmt := top 53
abbrev s_law_is_sale : Stmt := top 54
abbrev s_law_is_deed : Stmt := top 55
abbrev s_law_deeds : Stmt := top 56
abbrev s_law_bounds : Stmt := top 57
abbrev s_p_law : Stmt := top 58
/-- names of Python's own that the text uses -/
structure Bts (mg : Str → Option Value) : Prop where
  abs : mg "abs" = none
  all : mg "all" = none
  bool : mg "bool" = none
  enumerate : mg "enumerate" = none
  int : mg "int" = none
  isi : mg "isinstance" = none
  len : mg "len" = none
  list : mg "list" = none
  max : mg "max" = none
  min : mg "min" = none
  range : mg "range" = none
  str : mg "str" = none
  sum : mg "sum" = none
  tuple : mg "tuple" = none
def k_NOTHING : D := .tup [.int 0, .int 1]
def k_ALL : D := .tup [.int 1, .int 1]
def k_FORMS : List (Str × D) := [("bring", .tup [.str "partner", .str "kind", .str "pieces"]), ("pool", .tup [.str "load", .str "load"]), ("swap", .tup [.str "load", .str "pieces", .str "kind", .str "pieces"]), ("trade", .tup [.str "number", .str "load", .str "pieces", .str "kind", .str "pieces"]), ("spoil", .tup [.str "load", .str "pieces"]), ("throw", .tup [.str "load", .str "pieces", .str "worths"]), ("sell", .tup [.str "partner", .str "partner", .str "share"])]
def k_UNLIKE : D := .tup [.str "pool", .str "sell"]
end Mi
end
section
set_option Elab.async false
set_option linter.all false
set_option maxRecDepth 100000
set_option maxHeartbeats 4000000
namespace Mi
open PySem PySem.Spec L2
open PyProof.Rows (boot_isinstance boot_int boot_bool boot_tuple boot_str boot_list boot_abs boot_all boot_any boot_sum boot_max boot_min boot_range boot_enumerate boot_zip boot_sorted boot_set boot_divmod)
/-! ### is_whole -/
def b_p_is_whole : Ex := (xRet (eAnd (eOp (o2 wIsi) [(.pk 0), (.ex (eC (.ty "int")))]) (eNot (eOp (o2 wIsi) [(.pk 0), (.ex (eC (.ty "bool")))]))))
def F_p_is_whole : Fn := runFn 1 b_p_is_whole
theorem sc_p_is_whole : FnScope ["thing"] ["thing"] (defScope s_p_is_whole) := ⟨rfl, rfl, rfl, by decide +kernel, rfl, by decide +kernel, by decide +kernel⟩
theorem d_p_is_whole {P : Program} {w : World} {K : PySem.W.Frag} {mg : Str → Option Value} {base : Heap} (S : St.Src K mg "is_whole" s_p_is_whole) (B : Bts mg) : St.Dfn P w K mg base "is_whole" 1 ["thing"] (spD K 1 F_p_is_whole) := by
  refine dfn_ok (k := 0) S sc_p_is_whole rfl (fun f fd F => F.binds fun _ _ _ _ _ _ us hl => match us, hl with | [_], _ => rfl) fun f cdv A outer s H E hr => ?_
  have hu := hu_room hr
  exact (dss_one (ds_ret (de_and (de_callB call_isiD rfl B.isi boot_isinstance (dos_cons (do_pk 0) (dos_cons (DE.opd (de_ty rfl B.int boot_int)) dos_nil))) (de_one (de_not (de_callB call_isiD rfl B.isi boot_isinstance (dos_cons (do_pk 0) (dos_cons (DE.opd (de_ty rfl B.bool boot_bool)) dos_nil))))))))
/-! ### is_from -/
def b_p_is_from : Ex := (xRet (eAnd (eCall 1 F_p_is_whole [(.pk 0)]) (eOp (o2 wGe) [(.pk 0), (.pk 1)])))
def F_p_is_from : Fn := runFn 2 b_p_is_from
theorem sc_p_is_from : FnScope ["thing", "low"] ["thing", "low"] (defScope s_p_is_from) := ⟨rfl, rfl, rfl, by decide +kernel, rfl, by decide +kernel, by decide +kernel⟩
theorem d_p_is_from {P : Program} {w : World} {K : PySem.W.Frag} {mg : Str → Option Value} {base : Heap} (S : St.Src K mg "is_from" s_p_is_from) (d_p_is_whole : St.Dfn P w K mg base "is_whole" 1 ["thing"] (spD K 1 F_p_is_whole)) : St.Dfn P w K mg base "is_from" 2 ["thing", "low"] (spD K 2 F_p_is_from) := by
  refine dfn_ok (k := 1) S sc_p_is_from rfl (fun f fd F => F.binds fun _ _ _ _ _ _ us hl => match us, hl with | [_, _], _ => rfl) fun f cdv A outer s H E hr => ?_
  have hu := hu_room hr
  exact (dss_one (ds_ret (de_and (de_call d_p_is_whole (hr.mono (by decide)) rfl (dos_cons (do_pk 0) dos_nil)) (de_one (de_cmp op_geD (do_pk 0) (do_pk 1))))))
/-! ### is_within -/
def b_p_is_within : Ex := (xRet (eAnd (eCall 2 F_p_is_from [(.pk 0), (.pk 1)]) (eOp (o2 wLe) [(.pk 0), (.pk 2)])))
def F_p_is_within : Fn := runFn 3 b_p_is_within
theorem sc_p_is_within : FnScope ["thing", "low", "high"] ["thing", "low", "high"] (defScope s_p_is_within) := ⟨rfl, rfl, rfl, by decide +kernel, rfl, by decide +kernel, by decide +kernel⟩
theorem d_p_is_within {P : Program} {w : World} {K : PySem.W.Frag} {mg : Str → Option Value} {base : Heap} (S : St.Src K mg "is_within" s_p_is_within) (d_p_is_from : St.Dfn P w K mg base "is_from" 2 ["thing", "low"] (spD K 2 F_p_is_from)) : St.Dfn P w K mg base "is_within" 3 ["thing", "low", "high"] (spD K 3 F_p_is_within) := by
  refine dfn_ok (k := 2) S sc_p_is_within rfl (fun f fd F => F.binds fun _ _ _ _ _ _ us hl => match us, hl with | [_, _, _], _ => rfl) fun f cdv A outer s H E hr => ?_
  have hu := hu_room hr
  exact (dss_one (ds_ret (de_and (de_call d_p_is_from (hr.mono (by decide)) rfl (dos_cons (do_pk 0) (dos_cons (do_pk 1) dos_nil))) (de_one (de_cmp op_leD (do_pk 0) (do_pk 2))))))
/-! ### greatest_divisor -/
def b_p_greatest_divisor : Ex := (xSeq (xPar 2 0 1 (eOp (o1 wAbs) [(.pk 0)]) (eOp (o1 wAbs) [(.pk 1)]))
    (xSeq (xWhile (fuelI 1) (eOp (o2 wNe) [(.pk 1), (.ex (eC (.int 0)))]) (xPar 2 0 1 (eV 1) (eOp (o2 wMod) [(.pk 0), (.pk 1)])))
    (xRetV 2 0)))
def F_p_greatest_divisor : Fn := runFn 2 b_p_greatest_divisor
theorem sc_p_greatest_divisor : FnScope ["one", "other"] ["one", "other"] (defScope s_p_greatest_divisor) := ⟨rfl, rfl, rfl, by decide +kernel, rfl, by decide +kernel, by decide +kernel⟩
theorem d_p_greatest_divisor {P : Program} {w : World} {K : PySem.W.Frag} {mg : Str → Option Value} {base : Heap} (S : St.Src K mg "greatest_divisor" s_p_greatest_divisor) (B : Bts mg) : St.Dfn P w K mg base "greatest_divisor" 1 ["one", "other"] (spD K 2 F_p_greatest_divisor) := by
  refine dfn_ok (k := 0) S sc_p_greatest_divisor rfl (fun f fd F => F.binds fun _ _ _ _ _ _ us hl => match us, hl with | [_, _], _ => rfl) fun f cdv A outer s H E hr => ?_
  have hu := hu_room hr
  exact (dss_cons (ds_par (i := 0) (j := 1) rfl sc_p_greatest_divisor.nd rfl rfl (by decide) rfl rfl (de_callB call_absD rfl B.abs boot_abs (dos_cons (do_pk 0) dos_nil)) (de_callB call_absD rfl B.abs boot_abs (dos_cons (do_pk 1) dos_nil)))
        (dss_cons (ds_while (fuelI 1) PassesOwn.never (dt_cmp (op_neD hu) (do_pk 1) (DE.opd de_int)) (dss_one (ds_par (i := 0) (j := 1) rfl sc_p_greatest_divisor.nd rfl rfl (by decide) rfl rfl (de_var 1) (de_op op_modD (do_pk 0) (do_pk 1)))))
        (dss_one (ds_retV 0))))
/-! ### is_amount -/
def b_p_is_amount : Ex := (xSeq (xIf (eOr (eNot (eOp (o2 wIsi) [(.pk 0), (.ex (eC (.ty "tuple")))])) (eOp (o2 wNe) [(.ex (eOp (o1 wLen) [(.pk 0)])), (.ex (eC (.int 2)))])) (xRet (eC (.bl false))) xNil)
    (xSeq (xUnp (tTp [(tNm 1 1), (tNm 1 2)]) (eV 0))
    (xRet (eAnd (eCall 1 F_p_is_whole [(.pk 1)]) (eAnd (eCall 2 F_p_is_from [(.pk 2), (.ex (eC (.int 1)))]) (eOp (o2 wEq) [(.ex (eCall 2 F_p_greatest_divisor [(.pk 1), (.pk 2)])), (.ex (eC (.int 1)))]))))))
def F_p_is_amount : Fn := runFn 3 b_p_is_amount
theorem sc_p_is_amount : FnScope ["thing", "top", "bottom"] ["thing"] (defScope s_p_is_amount) := ⟨rfl, rfl, rfl, by decide +kernel, rfl, by decide +kernel, by decide +kernel⟩
theorem d_p_is_amount {P : Program} {w : World} {K : PySem.W.Frag} {mg : Str → Option Value} {base : Heap} (S : St.Src K mg "is_amount" s_p_is_amount) (B : Bts mg) (d_p_is_whole : St.Dfn P w K mg base "is_whole" 1 ["thing"] (spD K 1 F_p_is_whole)) (d_p_is_from : St.Dfn P w K mg base "is_from" 2 ["thing", "low"] (spD K 2 F_p_is_from)) (d_p_greatest_divisor : St.Dfn P w K mg base "greatest_divisor" 1 ["one", "other"] (spD K 2 F_p_greatest_divisor)) : St.Dfn P w K mg base "is_amount" 3 ["thing"] (spD K 1 F_p_is_amount) := by
  refine dfn_ok (k := 2) S sc_p_is_amount rfl (fun f fd F => F.binds fun _ _ _ _ _ _ us hl => match us, hl with | [_], _ => rfl) fun f cdv A outer s H E hr => ?_
  have hu := hu_room hr
  exact (dss_cons (ds_if (DW.dt (dw_or (dt_not (dt_val (de_callB call_isiD rfl B.isi boot_isinstance (dos_cons (do_pk 0) (dos_cons (DE.opd (de_ty rfl B.tuple boot_tuple)) dos_nil))))) (dw_or1 (dt_cmp (op_neD hu) (DE.opd (de_callB call_lenD rfl B.len boot_len (dos_cons (do_pk 0) dos_nil))) (DE.opd de_int))))) (dss_one (ds_ret de_bl)) dss_nil)
        (dss_cons (ds_unp (de_var 0) (dg_tp rfl (dgs_cons (dg_nm 1 sc_p_is_amount.nd) (dgs_cons (dg_nm 2 sc_p_is_amount.nd) dgs_nil))))
        (dss_one (ds_ret (de_and (de_call d_p_is_whole (hr.mono (by decide)) rfl (dos_cons (do_pk 1) dos_nil)) (de_and (de_call d_p_is_from (hr.mono (by decide)) rfl (dos_cons (do_pk 2) (dos_cons (DE.opd de_int) dos_nil))) (de_one (de_cmp (op_eqD hu) (DE.opd (de_call d_p_greatest_divisor (hr.mono (by decide)) rfl (dos_cons (do_pk 1) (dos_cons (do_pk 2) dos_nil)))) (DE.opd de_int)))))))))
/-! ### lowest -/
def b_p_lowest : Ex := (xSeq (xAsg 2 2 (eCall 2 F_p_greatest_divisor [(.pk 0), (.pk 1)]))
    (xRet (eOp wTup [(.ex (eOp (o2 wFdiv) [(.pk 0), (.pk 2)])), (.ex (eOp (o2 wFdiv) [(.pk 1), (.pk 2)]))])))
def F_p_lowest : Fn := runFn 3 b_p_lowest
theorem sc_p_lowest : FnScope ["top", "bottom", "divisor"] ["top", "bottom"] (defScope s_p_lowest) := ⟨rfl, rfl, rfl, by decide +kernel, rfl, by decide +kernel, by decide +kernel⟩
theorem d_p_lowest {P : Program} {w : World} {K : PySem.W.Frag} {mg : Str → Option Value} {base : Heap} (S : St.Src K mg "lowest" s_p_lowest) (d_p_greatest_divisor : St.Dfn P w K mg base "greatest_divisor" 1 ["one", "other"] (spD K 2 F_p_greatest_divisor)) : St.Dfn P w K mg base "lowest" 2 ["top", "bottom"] (spD K 2 F_p_lowest) := by
  refine dfn_ok (k := 1) S sc_p_lowest rfl (fun f fd F => F.binds fun _ _ _ _ _ _ us hl => match us, hl with | [_, _], _ => rfl) fun f cdv A outer s H E hr => ?_
  have hu := hu_room hr
  exact (dss_cons (ds_set 2 (de_call d_p_greatest_divisor (hr.mono (by decide)) rfl (dos_cons (do_pk 0) (dos_cons (do_pk 1) dos_nil))) sc_p_lowest.nd)
        (dss_one (ds_ret (de_tup (dos_cons (DE.opd (de_op op_fdivD (do_pk 0) (do_pk 2))) (dos_cons (DE.opd (de_op op_fdivD (do_pk 1) (do_pk 2))) dos_nil))))))
/-! ### plus -/
def b_p_plus : Ex := (xRet (eCall 2 F_p_lowest [(.ex (eOp (o2 wAdd) [(.ex (eOp (o2 wMul) [(.ex (eOp (o2 wIx) [(.pk 0), (.ex (eC (.int 0)))])), (.ex (eOp (o2 wIx) [(.pk 1), (.ex (eC (.int 1)))]))])), (.ex (eOp (o2 wMul) [(.ex (eOp (o2 wIx) [(.pk 1), (.ex (eC (.int 0)))])), (.ex (eOp (o2 wIx) [(.pk 0), (.ex (eC (.int 1)))]))]))])), (.ex (eOp (o2 wMul) [(.ex (eOp (o2 wIx) [(.pk 0), (.ex (eC (.int 1)))])), (.ex (eOp (o2 wIx) [(.pk 1), (.ex (eC (.int 1)))]))]))]))
def F_p_plus : Fn := runFn 2 b_p_plus
theorem sc_p_plus : FnScope ["one", "other"] ["one", "other"] (defScope s_p_plus) := ⟨rfl, rfl, rfl, by decide +kernel, rfl, by decide +kernel, by decide +kernel⟩
theorem d_p_plus {P : Program} {w : World} {K : PySem.W.Frag} {mg : Str → Option Value} {base : Heap} (S : St.Src K mg "plus" s_p_plus) (d_p_lowest : St.Dfn P w K mg base "lowest" 2 ["top", "bottom"] (spD K 2 F_p_lowest)) : St.Dfn P w K mg base "plus" 3 ["one", "other"] (spD K 2 F_p_plus) := by
  refine dfn_ok (k := 2) S sc_p_plus rfl (fun f fd F => F.binds fun _ _ _ _ _ _ us hl => match us, hl with | [_, _], _ => rfl) fun f cdv A outer s H E hr => ?_
  have hu := hu_room hr
  exact (dss_one (ds_ret (de_call d_p_lowest (hr.mono (by decide)) rfl (dos_cons (DE.opd (de_op op_addD (DE.opd (de_op op_mulD (DE.opd (de_ix ix_D (do_pk 0) (DE.opd de_int))) (DE.opd (de_ix ix_D (do_pk 1) (DE.opd de_int))))) (DE.opd (de_op op_mulD (DE.opd (de_ix ix_D (do_pk 1) (DE.opd de_int))) (DE.opd (de_ix ix_D (do_pk 0) (DE.opd de_int))))))) (dos_cons (DE.opd (de_op op_mulD (DE.opd (de_ix ix_D (do_pk 0) (DE.opd de_int))) (DE.opd (de_ix ix_D (do_pk 1) (DE.opd de_int))))) dos_nil)))))
/-! ### total -/
def b_p_total : Ex := (xSeq (xAsg 1 1 (eC k_NOTHING))
    (xSeq (xFor (sAny (eV 0)) (tNm 1 2) (xAsg 1 1 (eCall 2 F_p_plus [(.pk 1), (.pk 2)])))
    (xRetV 1 1)))
def F_p_total : Fn := runFn 3 b_p_total
theorem sc_p_total : FnScope ["amounts", "together", "amount"] ["amounts"] (defScope s_p_total) := ⟨rfl, rfl, rfl, by decide +kernel, rfl, by decide +kernel, by decide +kernel⟩
theorem d_p_total {P : Program} {w : World} {K : PySem.W.Frag} {mg : Str → Option Value} {base : Heap} (S : St.Src K mg "total" s_p_total) (c_NOTHING : CstD K mg "NOTHING" k_NOTHING) (d_p_plus : St.Dfn P w K mg base "plus" 3 ["one", "other"] (spD K 2 F_p_plus)) : St.Dfn P w K mg base "total" 4 ["amounts"] (spD K 1 F_p_total) := by
  refine dfn_ok (k := 3) S sc_p_total rfl (fun f fd F => F.binds fun _ _ _ _ _ _ us hl => match us, hl with | [_], _ => rfl) fun f cdv A outer s H E hr => ?_
  have hu := hu_room hr
  exact (dss_cons (ds_set 1 (de_glob c_NOTHING rfl) sc_p_total.nd)
        (dss_cons (ds_for PassesOwn.never rfl (di_any (de_var 0)) (dg_nm 2 sc_p_total.nd) (dss_one (ds_set 1 (de_call d_p_plus (hr.mono (by decide)) rfl (dos_cons (do_pk 1) (dos_cons (do_pk 2) dos_nil))) sc_p_total.nd)))
        (dss_one (ds_retV 1))))
end Mi
end
section
set_option Elab.async false
set_option linter.all false
set_option maxRecDepth 100000
set_option maxHeartbeats 4000000
namespace Mi
open PySem PySem.Spec L2
open PyProof.Rows (boot_isinstance boot_int boot_bool boot_tuple boot_str boot_list boot_abs boot_all boot_any boot_sum boot_max boot_min boot_range boot_enumerate boot_zip boot_sorted boot_set boot_divmod)
/-! ### is_tuple_of -/
def b_p_is_tuple_of : Ex := (xRet (eAnd (eOp (o2 wIsi) [(.pk 0), (.ex (eC (.ty "tuple")))]) (eOp (o2 wEq) [(.ex (eOp (o1 wLen) [(.pk 0)])), (.pk 1)])))
def F_p_is_tuple_of : Fn := runFn 2 b_p_is_tuple_of
theorem sc_p_is_tuple_of : FnScope ["thing", "many"] ["thing", "many"] (defScope s_p_is_tuple_of) := ⟨rfl, rfl, rfl, by decide +kernel, rfl, by decide +kernel, by decide +kernel⟩
theorem d_p_is_tuple_of {P : Program} {w : World} {K : PySem.W.Frag} {mg : Str → Option Value} {base : Heap} (S : St.Src K mg "is_tuple_of" s_p_is_tuple_of) (B : Bts mg) : St.Dfn P w K mg base "is_tuple_of" 1 ["thing", "many"] (spD K 2 F_p_is_tuple_of) := by
  refine dfn_ok (k := 0) S sc_p_is_tuple_of rfl (fun f fd F => F.binds fun _ _ _ _ _ _ us hl => match us, hl with | [_, _], _ => rfl) fun f cdv A outer s H E hr => ?_
  have hu := hu_room hr
  exact (dss_one (ds_ret (de_and (de_callB call_isiD rfl B.isi boot_isinstance (dos_cons (do_pk 0) (dos_cons (DE.opd (de_ty rfl B.tuple boot_tuple)) dos_nil))) (de_one (de_cmp (op_eqD hu) (DE.opd (de_callB call_lenD rfl B.len boot_len (dos_cons (do_pk 0) dos_nil))) (do_pk 1))))))
/-! ### is_share -/
def b_p_is_share : Ex := (xRet (eAnd (eCall 1 F_p_is_amount [(.pk 0)]) (eLeLe (.ex (eC (.int 0))) (.ex (eOp (o2 wIx) [(.pk 0), (.ex (eC (.int 0)))])) (.ex (eOp (o2 wIx) [(.pk 0), (.ex (eC (.int 1)))])))))
def F_p_is_share : Fn := runFn 1 b_p_is_share
theorem sc_p_is_share : FnScope ["thing"] ["thing"] (defScope s_p_is_share) := ⟨rfl, rfl, rfl, by decide +kernel, rfl, by decide +kernel, by decide +kernel⟩
theorem d_p_is_share {P : Program} {w : World} {K : PySem.W.Frag} {mg : Str → Option Value} {base : Heap} (S : St.Src K mg "is_share" s_p_is_share) (d_p_is_amount : St.Dfn P w K mg base "is_amount" 3 ["thing"] (spD K 1 F_p_is_amount)) : St.Dfn P w K mg base "is_share" 4 ["thing"] (spD K 1 F_p_is_share) := by
  refine dfn_ok (k := 3) S sc_p_is_share rfl (fun f fd F => F.binds fun _ _ _ _ _ _ us hl => match us, hl with | [_], _ => rfl) fun f cdv A outer s H E hr => ?_
  have hu := hu_room hr
  exact (dss_one (ds_ret (de_and (de_call d_p_is_amount (hr.mono (by decide)) rfl (dos_cons (do_pk 0) dos_nil)) (de_one (de_lele (DE.opd de_int) (DE.opd (de_ix ix_D (do_pk 0) (DE.opd de_int))) (DE.opd (de_ix ix_D (do_pk 0) (DE.opd de_int))))))))
/-! ### are_owners -/
def b_p_are_owners : Ex := (xSeq (xIf (eNot (eCall 2 F_p_is_tuple_of [(.pk 1), (.pk 0)])) (xRet (eC (.bl false))) xNil)
    (xRet (eAnd (eOp (o1 wAll) [(.ex (eComp [] 1 (sAny (eV 1)) (tNm 0 0) eTrue (eCall 1 F_p_is_share [(.pk 0)])))]) (eOp (o2 wEq) [(.ex (eCall 1 F_p_total [(.pk 1)])), (.ex (eC k_ALL))]))))
def F_p_are_owners : Fn := runFn 2 b_p_are_owners
theorem sc_p_are_owners : FnScope ["partners", "thing"] ["partners", "thing"] (defScope s_p_are_owners) := ⟨rfl, rfl, rfl, by decide +kernel, rfl, by decide +kernel, by decide +kernel⟩
theorem cs_p_are_owners_0 : CompScope ["partners", "thing"] (defScope s_p_are_owners) ["share"] (ixC [] 1) (scOf s_p_are_owners 0) := ⟨rfl, by decide +kernel, by decide +kernel, by decide +kernel, by decide +kernel⟩
theorem nd_p_are_owners_0 : (["share"] : List Str).Nodup := by decide +kernel
theorem d_p_are_owners {P : Program} {w : World} {K : PySem.W.Frag} {mg : Str → Option Value} {base : Heap} (S : St.Src K mg "are_owners" s_p_are_owners) (B : Bts mg) (c_ALL : CstD K mg "ALL" k_ALL) (d_p_total : St.Dfn P w K mg base "total" 4 ["amounts"] (spD K 1 F_p_total)) (d_p_is_tuple_of : St.Dfn P w K mg base "is_tuple_of" 1 ["thing", "many"] (spD K 2 F_p_is_tuple_of)) (d_p_is_share : St.Dfn P w K mg base "is_share" 4 ["thing"] (spD K 1 F_p_is_share)) : St.Dfn P w K mg base "are_owners" 5 ["partners", "thing"] (spD K 2 F_p_are_owners) := by
  refine dfn_ok (k := 4) S sc_p_are_owners rfl (fun f fd F => F.binds fun _ _ _ _ _ _ us hl => match us, hl with | [_, _], _ => rfl) fun f cdv A outer s H E hr => ?_
  have hu := hu_room hr
  exact (dss_cons (ds_if (dt_not (dt_val (de_call d_p_is_tuple_of (hr.mono (by decide)) rfl (dos_cons (do_pk 1) (dos_cons (do_pk 0) dos_nil))))) (dss_one (ds_ret de_bl)) dss_nil)
        (dss_one (ds_ret (de_and (de_callB (call_allD rfl) rfl B.all boot_all (dos_cons (DE.opd (de_comp [] 1 ["share"] rfl cs_p_are_owners_0 (di_any (de_var 1)) (fun s H fp => ⟨(dg_nm 0 nd_p_are_owners_0), dts_nil, (de_call d_p_is_share (hr.mono (by decide)) rfl (dos_cons (do_pk 0) dos_nil))⟩))) dos_nil)) (de_one (de_cmp (op_eqD hu) (DE.opd (de_call d_p_total (hr.mono (by decide)) rfl (dos_cons (do_pk 1) dos_nil))) (DE.opd (de_glob c_ALL rfl))))))))
/-! ### is_partner -/
def b_p_is_partner : Ex := (xRet (eCall 3 F_p_is_within [(.pk 1), (.ex (eC (.int 0))), (.ex (eOp (o2 wSub) [(.ex (eOp (o2 wIx) [(.pk 0), (.ex (eC (.int 0)))])), (.ex (eC (.int 1)))]))]))
def F_p_is_partner : Fn := runFn 2 b_p_is_partner
theorem sc_p_is_partner : FnScope ["train", "thing"] ["train", "thing"] (defScope s_p_is_partner) := ⟨rfl, rfl, rfl, by decide +kernel, rfl, by decide +kernel, by decide +kernel⟩
theorem d_p_is_partner {P : Program} {w : World} {K : PySem.W.Frag} {mg : Str → Option Value} {base : Heap} (S : St.Src K mg "is_partner" s_p_is_partner) (d_p_is_within : St.Dfn P w K mg base "is_within" 3 ["thing", "low", "high"] (spD K 3 F_p_is_within)) : St.Dfn P w K mg base "is_partner" 4 ["train", "thing"] (spD K 2 F_p_is_partner) := by
  refine dfn_ok (k := 3) S sc_p_is_partner rfl (fun f fd F => F.binds fun _ _ _ _ _ _ us hl => match us, hl with | [_, _], _ => rfl) fun f cdv A outer s H E hr => ?_
  have hu := hu_room hr
  exact (dss_one (ds_ret (de_call d_p_is_within (hr.mono (by decide)) rfl (dos_cons (do_pk 1) (dos_cons (DE.opd de_int) (dos_cons (DE.opd (de_op op_subD (DE.opd (de_ix ix_D (do_pk 0) (DE.opd de_int))) (DE.opd de_int))) dos_nil))))))
/-! ### is_kind -/
def b_p_is_kind : Ex := (xRet (eCall 3 F_p_is_within [(.pk 1), (.ex (eC (.int 0))), (.ex (eOp (o2 wSub) [(.ex (eOp (o2 wIx) [(.pk 0), (.ex (eC (.int 1)))])), (.ex (eC (.int 1)))]))]))
def F_p_is_kind : Fn := runFn 2 b_p_is_kind
theorem sc_p_is_kind : FnScope ["train", "thing"] ["train", "thing"] (defScope s_p_is_kind) := ⟨rfl, rfl, rfl, by decide +kernel, rfl, by decide +kernel, by decide +kernel⟩
theorem d_p_is_kind {P : Program} {w : World} {K : PySem.W.Frag} {mg : Str → Option Value} {base : Heap} (S : St.Src K mg "is_kind" s_p_is_kind) (d_p_is_within : St.Dfn P w K mg base "is_within" 3 ["thing", "low", "high"] (spD K 3 F_p_is_within)) : St.Dfn P w K mg base "is_kind" 4 ["train", "thing"] (spD K 2 F_p_is_kind) := by
  refine dfn_ok (k := 3) S sc_p_is_kind rfl (fun f fd F => F.binds fun _ _ _ _ _ _ us hl => match us, hl with | [_, _], _ => rfl) fun f cdv A outer s H E hr => ?_
  have hu := hu_room hr
  exact (dss_one (ds_ret (de_call d_p_is_within (hr.mono (by decide)) rfl (dos_cons (do_pk 1) (dos_cons (DE.opd de_int) (dos_cons (DE.opd (de_op op_subD (DE.opd (de_ix ix_D (do_pk 0) (DE.opd de_int))) (DE.opd de_int))) dos_nil))))))
/-! ### is_load_number -/
def b_p_is_load_number : Ex := (xRet (eCall 2 F_p_is_from [(.pk 1), (.ex (eC (.int 0)))]))
def F_p_is_load_number : Fn := runFn 2 b_p_is_load_number
theorem sc_p_is_load_number : FnScope ["train", "thing"] ["train", "thing"] (defScope s_p_is_load_number) := ⟨rfl, rfl, rfl, by decide +kernel, rfl, by decide +kernel, by decide +kernel⟩
theorem d_p_is_load_number {P : Program} {w : World} {K : PySem.W.Frag} {mg : Str → Option Value} {base : Heap} (S : St.Src K mg "is_load_number" s_p_is_load_number) (d_p_is_from : St.Dfn P w K mg base "is_from" 2 ["thing", "low"] (spD K 2 F_p_is_from)) : St.Dfn P w K mg base "is_load_number" 3 ["train", "thing"] (spD K 2 F_p_is_load_number) := by
  refine dfn_ok (k := 2) S sc_p_is_load_number rfl (fun f fd F => F.binds fun _ _ _ _ _ _ us hl => match us, hl with | [_, _], _ => rfl) fun f cdv A outer s H E hr => ?_
  have hu := hu_room hr
  exact (dss_one (ds_ret (de_call d_p_is_from (hr.mono (by decide)) rfl (dos_cons (do_pk 1) (dos_cons (DE.opd de_int) dos_nil)))))
/-! ### is_trade_number -/
def b_p_is_trade_number : Ex := (xRet (eCall 3 F_p_is_within [(.pk 1), (.ex (eC (.int 0))), (.ex (eC (.int 9)))]))
def F_p_is_trade_number : Fn := runFn 2 b_p_is_trade_number
theorem sc_p_is_trade_number : FnScope ["train", "thing"] ["train", "thing"] (defScope s_p_is_trade_number) := ⟨rfl, rfl, rfl, by decide +kernel, rfl, by decide +kernel, by decide +kernel⟩
theorem d_p_is_trade_number {P : Program} {w : World} {K : PySem.W.Frag} {mg : Str → Option Value} {base : Heap} (S : St.Src K mg "is_trade_number" s_p_is_trade_number) (d_p_is_within : St.Dfn P w K mg base "is_within" 3 ["thing", "low", "high"] (spD K 3 F_p_is_within)) : St.Dfn P w K mg base "is_trade_number" 4 ["train", "thing"] (spD K 2 F_p_is_trade_number) := by
  refine dfn_ok (k := 3) S sc_p_is_trade_number rfl (fun f fd F => F.binds fun _ _ _ _ _ _ us hl => match us, hl with | [_, _], _ => rfl) fun f cdv A outer s H E hr => ?_
  have hu := hu_room hr
  exact (dss_one (ds_ret (de_call d_p_is_within (hr.mono (by decide)) rfl (dos_cons (do_pk 1) (dos_cons (DE.opd de_int) (dos_cons (DE.opd de_int) dos_nil))))))
/-! ### are_pieces -/
def b_p_are_pieces : Ex := (xRet (eCall 2 F_p_is_from [(.pk 1), (.ex (eC (.int 1)))]))
def F_p_are_pieces : Fn := runFn 2 b_p_are_pieces
theorem sc_p_are_pieces : FnScope ["train", "thing"] ["train", "thing"] (defScope s_p_are_pieces) := ⟨rfl, rfl, rfl, by decide +kernel, rfl, by decide +kernel, by decide +kernel⟩
theorem d_p_are_pieces {P : Program} {w : World} {K : PySem.W.Frag} {mg : Str → Option Value} {base : Heap} (S : St.Src K mg "are_pieces" s_p_are_pieces) (d_p_is_from : St.Dfn P w K mg base "is_from" 2 ["thing", "low"] (spD K 2 F_p_is_from)) : St.Dfn P w K mg base "are_pieces" 3 ["train", "thing"] (spD K 2 F_p_are_pieces) := by
  refine dfn_ok (k := 2) S sc_p_are_pieces rfl (fun f fd F => F.binds fun _ _ _ _ _ _ us hl => match us, hl with | [_, _], _ => rfl) fun f cdv A outer s H E hr => ?_
  have hu := hu_room hr
  exact (dss_one (ds_ret (de_call d_p_is_from (hr.mono (by decide)) rfl (dos_cons (do_pk 1) (dos_cons (DE.opd de_int) dos_nil)))))
end Mi
end
section
set_option Elab.async false
set_option linter.all false
set_option maxRecDepth 100000
set_option maxHeartbeats 4000000
namespace Mi
open PySem PySem.Spec L2
open PyProof.Rows (boot_isinstance boot_int boot_bool boot_tuple boot_str boot_list boot_abs boot_all boot_any boot_sum boot_max boot_min boot_range boot_enumerate boot_zip boot_sorted boot_set boot_divmod)
/-! ### are_values -/
def b_p_are_values : Ex := (xRet (eAnd (eCall 2 F_p_is_tuple_of [(.pk 0), (.pk 1)]) (eOp (o1 wAll) [(.ex (eComp [] 1 (sAny (eV 0)) (tNm 0 0) eTrue (eCall 3 F_p_is_within [(.pk 0), (.ex (eC (.int 1))), (.ex (eC (.int 99)))])))])))
def F_p_are_values : Fn := runFn 2 b_p_are_values
theorem sc_p_are_values : FnScope ["thing", "many"] ["thing", "many"] (defScope s_p_are_values) := ⟨rfl, rfl, rfl, by decide +kernel, rfl, by decide +kernel, by decide +kernel⟩
theorem cs_p_are_values_0 : CompScope ["thing", "many"] (defScope s_p_are_values) ["value"] (ixC [] 1) (scOf s_p_are_values 0) := ⟨rfl, by decide +kernel, by decide +kernel, by decide +kernel, by decide +kernel⟩
theorem nd_p_are_values_0 : (["value"] : List Str).Nodup := by decide +kernel
theorem d_p_are_values {P : Program} {w : World} {K : PySem.W.Frag} {mg : Str → Option Value} {base : Heap} (S : St.Src K mg "are_values" s_p_are_values) (B : Bts mg) (d_p_is_within : St.Dfn P w K mg base "is_within" 3 ["thing", "low", "high"] (spD K 3 F_p_is_within)) (d_p_is_tuple_of : St.Dfn P w K mg base "is_tuple_of" 1 ["thing", "many"] (spD K 2 F_p_is_tuple_of)) : St.Dfn P w K mg base "are_values" 4 ["thing", "many"] (spD K 2 F_p_are_values) := by
  refine dfn_ok (k := 3) S sc_p_are_values rfl (fun f fd F => F.binds fun _ _ _ _ _ _ us hl => match us, hl with | [_, _], _ => rfl) fun f cdv A outer s H E hr => ?_
  have hu := hu_room hr
  exact (dss_one (ds_ret (de_and (de_call d_p_is_tuple_of (hr.mono (by decide)) rfl (dos_cons (do_pk 0) (dos_cons (do_pk 1) dos_nil))) (de_one (de_callB (call_allD rfl) rfl B.all boot_all (dos_cons (DE.opd (de_comp [] 1 ["value"] rfl cs_p_are_values_0 (di_any (de_var 0)) (fun s H fp => ⟨(dg_nm 0 nd_p_are_values_0), dts_nil, (de_call d_p_is_within (hr.mono (by decide)) rfl (dos_cons (do_pk 0) (dos_cons (DE.opd de_int) (dos_cons (DE.opd de_int) dos_nil))))⟩))) dos_nil))))))
/-! ### are_worths -/
def b_p_are_worths : Ex := (xRet (eCall 2 F_p_are_values [(.pk 1), (.ex (eOp (o2 wAdd) [(.ex (eOp (o2 wIx) [(.pk 0), (.ex (eC (.int 1)))])), (.ex (eC (.int 1)))]))]))
def F_p_are_worths : Fn := runFn 2 b_p_are_worths
theorem sc_p_are_worths : FnScope ["train", "thing"] ["train", "thing"] (defScope s_p_are_worths) := ⟨rfl, rfl, rfl, by decide +kernel, rfl, by decide +kernel, by decide +kernel⟩
theorem d_p_are_worths {P : Program} {w : World} {K : PySem.W.Frag} {mg : Str → Option Value} {base : Heap} (S : St.Src K mg "are_worths" s_p_are_worths) (d_p_are_values : St.Dfn P w K mg base "are_values" 4 ["thing", "many"] (spD K 2 F_p_are_values)) : St.Dfn P w K mg base "are_worths" 5 ["train", "thing"] (spD K 2 F_p_are_worths) := by
  refine dfn_ok (k := 4) S sc_p_are_worths rfl (fun f fd F => F.binds fun _ _ _ _ _ _ us hl => match us, hl with | [_, _], _ => rfl) fun f cdv A outer s H E hr => ?_
  have hu := hu_room hr
  exact (dss_one (ds_ret (de_call d_p_are_values (hr.mono (by decide)) rfl (dos_cons (do_pk 1) (dos_cons (DE.opd (de_op op_addD (DE.opd (de_ix ix_D (do_pk 0) (DE.opd de_int))) (DE.opd de_int))) dos_nil)))))
/-! ### is_sold_share -/
def b_p_is_sold_share : Ex := (xRet (eAnd (eCall 1 F_p_is_share [(.pk 1)]) (eAnd (eOp (o2 wGt) [(.ex (eOp (o2 wIx) [(.pk 1), (.ex (eC (.int 0)))])), (.ex (eC (.int 0)))]) (eOp (o2 wLe) [(.ex (eOp (o2 wIx) [(.pk 1), (.ex (eC (.int 1)))])), (.ex (eC (.int 12)))]))))
def F_p_is_sold_share : Fn := runFn 2 b_p_is_sold_share
theorem sc_p_is_sold_share : FnScope ["train", "thing"] ["train", "thing"] (defScope s_p_is_sold_share) := ⟨rfl, rfl, rfl, by decide +kernel, rfl, by decide +kernel, by decide +kernel⟩
theorem d_p_is_sold_share {P : Program} {w : World} {K : PySem.W.Frag} {mg : Str → Option Value} {base : Heap} (S : St.Src K mg "is_sold_share" s_p_is_sold_share) (d_p_is_share : St.Dfn P w K mg base "is_share" 4 ["thing"] (spD K 1 F_p_is_share)) : St.Dfn P w K mg base "is_sold_share" 5 ["train", "thing"] (spD K 2 F_p_is_sold_share) := by
  refine dfn_ok (k := 4) S sc_p_is_sold_share rfl (fun f fd F => F.binds fun _ _ _ _ _ _ us hl => match us, hl with | [_, _], _ => rfl) fun f cdv A outer s H E hr => ?_
  have hu := hu_room hr
  exact (dss_one (ds_ret (de_and (de_call d_p_is_share (hr.mono (by decide)) rfl (dos_cons (do_pk 1) dos_nil)) (de_and (de_cmp op_gtD (DE.opd (de_ix ix_D (do_pk 1) (DE.opd de_int))) (DE.opd de_int)) (de_one (de_cmp op_leD (DE.opd (de_ix ix_D (do_pk 1) (DE.opd de_int))) (DE.opd de_int)))))))
def tb_PARTS : List (Str × Fn) := [("partner", F_p_is_partner), ("kind", F_p_is_kind), ("load", F_p_is_load_number), ("number", F_p_is_trade_number), ("pieces", F_p_are_pieces), ("worths", F_p_are_worths), ("share", F_p_is_sold_share)]
/-! ### is_part -/
def b_p_is_part : Ex := (xTbl 2 tb_PARTS 3 1 [(.pk 0), (.pk 2)])
def F_p_is_part : Fn := runFn 4 b_p_is_part
theorem sc_p_is_part : FnScope ["train", "part", "thing", "holds"] ["train", "part", "thing"] (defScope s_p_is_part) := ⟨rfl, rfl, rfl, by decide +kernel, rfl, by decide +kernel, by decide +kernel⟩
theorem d_p_is_part {P : Program} {w : World} {K : PySem.W.Frag} {mg : Str → Option Value} {base : Heap} (S : St.Src K mg "is_part" s_p_is_part) (T_PARTS : TopF P w K mg base "PARTS" 5 2 tb_PARTS) : St.Dfn P w K mg base "is_part" 6 ["train", "part", "thing"] (spD K 3 F_p_is_part) := by
  refine dfn_ok (k := 5) S sc_p_is_part rfl (fun f fd F => F.binds fun _ _ _ _ _ _ us hl => match us, hl with | [_, _, _], _ => rfl) fun f cdv A outer s H E hr => ?_
  have hu := hu_room hr
  exact (dss_tbl 3 1 T_PARTS (hr.mono (by decide)) (dos_cons (do_pk 0) (dos_cons (do_pk 2) dos_nil)) (by decide) sc_p_is_part.nd)
/-! ### is_load -/
def b_p_is_load : Ex := (xSeq (xIf (eNot (eCall 2 F_p_is_tuple_of [(.pk 1), (.ex (eC (.int 3)))])) (xRet (eC (.bl false))) xNil)
    (xSeq (xUnp (tTp [(tNm 2 2), (tNm 2 3), (tNm 2 4)]) (eV 1))
    (xRet (eAnd (eCall 2 F_p_is_kind [(.pk 0), (.pk 2)]) (eAnd (eCall 2 F_p_is_from [(.pk 3), (.ex (eC (.int 0)))]) (eCall 2 F_p_are_owners [(.ex (eOp (o2 wIx) [(.pk 0), (.ex (eC (.int 0)))])), (.pk 4)]))))))
def F_p_is_load : Fn := runFn 5 b_p_is_load
theorem sc_p_is_load : FnScope ["train", "thing", "kind", "pieces", "owners"] ["train", "thing"] (defScope s_p_is_load) := ⟨rfl, rfl, rfl, by decide +kernel, rfl, by decide +kernel, by decide +kernel⟩
theorem d_p_is_load {P : Program} {w : World} {K : PySem.W.Frag} {mg : Str → Option Value} {base : Heap} (S : St.Src K mg "is_load" s_p_is_load) (d_p_is_from : St.Dfn P w K mg base "is_from" 2 ["thing", "low"] (spD K 2 F_p_is_from)) (d_p_is_tuple_of : St.Dfn P w K mg base "is_tuple_of" 1 ["thing", "many"] (spD K 2 F_p_is_tuple_of)) (d_p_are_owners : St.Dfn P w K mg base "are_owners" 5 ["partners", "thing"] (spD K 2 F_p_are_owners)) (d_p_is_kind : St.Dfn P w K mg base "is_kind" 4 ["train", "thing"] (spD K 2 F_p_is_kind)) : St.Dfn P w K mg base "is_load" 6 ["train", "thing"] (spD K 2 F_p_is_load) := by
  refine dfn_ok (k := 5) S sc_p_is_load rfl (fun f fd F => F.binds fun _ _ _ _ _ _ us hl => match us, hl with | [_, _], _ => rfl) fun f cdv A outer s H E hr => ?_
  have hu := hu_room hr
  exact (dss_cons (ds_if (dt_not (dt_val (de_call d_p_is_tuple_of (hr.mono (by decide)) rfl (dos_cons (do_pk 1) (dos_cons (DE.opd de_int) dos_nil))))) (dss_one (ds_ret de_bl)) dss_nil)
        (dss_cons (ds_unp (de_var 1) (dg_tp rfl (dgs_cons (dg_nm 2 sc_p_is_load.nd) (dgs_cons (dg_nm 3 sc_p_is_load.nd) (dgs_cons (dg_nm 4 sc_p_is_load.nd) dgs_nil)))))
        (dss_one (ds_ret (de_and (de_call d_p_is_kind (hr.mono (by decide)) rfl (dos_cons (do_pk 0) (dos_cons (do_pk 2) dos_nil))) (de_and (de_call d_p_is_from (hr.mono (by decide)) rfl (dos_cons (do_pk 3) (dos_cons (DE.opd de_int) dos_nil))) (de_one (de_call d_p_are_owners (hr.mono (by decide)) rfl (dos_cons (DE.opd (de_ix ix_D (do_pk 0) (DE.opd de_int))) (dos_cons (do_pk 4) dos_nil))))))))))
/-! ### is_deed -/
def b_p_is_deed : Ex := (xSeq (xIf (eOr (eNot (eOp (o2 wIsi) [(.pk 1), (.ex (eC (.ty "tuple")))])) (eOp (o2 wEq) [(.ex (eOp (o1 wLen) [(.pk 1)])), (.ex (eC (.int 0)))])) (xRet (eC (.bl false))) xNil)
    (xSeq (xAsg 2 2 (eOp (o2 wIx) [(.pk 1), (.ex (eC (.int 0)))]))
    (xSeq (xIf (eOr (eNot (eOp (o2 wIsi) [(.pk 2), (.ex (eC (.ty "str")))])) (eOp (o1 (wTopIn true k_FORMS)) [(.pk 2)])) (xRet (eC (.bl false))) xNil)
    (xSeq (xAsg 2 3 (eOp (o1 (wTop k_FORMS)) [(.pk 2)]))
    (xSeq (xIf (eOp (o2 wNe) [(.ex (eOp (o1 wLen) [(.pk 1)])), (.ex (eOp (o2 wAdd) [(.ex (eOp (o1 wLen) [(.pk 3)])), (.ex (eC (.int 1)))]))]) (xRet (eC (.bl false))) xNil)
    (xSeq (xIf (eNot (eOp (o1 wAll) [(.ex (eComp [0, 1] 2 (sEnu (.pk 3)) (tTp [(tNm 2 2), (tNm 2 3)]) eTrue (eCall 3 F_p_is_part [(.pk 0), (.pk 3), (.ex (eOp (o2 wIx) [(.pk 1), (.ex (eOp (o2 wAdd) [(.pk 2), (.ex (eC (.int 1)))]))]))])))])) (xRet (eC (.bl false))) xNil)
    (xRet (eOr (eOp (o2 (wIn true)) [(.pk 2), (.ex (eC k_UNLIKE))]) (eOp (o2 wNe) [(.ex (eOp (o2 wIx) [(.pk 1), (.ex (eC (.int 1)))])), (.ex (eOp (o2 wIx) [(.pk 1), (.ex (eC (.int 2)))]))])))))))))
def F_p_is_deed : Fn := runFn 4 b_p_is_deed
theorem sc_p_is_deed : FnScope ["train", "thing", "word", "form"] ["train", "thing"] (defScope s_p_is_deed) := ⟨rfl, rfl, rfl, by decide +kernel, rfl, by decide +kernel, by decide +kernel⟩
theorem cs_p_is_deed_0 : CompScope ["train", "thing", "word", "form"] (defScope s_p_is_deed) ["train", "thing", "at", "part"] (ixC [0, 1] 2) (scOf s_p_is_deed 0) := ⟨rfl, by decide +kernel, by decide +kernel, by decide +kernel, by decide +kernel⟩
theorem nd_p_is_deed_0 : (["train", "thing", "at", "part"] : List Str).Nodup := by decide +kernel
theorem d_p_is_deed {P : Program} {w : World} {K : PySem.W.Frag} {mg : Str → Option Value} {base : Heap} (S : St.Src K mg "is_deed" s_p_is_deed) (B : Bts mg) (c_UNLIKE : CstD K mg "UNLIKE" k_UNLIKE) (c_FORMS : TopT K w mg "FORMS" k_FORMS) (d_p_is_part : St.Dfn P w K mg base "is_part" 6 ["train", "part", "thing"] (spD K 3 F_p_is_part)) : St.Dfn P w K mg base "is_deed" 7 ["train", "thing"] (spD K 2 F_p_is_deed) := by
  refine dfn_ok (k := 6) S sc_p_is_deed rfl (fun f fd F => F.binds fun _ _ _ _ _ _ us hl => match us, hl with | [_, _], _ => rfl) fun f cdv A outer s H E hr => ?_
  have hu := hu_room hr
  exact (dss_cons (ds_if (DW.dt (dw_or (dt_not (dt_val (de_callB call_isiD rfl B.isi boot_isinstance (dos_cons (do_pk 1) (dos_cons (DE.opd (de_ty rfl B.tuple boot_tuple)) dos_nil))))) (dw_or1 (dt_cmp (op_eqD hu) (DE.opd (de_callB call_lenD rfl B.len boot_len (dos_cons (do_pk 1) dos_nil))) (DE.opd de_int))))) (dss_one (ds_ret de_bl)) dss_nil)
        (dss_cons (ds_set 2 (de_ix ix_D (do_pk 1) (DE.opd de_int)) sc_p_is_deed.nd)
        (dss_cons (ds_if (DW.dt (dw_or (dt_not (dt_val (de_callB call_isiD rfl B.isi boot_isinstance (dos_cons (do_pk 2) (dos_cons (DE.opd (de_ty rfl B.str boot_str)) dos_nil))))) (dw_or1 (dt_topNotIn c_FORMS rfl (do_pk 2))))) (dss_one (ds_ret de_bl)) dss_nil)
        (dss_cons (ds_set 3 (de_top c_FORMS rfl (do_pk 2)) sc_p_is_deed.nd)
        (dss_cons (ds_if (dt_cmp (op_neD hu) (DE.opd (de_callB call_lenD rfl B.len boot_len (dos_cons (do_pk 1) dos_nil))) (DE.opd (de_op op_addD (DE.opd (de_callB call_lenD rfl B.len boot_len (dos_cons (do_pk 3) dos_nil))) (DE.opd de_int)))) (dss_one (ds_ret de_bl)) dss_nil)
        (dss_cons (ds_if (dt_not (dt_val (de_callB (call_allD rfl) rfl B.all boot_all (dos_cons (DE.opd (de_comp [0, 1] 2 ["train", "thing", "at", "part"] rfl cs_p_is_deed_0 (di_enu rfl B.enumerate (dos_cons (do_pk 3) dos_nil)) (fun s H fp => ⟨(dg_tp rfl (dgs_cons (dg_nm 2 nd_p_is_deed_0) (dgs_cons (dg_nm 3 nd_p_is_deed_0) dgs_nil))), dts_nil, (de_call d_p_is_part (hr.mono (by decide)) rfl (dos_cons (do_pk 0) (dos_cons (do_pk 3) (dos_cons (DE.opd (de_ix ix_D (do_pk 1) (DE.opd (de_op op_addD (do_pk 2) (DE.opd de_int))))) dos_nil))))⟩))) dos_nil)))) (dss_one (ds_ret de_bl)) dss_nil)
        (dss_one (ds_ret (de_or (de_cmp op_notInD (do_pk 2) (DE.opd (de_glob c_UNLIKE rfl))) (de_one (de_cmp (op_neD hu) (DE.opd (de_ix ix_D (do_pk 1) (DE.opd de_int))) (DE.opd (de_ix ix_D (do_pk 1) (DE.opd de_int))))))))))))))
/-! ### _law_cell_at -/
def b_law_cell_at : Ex := (xSeq (xIf (eOp (o2 wLt) [(.pk 1), (.ex (eOp (o1 wLen) [(.pk 0)]))]) (xRet (eOp (o2 wIx) [(.pk 0), (.pk 1)])) xNil)
    (xRet (eC (.int 0))))
def F_law_cell_at : Fn := runFn 2 b_law_cell_at
theorem sc_law_cell_at : FnScope ["_law_script", "_law_k"] ["_law_script", "_law_k"] (defScope s_law_cell_at) := ⟨rfl, rfl, rfl, by decide +kernel, rfl, by decide +kernel, by decide +kernel⟩
theorem d_law_cell_at {P : Program} {w : World} {K : PySem.W.Frag} {mg : Str → Option Value} {base : Heap} (S : St.Src K mg "_law_cell_at" s_law_cell_at) (B : Bts mg) : St.Dfn P w K mg base "_law_cell_at" 1 ["_law_script", "_law_k"] (spD K 2 F_law_cell_at) := by
  refine dfn_ok (k := 0) S sc_law_cell_at rfl (fun f fd F => F.binds fun _ _ _ _ _ _ us hl => match us, hl with | [_, _], _ => rfl) fun f cdv A outer s H E hr => ?_
  have hu := hu_room hr
  exact (dss_cons (ds_if (dt_cmp op_ltD (do_pk 1) (DE.opd (de_callB call_lenD rfl B.len boot_len (dos_cons (do_pk 0) dos_nil)))) (dss_one (ds_ret (de_ix ix_D (do_pk 0) (do_pk 1)))) dss_nil)
        (dss_one (ds_ret de_int)))
/-! ### _law_pen -/
def b_law_pen : Ex := (xRet (eOp wLst [(.ex (eV 0)), (.ex (eOp (o1 wInt) [(.ex (eOp (o2 wGe) [(.pk 0), (.ex (eOp (o2 wPow) [(.ex (eC (.int 10))), (.ex (eC (.int 18)))]))]))])), (.ex (eC (.int 0))), (.ex (eOp (o2 wMod) [(.pk 0), (.ex (eC (.int 1000000007)))]))]))
def F_law_pen : Fn := runFn 1 b_law_pen
theorem sc_law_pen : FnScope ["_law_cell"] ["_law_cell"] (defScope s_law_pen) := ⟨rfl, rfl, rfl, by decide +kernel, rfl, by decide +kernel, by decide +kernel⟩
theorem d_law_pen {P : Program} {w : World} {K : PySem.W.Frag} {mg : Str → Option Value} {base : Heap} (S : St.Src K mg "_law_pen" s_law_pen) (B : Bts mg) : St.Dfn P w K mg base "_law_pen" 1 ["_law_cell"] (spD K 1 F_law_pen) := by
  refine dfn_ok (k := 0) S sc_law_pen rfl (fun f fd F => F.binds fun _ _ _ _ _ _ us hl => match us, hl with | [_], _ => rfl) fun f cdv A outer s H E hr => ?_
  have hu := hu_room hr
  exact (dss_one (ds_ret (de_lst (dos_cons (DE.opd (de_var 0)) (dos_cons (DE.opd (de_callTy call_intD rfl B.int boot_int (dos_cons (DE.opd (de_cmp op_geD (do_pk 0) (DE.opd (de_op op_powD (DE.opd de_int) (DE.opd de_int))))) dos_nil))) (dos_cons (DE.opd de_int) (dos_cons (DE.opd (de_op op_modD (do_pk 0) (DE.opd de_int))) dos_nil)))))))
end Mi
end
section
set_option Elab.async false
set_option linter.all false
set_option maxRecDepth 100000
set_option maxHeartbeats 4000000
namespace Mi
open PySem PySem.Spec L2
open PyProof.Rows (boot_isinstance boot_int boot_bool boot_tuple boot_str boot_list boot_abs boot_all boot_any boot_sum boot_max boot_min boot_range boot_enumerate boot_zip boot_sorted boot_set boot_divmod)
/-! ### _law_draw -/
def b_law_draw : Ex := (xSeq (xIf (eAnd (eOp (o2 wEq) [(.ex (eOp (o2 wIx) [(.pk 0), (.ex (eC (.int 1)))])), (.ex (eC (.int 1)))]) (eOp (o2 wGt) [(.ex (eOp (o2 wIx) [(.pk 0), (.ex (eC (.int 0)))])), (.ex (eC (.int 0)))])) (xSeq (xAsg 2 2 (eOp (o2 wMod) [(.ex (eOp (o2 wIx) [(.pk 0), (.ex (eC (.int 0)))])), (.pk 1)]))
    (xSeq (xSet 0 (eOp (o2 wFdiv) [(.ex (eOp (o2 wIx) [(.pk 0), (.ex (eC (.int 0)))])), (.pk 1)]) (.ex (eC (.int 0))))
    (xRetV 2 2))) xNil)
    (xSeq (xSet 0 (eOp (o2 wAdd) [(.ex (eOp (o2 wIx) [(.pk 0), (.ex (eC (.int 2)))])), (.ex (eC (.int 1)))]) (.ex (eC (.int 2))))
    (xSeq (xAsg 2 3 (eOp (o2 wMod) [(.ex (eOp (o2 wMul) [(.ex (eOp (o2 wAdd) [(.ex (eOp (o2 wIx) [(.pk 0), (.ex (eC (.int 3)))])), (.ex (eC (.int 17)))])), (.ex (eOp (o2 wAdd) [(.ex (eC (.int 69621))), (.ex (eOp (o2 wMul) [(.ex (eC (.int 2))), (.ex (eOp (o2 wIx) [(.pk 0), (.ex (eC (.int 2)))]))]))]))])), (.ex (eC (.int 2147483647)))]))
    (xSeq (xAsg 2 3 (eOp (o2 wMod) [(.ex (eOp (o2 wAdd) [(.ex (eOp (o2 wAdd) [(.ex (eOp (o2 wMul) [(.pk 3), (.pk 3)])), (.ex (eOp (o2 wMul) [(.ex (eC (.int 40503))), (.ex (eOp (o2 wIx) [(.pk 0), (.ex (eC (.int 2)))]))]))])), (.ex (eC (.int 5)))])), (.ex (eC (.int 2147483629)))]))
    (xRet (eOp (o2 wMod) [(.ex (eOp (o2 wFdiv) [(.ex (eOp (o2 wMod) [(.ex (eOp (o2 wMul) [(.pk 3), (.ex (eC (.int 48271)))])), (.ex (eC (.int 2147483647)))])), (.ex (eC (.int 32)))])), (.pk 1)]))))))
def F_law_draw : Fn := runFn 4 b_law_draw
theorem sc_law_draw : FnScope ["_law_pen_here", "_law_bound", "_law_found", "_law_stir"] ["_law_pen_here", "_law_bound"] (defScope s_law_draw) := ⟨rfl, rfl, rfl, by decide +kernel, rfl, by decide +kernel, by decide +kernel⟩
theorem d_law_draw {P : Program} {w : World} {K : PySem.W.Frag} {mg : Str → Option Value} {base : Heap} (S : St.Src K mg "_law_draw" s_law_draw) : St.Dfn P w K mg base "_law_draw" 1 ["_law_pen_here", "_law_bound"] (spD K 2 F_law_draw) := by
  refine dfn_ok (k := 0) S sc_law_draw rfl (fun f fd F => F.binds fun _ _ _ _ _ _ us hl => match us, hl with | [_, _], _ => rfl) fun f cdv A outer s H E hr => ?_
  have hu := hu_room hr
  exact (dss_cons (ds_if (DW.dt (dw_and (dt_cmp (op_eqD hu) (DE.opd (de_ix ix_D (do_pk 0) (DE.opd de_int))) (DE.opd de_int)) (dw_and1 (dt_cmp op_gtD (DE.opd (de_ix ix_D (do_pk 0) (DE.opd de_int))) (DE.opd de_int))))) (dss_cons (ds_set 2 (de_op op_modD (DE.opd (de_ix ix_D (do_pk 0) (DE.opd de_int))) (do_pk 1)) sc_law_draw.nd)
        (dss_cons (ds_setix 0 (de_op op_fdivD (DE.opd (de_ix ix_D (do_pk 0) (DE.opd de_int))) (do_pk 1)) (DE.opd de_int))
        (dss_one (ds_retV 2)))) dss_nil)
        (dss_cons (ds_setix 0 (de_op op_addD (DE.opd (de_ix ix_D (do_pk 0) (DE.opd de_int))) (DE.opd de_int)) (DE.opd de_int))
        (dss_cons (ds_set 3 (de_op op_modD (DE.opd (de_op op_mulD (DE.opd (de_op op_addD (DE.opd (de_ix ix_D (do_pk 0) (DE.opd de_int))) (DE.opd de_int))) (DE.opd (de_op op_addD (DE.opd de_int) (DE.opd (de_op op_mulD (DE.opd de_int) (DE.opd (de_ix ix_D (do_pk 0) (DE.opd de_int))))))))) (DE.opd de_int)) sc_law_draw.nd)
        (dss_cons (ds_set 3 (de_op op_modD (DE.opd (de_op op_addD (DE.opd (de_op op_addD (DE.opd (de_op op_mulD (do_pk 3) (do_pk 3))) (DE.opd (de_op op_mulD (DE.opd de_int) (DE.opd (de_ix ix_D (do_pk 0) (DE.opd de_int))))))) (DE.opd de_int))) (DE.opd de_int)) sc_law_draw.nd)
        (dss_one (ds_ret (de_op op_modD (DE.opd (de_op op_fdivD (DE.opd (de_op op_modD (DE.opd (de_op op_mulD (do_pk 3) (DE.opd de_int))) (DE.opd de_int))) (DE.opd de_int))) (do_pk 1))))))))
/-! ### _law_common -/
def b_law_common : Ex := (xSeq (xWhile (fuelI 1) (eOp (o2 wGt) [(.pk 1), (.ex (eC (.int 0)))]) (xPar 2 0 1 (eV 1) (eOp (o2 wMod) [(.pk 0), (.pk 1)])))
    (xRetV 2 0))
def F_law_common : Fn := runFn 2 b_law_common
theorem sc_law_common : FnScope ["_law_one", "_law_other"] ["_law_one", "_law_other"] (defScope s_law_common) := ⟨rfl, rfl, rfl, by decide +kernel, rfl, by decide +kernel, by decide +kernel⟩
theorem d_law_common {P : Program} {w : World} {K : PySem.W.Frag} {mg : Str → Option Value} {base : Heap} (S : St.Src K mg "_law_common" s_law_common) : St.Dfn P w K mg base "_law_common" 1 ["_law_one", "_law_other"] (spD K 2 F_law_common) := by
  refine dfn_ok (k := 0) S sc_law_common rfl (fun f fd F => F.binds fun _ _ _ _ _ _ us hl => match us, hl with | [_, _], _ => rfl) fun f cdv A outer s H E hr => ?_
  have hu := hu_room hr
  exact (dss_cons (ds_while (fuelI 1) PassesOwn.never (dt_cmp op_gtD (do_pk 1) (DE.opd de_int)) (dss_one (ds_par (i := 0) (j := 1) rfl sc_law_common.nd rfl rfl (by decide) rfl rfl (de_var 1) (de_op op_modD (do_pk 0) (do_pk 1)))))
        (dss_one (ds_retV 0)))
/-! ### _law_made -/
def b_law_made : Ex := (xSeq (xAsg 2 2 (eCall 2 F_law_common [(.ex (eOp (o1 wAbs) [(.pk 0)])), (.pk 1)]))
    (xRet (eOp wTup [(.ex (eOp (o2 wFdiv) [(.pk 0), (.pk 2)])), (.ex (eOp (o2 wFdiv) [(.pk 1), (.pk 2)]))])))
def F_law_made : Fn := runFn 3 b_law_made
theorem sc_law_made : FnScope ["_law_top", "_law_bottom", "_law_by"] ["_law_top", "_law_bottom"] (defScope s_law_made) := ⟨rfl, rfl, rfl, by decide +kernel, rfl, by decide +kernel, by decide +kernel⟩
theorem d_law_made {P : Program} {w : World} {K : PySem.W.Frag} {mg : Str → Option Value} {base : Heap} (S : St.Src K mg "_law_made" s_law_made) (B : Bts mg) (d_law_common : St.Dfn P w K mg base "_law_common" 1 ["_law_one", "_law_other"] (spD K 2 F_law_common)) : St.Dfn P w K mg base "_law_made" 2 ["_law_top", "_law_bottom"] (spD K 2 F_law_made) := by
  refine dfn_ok (k := 1) S sc_law_made rfl (fun f fd F => F.binds fun _ _ _ _ _ _ us hl => match us, hl with | [_, _], _ => rfl) fun f cdv A outer s H E hr => ?_
  have hu := hu_room hr
  exact (dss_cons (ds_set 2 (de_call d_law_common (hr.mono (by decide)) rfl (dos_cons (DE.opd (de_callB call_absD rfl B.abs boot_abs (dos_cons (do_pk 0) dos_nil))) (dos_cons (do_pk 1) dos_nil))) sc_law_made.nd)
        (dss_one (ds_ret (de_tup (dos_cons (DE.opd (de_op op_fdivD (do_pk 0) (do_pk 2))) (dos_cons (DE.opd (de_op op_fdivD (do_pk 1) (do_pk 2))) dos_nil))))))
/-! ### _law_plus -/
def b_law_plus : Ex := (xRet (eCall 2 F_law_made [(.ex (eOp (o2 wAdd) [(.ex (eOp (o2 wMul) [(.ex (eOp (o2 wIx) [(.pk 0), (.ex (eC (.int 0)))])), (.ex (eOp (o2 wIx) [(.pk 1), (.ex (eC (.int 1)))]))])), (.ex (eOp (o2 wMul) [(.ex (eOp (o2 wIx) [(.pk 1), (.ex (eC (.int 0)))])), (.ex (eOp (o2 wIx) [(.pk 0), (.ex (eC (.int 1)))]))]))])), (.ex (eOp (o2 wMul) [(.ex (eOp (o2 wIx) [(.pk 0), (.ex (eC (.int 1)))])), (.ex (eOp (o2 wIx) [(.pk 1), (.ex (eC (.int 1)))]))]))]))
def F_law_plus : Fn := runFn 2 b_law_plus
theorem sc_law_plus : FnScope ["_law_one", "_law_other"] ["_law_one", "_law_other"] (defScope s_law_plus) := ⟨rfl, rfl, rfl, by decide +kernel, rfl, by decide +kernel, by decide +kernel⟩
theorem d_law_plus {P : Program} {w : World} {K : PySem.W.Frag} {mg : Str → Option Value} {base : Heap} (S : St.Src K mg "_law_plus" s_law_plus) (d_law_made : St.Dfn P w K mg base "_law_made" 2 ["_law_top", "_law_bottom"] (spD K 2 F_law_made)) : St.Dfn P w K mg base "_law_plus" 3 ["_law_one", "_law_other"] (spD K 2 F_law_plus) := by
  refine dfn_ok (k := 2) S sc_law_plus rfl (fun f fd F => F.binds fun _ _ _ _ _ _ us hl => match us, hl with | [_, _], _ => rfl) fun f cdv A outer s H E hr => ?_
  have hu := hu_room hr
  exact (dss_one (ds_ret (de_call d_law_made (hr.mono (by decide)) rfl (dos_cons (DE.opd (de_op op_addD (DE.opd (de_op op_mulD (DE.opd (de_ix ix_D (do_pk 0) (DE.opd de_int))) (DE.opd (de_ix ix_D (do_pk 1) (DE.opd de_int))))) (DE.opd (de_op op_mulD (DE.opd (de_ix ix_D (do_pk 1) (DE.opd de_int))) (DE.opd (de_ix ix_D (do_pk 0) (DE.opd de_int))))))) (dos_cons (DE.opd (de_op op_mulD (DE.opd (de_ix ix_D (do_pk 0) (DE.opd de_int))) (DE.opd (de_ix ix_D (do_pk 1) (DE.opd de_int))))) dos_nil)))))
/-! ### _law_times -/
/-! ### _law_less -/
/-! ### _law_sum -/
def b_law_sum : Ex := (xSeq (xAsg 1 1 (eOp wTup [(.ex (eC (.int 0))), (.ex (eC (.int 1)))]))
    (xSeq (xFor (sAny (eV 0)) (tNm 1 2) (xAsg 1 1 (eCall 2 F_law_plus [(.pk 1), (.pk 2)])))
    (xRetV 1 1)))
def F_law_sum : Fn := runFn 3 b_law_sum
theorem sc_law_sum : FnScope ["_law_some", "_law_found", "_law_one"] ["_law_some"] (defScope s_law_sum) := ⟨rfl, rfl, rfl, by decide +kernel, rfl, by decide +kernel, by decide +kernel⟩
theorem d_law_sum {P : Program} {w : World} {K : PySem.W.Frag} {mg : Str → Option Value} {base : Heap} (S : St.Src K mg "_law_sum" s_law_sum) (d_law_plus : St.Dfn P w K mg base "_law_plus" 3 ["_law_one", "_law_other"] (spD K 2 F_law_plus)) : St.Dfn P w K mg base "_law_sum" 4 ["_law_some"] (spD K 1 F_law_sum) := by
  refine dfn_ok (k := 3) S sc_law_sum rfl (fun f fd F => F.binds fun _ _ _ _ _ _ us hl => match us, hl with | [_], _ => rfl) fun f cdv A outer s H E hr => ?_
  have hu := hu_room hr
  exact (dss_cons (ds_set 1 (de_tup (dos_cons (DE.opd de_int) (dos_cons (DE.opd de_int) dos_nil))) sc_law_sum.nd)
        (dss_cons (ds_for PassesOwn.never rfl (di_any (de_var 0)) (dg_nm 2 sc_law_sum.nd) (dss_one (ds_set 1 (de_call d_law_plus (hr.mono (by decide)) rfl (dos_cons (do_pk 1) (dos_cons (do_pk 2) dos_nil))) sc_law_sum.nd)))
        (dss_one (ds_retV 1))))
/-! ### _law_whole -/
def b_law_whole : Ex := (xSeq (xAsg 2 2 (eComp [0] 1 (sRng [(.pk 1)]) (tNm 1 1) eTrue (eOp (o2 wIx) [(.ex (eOp wLst [(.ex (eC (.int 0))), (.ex (eC (.int 1))), (.ex (eCall 2 F_law_draw [(.pk 0), (.ex (eC (.int 4)))])), (.ex (eCall 2 F_law_draw [(.pk 0), (.ex (eC (.int 9)))]))])), (.ex (eCall 2 F_law_draw [(.pk 0), (.ex (eC (.int 4)))]))])))
    (xSeq (xIf (eOp (o2 wEq) [(.ex (eOp (o1 wSum) [(.pk 2)])), (.ex (eC (.int 0)))]) (xSet 2 (eC (.int 1)) (.ex (eCall 2 F_law_draw [(.pk 0), (.pk 1)]))) xNil)
    (xRet (eOp (o1 wTuple) [(.ex (eComp [2] 1 (sAny (eV 2)) (tNm 1 1) eTrue (eCall 2 F_law_made [(.pk 1), (.ex (eOp (o1 wSum) [(.pk 0)]))])))]))))
def F_law_whole : Fn := runFn 3 b_law_whole
theorem sc_law_whole : FnScope ["_law_pen_here", "_law_many", "_law_weights"] ["_law_pen_here", "_law_many"] (defScope s_law_whole) := ⟨rfl, rfl, rfl, by decide +kernel, rfl, by decide +kernel, by decide +kernel⟩
theorem cs_law_whole_0 : CompScope ["_law_pen_here", "_law_many", "_law_weights"] (defScope s_law_whole) ["_law_pen_here", "_law_one"] (ixC [0] 1) (scOf s_law_whole 0) := ⟨rfl, by decide +kernel, by decide +kernel, by decide +kernel, by decide +kernel⟩
theorem nd_law_whole_0 : (["_law_pen_here", "_law_one"] : List Str).Nodup := by decide +kernel
theorem cs_law_whole_1 : CompScope ["_law_pen_here", "_law_many", "_law_weights"] (defScope s_law_whole) ["_law_weights", "_law_weight"] (ixC [2] 1) (scOf s_law_whole 1) := ⟨rfl, by decide +kernel, by decide +kernel, by decide +kernel, by decide +kernel⟩
theorem nd_law_whole_1 : (["_law_weights", "_law_weight"] : List Str).Nodup := by decide +kernel
theorem d_law_whole {P : Program} {w : World} {K : PySem.W.Frag} {mg : Str → Option Value} {base : Heap} (S : St.Src K mg "_law_whole" s_law_whole) (B : Bts mg) (d_law_draw : St.Dfn P w K mg base "_law_draw" 1 ["_law_pen_here", "_law_bound"] (spD K 2 F_law_draw)) (d_law_made : St.Dfn P w K mg base "_law_made" 2 ["_law_top", "_law_bottom"] (spD K 2 F_law_made)) : St.Dfn P w K mg base "_law_whole" 3 ["_law_pen_here", "_law_many"] (spD K 2 F_law_whole) := by
  refine dfn_ok (k := 2) S sc_law_whole rfl (fun f fd F => F.binds fun _ _ _ _ _ _ us hl => match us, hl with | [_, _], _ => rfl) fun f cdv A outer s H E hr => ?_
  have hu := hu_room hr
  exact (dss_cons (ds_set 2 (de_comp [0] 1 ["_law_pen_here", "_law_one"] rfl cs_law_whole_0 (di_rng1 rfl B.range (dos_cons (do_pk 1) dos_nil)) (fun s H fp => ⟨(dg_nm 1 nd_law_whole_0), dts_nil, (de_ix ix_D (DE.opd (de_lst (dos_cons (DE.opd de_int) (dos_cons (DE.opd de_int) (dos_cons (DE.opd (de_call d_law_draw (hr.mono (by decide)) rfl (dos_cons (do_pk 0) (dos_cons (DE.opd de_int) dos_nil)))) (dos_cons (DE.opd (de_call d_law_draw (hr.mono (by decide)) rfl (dos_cons (do_pk 0) (dos_cons (DE.opd de_int) dos_nil)))) dos_nil)))))) (DE.opd (de_call d_law_draw (hr.mono (by decide)) rfl (dos_cons (do_pk 0) (dos_cons (DE.opd de_int) dos_nil)))))⟩)) sc_law_whole.nd)
        (dss_cons (ds_if (dt_cmp (op_eqD hu) (DE.opd (de_callB (call_sumD rfl) rfl B.sum boot_sum (dos_cons (do_pk 2) dos_nil))) (DE.opd de_int)) (dss_one (ds_setix 2 de_int (DE.opd (de_call d_law_draw (hr.mono (by decide)) rfl (dos_cons (do_pk 0) (dos_cons (do_pk 1) dos_nil)))))) dss_nil)
        (dss_one (ds_ret (de_callTy call_tupleD rfl B.tuple boot_tuple (dos_cons (DE.opd (de_comp [2] 1 ["_law_weights", "_law_weight"] rfl cs_law_whole_1 (di_any (de_var 2)) (fun s H fp => ⟨(dg_nm 1 nd_law_whole_1), dts_nil, (de_call d_law_made (hr.mono (by decide)) rfl (dos_cons (do_pk 1) (dos_cons (DE.opd (de_callB (call_sumD rfl) rfl B.sum boot_sum (dos_cons (do_pk 0) dos_nil))) dos_nil)))⟩))) dos_nil))))))
end Mi
end
section
set_option Elab.async false
set_option linter.all false
set_option maxRecDepth 100000
set_option maxHeartbeats 4000000
namespace Mi
open PySem PySem.Spec L2
open PyProof.Rows (boot_isinstance boot_int boot_bool boot_tuple boot_str boot_list boot_abs boot_all boot_any boot_sum boot_max boot_min boot_range boot_enumerate boot_zip boot_sorted boot_set boot_divmod)
/-! ### _law_pieces -/
def b_law_pieces : Ex := (xSeq (xAsg 1 1 (eOp (o2 wAdd) [(.ex (eOp (o2 wPow) [(.ex (eC (.int 10))), (.ex (eC (.int 30)))])), (.ex (eCall 2 F_law_draw [(.pk 0), (.ex (eC (.int 99)))]))]))
    (xRet (eOp (o2 wIx) [(.ex (eOp wLst [(.ex (eOp (o2 wAdd) [(.ex (eC (.int 1))), (.ex (eCall 2 F_law_draw [(.pk 0), (.ex (eC (.int 4)))]))])), (.ex (eOp (o2 wAdd) [(.ex (eC (.int 1))), (.ex (eCall 2 F_law_draw [(.pk 0), (.ex (eC (.int 40)))]))])), (.ex (eOp (o2 wAdd) [(.ex (eC (.int 1))), (.ex (eCall 2 F_law_draw [(.pk 0), (.ex (eC (.int 999)))]))])), (.ex (eV 1))])), (.ex (eOp (o2 wFdiv) [(.ex (eCall 2 F_law_draw [(.pk 0), (.ex (eC (.int 7)))])), (.ex (eC (.int 2)))]))])))
def F_law_pieces : Fn := runFn 2 b_law_pieces
theorem sc_law_pieces : FnScope ["_law_pen_here", "_law_great"] ["_law_pen_here"] (defScope s_law_pieces) := ⟨rfl, rfl, rfl, by decide +kernel, rfl, by decide +kernel, by decide +kernel⟩
theorem d_law_pieces {P : Program} {w : World} {K : PySem.W.Frag} {mg : Str → Option Value} {base : Heap} (S : St.Src K mg "_law_pieces" s_law_pieces) (d_law_draw : St.Dfn P w K mg base "_law_draw" 1 ["_law_pen_here", "_law_bound"] (spD K 2 F_law_draw)) : St.Dfn P w K mg base "_law_pieces" 2 ["_law_pen_here"] (spD K 1 F_law_pieces) := by
  refine dfn_ok (k := 1) S sc_law_pieces rfl (fun f fd F => F.binds fun _ _ _ _ _ _ us hl => match us, hl with | [_], _ => rfl) fun f cdv A outer s H E hr => ?_
  have hu := hu_room hr
  exact (dss_cons (ds_set 1 (de_op op_addD (DE.opd (de_op op_powD (DE.opd de_int) (DE.opd de_int))) (DE.opd (de_call d_law_draw (hr.mono (by decide)) rfl (dos_cons (do_pk 0) (dos_cons (DE.opd de_int) dos_nil))))) sc_law_pieces.nd)
        (dss_one (ds_ret (de_ix ix_D (DE.opd (de_lst (dos_cons (DE.opd (de_op op_addD (DE.opd de_int) (DE.opd (de_call d_law_draw (hr.mono (by decide)) rfl (dos_cons (do_pk 0) (dos_cons (DE.opd de_int) dos_nil)))))) (dos_cons (DE.opd (de_op op_addD (DE.opd de_int) (DE.opd (de_call d_law_draw (hr.mono (by decide)) rfl (dos_cons (do_pk 0) (dos_cons (DE.opd de_int) dos_nil)))))) (dos_cons (DE.opd (de_op op_addD (DE.opd de_int) (DE.opd (de_call d_law_draw (hr.mono (by decide)) rfl (dos_cons (do_pk 0) (dos_cons (DE.opd de_int) dos_nil)))))) (dos_cons (DE.opd (de_var 1)) dos_nil)))))) (DE.opd (de_op op_fdivD (DE.opd (de_call d_law_draw (hr.mono (by decide)) rfl (dos_cons (do_pk 0) (dos_cons (DE.opd de_int) dos_nil)))) (DE.opd de_int)))))))
/-! ### _law_train -/
def b_law_train : Ex := (xSeq (xPar 1 1 2 (eOp (o2 wAdd) [(.ex (eC (.int 1))), (.ex (eCall 2 F_law_draw [(.pk 0), (.ex (eC (.int 4)))]))]) (eOp (o2 wAdd) [(.ex (eC (.int 1))), (.ex (eCall 2 F_law_draw [(.pk 0), (.ex (eC (.int 5)))]))]))
    (xSeq (xAsg 1 3 (eOp (o2 wIx) [(.ex (eOp wLst [(.ex (eOp (o2 wAdd) [(.ex (eC (.int 1))), (.ex (eCall 2 F_law_draw [(.pk 0), (.ex (eC (.int 3)))]))])), (.ex (eOp (o2 wAdd) [(.ex (eC (.int 1))), (.ex (eCall 2 F_law_draw [(.pk 0), (.ex (eC (.int 20)))]))]))])), (.ex (eCall 2 F_law_draw [(.pk 0), (.ex (eC (.int 2)))]))]))
    (xRet (eOp wTup [(.ex (eV 1)), (.ex (eV 2)), (.ex (eV 3)), (.ex (eCall 2 F_law_whole [(.pk 0), (.pk 1)])), (.ex (eCall 2 F_law_draw [(.pk 0), (.ex (eC (.int 10)))])), (.ex (eCall 2 F_law_draw [(.pk 0), (.ex (eC (.int 10)))]))]))))
def F_law_train : Fn := runFn 4 b_law_train
theorem sc_law_train : FnScope ["_law_pen_here", "_law_partners", "_law_kinds", "_law_beasts"] ["_law_pen_here"] (defScope s_law_train) := ⟨rfl, rfl, rfl, by decide +kernel, rfl, by decide +kernel, by decide +kernel⟩
theorem d_law_train {P : Program} {w : World} {K : PySem.W.Frag} {mg : Str → Option Value} {base : Heap} (S : St.Src K mg "_law_train" s_law_train) (d_law_draw : St.Dfn P w K mg base "_law_draw" 1 ["_law_pen_here", "_law_bound"] (spD K 2 F_law_draw)) (d_law_whole : St.Dfn P w K mg base "_law_whole" 3 ["_law_pen_here", "_law_many"] (spD K 2 F_law_whole)) : St.Dfn P w K mg base "_law_train" 4 ["_law_pen_here"] (spD K 1 F_law_train) := by
  refine dfn_ok (k := 3) S sc_law_train rfl (fun f fd F => F.binds fun _ _ _ _ _ _ us hl => match us, hl with | [_], _ => rfl) fun f cdv A outer s H E hr => ?_
  have hu := hu_room hr
  exact (dss_cons (ds_par (i := 1) (j := 2) rfl sc_law_train.nd rfl rfl (by decide) rfl rfl (de_op op_addD (DE.opd de_int) (DE.opd (de_call d_law_draw (hr.mono (by decide)) rfl (dos_cons (do_pk 0) (dos_cons (DE.opd de_int) dos_nil))))) (de_op op_addD (DE.opd de_int) (DE.opd (de_call d_law_draw (hr.mono (by decide)) rfl (dos_cons (do_pk 0) (dos_cons (DE.opd de_int) dos_nil))))))
        (dss_cons (ds_set 3 (de_ix ix_D (DE.opd (de_lst (dos_cons (DE.opd (de_op op_addD (DE.opd de_int) (DE.opd (de_call d_law_draw (hr.mono (by decide)) rfl (dos_cons (do_pk 0) (dos_cons (DE.opd de_int) dos_nil)))))) (dos_cons (DE.opd (de_op op_addD (DE.opd de_int) (DE.opd (de_call d_law_draw (hr.mono (by decide)) rfl (dos_cons (do_pk 0) (dos_cons (DE.opd de_int) dos_nil)))))) dos_nil)))) (DE.opd (de_call d_law_draw (hr.mono (by decide)) rfl (dos_cons (do_pk 0) (dos_cons (DE.opd de_int) dos_nil))))) sc_law_train.nd)
        (dss_one (ds_ret (de_tup (dos_cons (DE.opd (de_var 1)) (dos_cons (DE.opd (de_var 2)) (dos_cons (DE.opd (de_var 3)) (dos_cons (DE.opd (de_call d_law_whole (hr.mono (by decide)) rfl (dos_cons (do_pk 0) (dos_cons (do_pk 1) dos_nil)))) (dos_cons (DE.opd (de_call d_law_draw (hr.mono (by decide)) rfl (dos_cons (do_pk 0) (dos_cons (DE.opd de_int) dos_nil)))) (dos_cons (DE.opd (de_call d_law_draw (hr.mono (by decide)) rfl (dos_cons (do_pk 0) (dos_cons (DE.opd de_int) dos_nil)))) dos_nil)))))))))))
/-! ### _law_first -/
/-! ### _law_share -/
def b_law_share : Ex := (xSeq (xAsg 1 1 (eOp (o2 wAdd) [(.ex (eC (.int 1))), (.ex (eCall 2 F_law_draw [(.pk 0), (.ex (eC (.int 12)))]))]))
    (xRet (eCall 2 F_law_made [(.ex (eOp (o2 wAdd) [(.ex (eC (.int 1))), (.ex (eCall 2 F_law_draw [(.pk 0), (.pk 1)]))])), (.pk 1)])))
def F_law_share : Fn := runFn 2 b_law_share
theorem sc_law_share : FnScope ["_law_pen_here", "_law_bottom"] ["_law_pen_here"] (defScope s_law_share) := ⟨rfl, rfl, rfl, by decide +kernel, rfl, by decide +kernel, by decide +kernel⟩
theorem d_law_share {P : Program} {w : World} {K : PySem.W.Frag} {mg : Str → Option Value} {base : Heap} (S : St.Src K mg "_law_share" s_law_share) (d_law_draw : St.Dfn P w K mg base "_law_draw" 1 ["_law_pen_here", "_law_bound"] (spD K 2 F_law_draw)) (d_law_made : St.Dfn P w K mg base "_law_made" 2 ["_law_top", "_law_bottom"] (spD K 2 F_law_made)) : St.Dfn P w K mg base "_law_share" 3 ["_law_pen_here"] (spD K 1 F_law_share) := by
  refine dfn_ok (k := 2) S sc_law_share rfl (fun f fd F => F.binds fun _ _ _ _ _ _ us hl => match us, hl with | [_], _ => rfl) fun f cdv A outer s H E hr => ?_
  have hu := hu_room hr
  exact (dss_cons (ds_set 1 (de_op op_addD (DE.opd de_int) (DE.opd (de_call d_law_draw (hr.mono (by decide)) rfl (dos_cons (do_pk 0) (dos_cons (DE.opd de_int) dos_nil))))) sc_law_share.nd)
        (dss_one (ds_ret (de_call d_law_made (hr.mono (by decide)) rfl (dos_cons (DE.opd (de_op op_addD (DE.opd de_int) (DE.opd (de_call d_law_draw (hr.mono (by decide)) rfl (dos_cons (do_pk 0) (dos_cons (do_pk 1) dos_nil)))))) (dos_cons (do_pk 1) dos_nil))))))
/-! ### _law_worths -/
def b_law_worths : Ex := (xRet (eOp (o1 wTuple) [(.ex (eComp [0] 1 (sRng [(.pk 1)]) (tNm 1 1) eTrue (eOp (o2 wAdd) [(.ex (eC (.int 1))), (.ex (eOp (o2 wIx) [(.ex (eOp wLst [(.ex (eCall 2 F_law_draw [(.pk 0), (.ex (eC (.int 3)))])), (.ex (eCall 2 F_law_draw [(.pk 0), (.ex (eC (.int 99)))]))])), (.ex (eCall 2 F_law_draw [(.pk 0), (.ex (eC (.int 2)))]))]))])))]))
def F_law_worths : Fn := runFn 2 b_law_worths
theorem sc_law_worths : FnScope ["_law_pen_here", "_law_many"] ["_law_pen_here", "_law_many"] (defScope s_law_worths) := ⟨rfl, rfl, rfl, by decide +kernel, rfl, by decide +kernel, by decide +kernel⟩
theorem cs_law_worths_0 : CompScope ["_law_pen_here", "_law_many"] (defScope s_law_worths) ["_law_pen_here", "_law_one"] (ixC [0] 1) (scOf s_law_worths 0) := ⟨rfl, by decide +kernel, by decide +kernel, by decide +kernel, by decide +kernel⟩
theorem nd_law_worths_0 : (["_law_pen_here", "_law_one"] : List Str).Nodup := by decide +kernel
theorem d_law_worths {P : Program} {w : World} {K : PySem.W.Frag} {mg : Str → Option Value} {base : Heap} (S : St.Src K mg "_law_worths" s_law_worths) (B : Bts mg) (d_law_draw : St.Dfn P w K mg base "_law_draw" 1 ["_law_pen_here", "_law_bound"] (spD K 2 F_law_draw)) : St.Dfn P w K mg base "_law_worths" 2 ["_law_pen_here", "_law_many"] (spD K 2 F_law_worths) := by
  refine dfn_ok (k := 1) S sc_law_worths rfl (fun f fd F => F.binds fun _ _ _ _ _ _ us hl => match us, hl with | [_, _], _ => rfl) fun f cdv A outer s H E hr => ?_
  have hu := hu_room hr
  exact (dss_one (ds_ret (de_callTy call_tupleD rfl B.tuple boot_tuple (dos_cons (DE.opd (de_comp [0] 1 ["_law_pen_here", "_law_one"] rfl cs_law_worths_0 (di_rng1 rfl B.range (dos_cons (do_pk 1) dos_nil)) (fun s H fp => ⟨(dg_nm 1 nd_law_worths_0), dts_nil, (de_op op_addD (DE.opd de_int) (DE.opd (de_ix ix_D (DE.opd (de_lst (dos_cons (DE.opd (de_call d_law_draw (hr.mono (by decide)) rfl (dos_cons (do_pk 0) (dos_cons (DE.opd de_int) dos_nil)))) (dos_cons (DE.opd (de_call d_law_draw (hr.mono (by decide)) rfl (dos_cons (do_pk 0) (dos_cons (DE.opd de_int) dos_nil)))) dos_nil)))) (DE.opd (de_call d_law_draw (hr.mono (by decide)) rfl (dos_cons (do_pk 0) (dos_cons (DE.opd de_int) dos_nil)))))))⟩))) dos_nil))))
/-! ### _law_thing -/
def b_law_thing (rec : Fn) : Ex := (xSeq (xAsg 2 2 (eCall 2 F_law_draw [(.pk 0), (.ex (eC (.int 12)))]))
    (xSeq (xIf (eOr (eOp (o2 wLt) [(.pk 2), (.ex (eC (.int 8)))]) (eOp (o2 wEq) [(.pk 1), (.ex (eC (.int 0)))])) (xRet (eOp (o2 wIx) [(.ex (eOp wLst [(.ex (eC .non)), (.ex (eC (.bl true))), (.ex (eC (.bl false))), (.ex (eC (.int 0))), (.ex (eC (.int 1))), (.ex (eOp (o1 wNeg) [(.ex (eC (.int 1)))])), (.ex (eC (.int 9))), (.ex (eOp (o2 wPow) [(.ex (eC (.int 10))), (.ex (eC (.int 39)))])), (.ex (eC (.str ""))), (.ex (eC (.str "a"))), (.ex (eOp wTup [])), (.ex (eOp wLst []))])), (.ex (eCall 2 F_law_draw [(.pk 0), (.ex (eC (.int 12)))]))])) xNil)
    (xSeq (xAsg 2 3 (eComp [0, 1] 1 (sRng [(.ex (eCall 2 F_law_draw [(.pk 0), (.ex (eC (.int 4)))]))]) (tNm 2 2) eTrue (eCall 2 rec [(.pk 0), (.ex (eOp (o2 wSub) [(.pk 1), (.ex (eC (.int 1)))]))])))
    (xSeq (xIf (eOp (o2 wEq) [(.pk 2), (.ex (eC (.int 8)))]) (xRetV 2 3) xNil)
    (xSeq (xIf (eOp (o2 wEq) [(.pk 2), (.ex (eC (.int 9)))]) (xRet (eDict [("a", .nam 3)])) xNil)
    (xRet (eOp (o1 wTuple) [(.pk 3)])))))))
def F_law_thing : Nat → Fn
  | 0 => fun _ => none
  | n + 1 => runFn 4 (b_law_thing (F_law_thing n))
theorem sc_law_thing : FnScope ["_law_pen_here", "_law_deep", "_law_way", "_law_parts"] ["_law_pen_here", "_law_deep"] (defScope s_law_thing) := ⟨rfl, rfl, rfl, by decide +kernel, rfl, by decide +kernel, by decide +kernel⟩
theorem cs_law_thing_0 : CompScope ["_law_pen_here", "_law_deep", "_law_way", "_law_parts"] (defScope s_law_thing) ["_law_pen_here", "_law_deep", "_law_k"] (ixC [0, 1] 1) (scOf s_law_thing 0) := ⟨rfl, by decide +kernel, by decide +kernel, by decide +kernel, by decide +kernel⟩
theorem nd_law_thing_0 : (["_law_pen_here", "_law_deep", "_law_k"] : List Str).Nodup := by decide +kernel
theorem d_law_thing {P : Program} {w : World} {K : PySem.W.Frag} {mg : Str → Option Value} {base : Heap} (S : St.Src K mg "_law_thing" s_law_thing) (B : Bts mg) (d_law_draw : St.Dfn P w K mg base "_law_draw" 1 ["_law_pen_here", "_law_bound"] (spD K 2 F_law_draw)) : ∀ n : Nat, n ≤ 8 → St.Dfn P w K mg base "_law_thing" (2 + n) ["_law_pen_here", "_law_deep"] (spD K 2 (F_law_thing n))
  | 0, _ => dfn_none S (fun f fd F => F.binds fun _ _ _ _ _ _ us hl => match us, hl with | [_, _], _ => rfl)
  | n + 1, hn => by
    have d_law_thing := d_law_thing S B d_law_draw n (by omega)
    refine dfn_ok (k := 2 + n) S sc_law_thing rfl (fun f fd F => F.binds fun _ _ _ _ _ _ us hl => match us, hl with | [_, _], _ => rfl) fun f cdv A outer s H E hr => ?_
    have hu := hu_room hr
    exact (dss_cons (ds_set 2 (de_call d_law_draw (hr.mono (by omega)) rfl (dos_cons (do_pk 0) (dos_cons (DE.opd de_int) dos_nil))) sc_law_thing.nd)
        (dss_cons (ds_if (DW.dt (dw_or (dt_cmp op_ltD (do_pk 2) (DE.opd de_int)) (dw_or1 (dt_cmp (op_eqD hu) (do_pk 1) (DE.opd de_int))))) (dss_one (ds_ret (de_ix ix_D (DE.opd (de_lst (dos_cons (DE.opd de_non) (dos_cons (DE.opd de_bl) (dos_cons (DE.opd de_bl) (dos_cons (DE.opd de_int) (dos_cons (DE.opd de_int) (dos_cons (DE.opd (de_un un_negD (DE.opd de_int))) (dos_cons (DE.opd de_int) (dos_cons (DE.opd (de_op op_powD (DE.opd de_int) (DE.opd de_int))) (dos_cons (DE.opd de_str) (dos_cons (DE.opd de_str) (dos_cons (DE.opd (de_tup dos_nil)) (dos_cons (DE.opd (de_lst dos_nil)) dos_nil)))))))))))))) (DE.opd (de_call d_law_draw (hr.mono (by omega)) rfl (dos_cons (do_pk 0) (dos_cons (DE.opd de_int) dos_nil))))))) dss_nil)
        (dss_cons (ds_setcomp [0, 1] 1 ["_law_pen_here", "_law_deep", "_law_k"] rfl sc_law_thing.nd rfl rfl cs_law_thing_0 (di_rng1 rfl B.range (dos_cons (DE.opd (de_call d_law_draw (hr.mono (by omega)) rfl (dos_cons (do_pk 0) (dos_cons (DE.opd de_int) dos_nil)))) dos_nil)) (fun s H fp => ⟨(dg_nm 2 nd_law_thing_0), dts_nil, (de_call d_law_thing (hr.mono (by omega)) rfl (dos_cons (do_pk 0) (dos_cons (DE.opd (de_op op_subD (do_pk 1) (DE.opd de_int))) dos_nil)))⟩))
        (dss_cons (ds_if (dt_cmp (op_eqD hu) (do_pk 2) (DE.opd de_int)) (dss_one (ds_retV 3)) dss_nil)
        (dss_cons (ds_if (dt_cmp (op_eqD hu) (do_pk 2) (DE.opd de_int)) (dss_one (ds_ret (de_dct (DIt.nam (pv 3) DIt.nil) (List.cons_ne_nil _ _) (by decide)))) dss_nil)
        (dss_one (ds_ret (de_callTy call_tupleD rfl B.tuple boot_tuple (dos_cons (do_pk 3) dos_nil)))))))))
/-! ### _law_spoilt -/
def b_law_spoilt (rec : Fn) : Ex := (xSeq (xIf (eAnd (eOp (o2 wIsi) [(.pk 1), (.ex (eC (.ty "tuple")))]) (eAnd (eOp (o2 wNe) [(.pk 1), (.ex (eOp wTup []))]) (eOp (o2 wGt) [(.ex (eCall 2 F_law_draw [(.pk 0), (.ex (eC (.int 6)))])), (.ex (eC (.int 0)))]))) (xSeq (xAsg 2 2 (eCall 2 F_law_draw [(.pk 0), (.ex (eOp (o1 wLen) [(.pk 1)]))]))
    (xRet (eOp (o2 wAdd) [(.ex (eOp (o2 wAdd) [(.ex (eOp (wSlN false true) [(.pk 1), (.pk 2)])), (.ex (eOp wTup [(.ex (eCall 2 rec [(.pk 0), (.ex (eOp (o2 wIx) [(.pk 1), (.pk 2)]))]))]))])), (.ex (eOp (wSlN true false) [(.pk 1), (.ex (eOp (o2 wAdd) [(.pk 2), (.ex (eC (.int 1)))]))]))]))) xNil)
    (xSeq (xAsg 2 3 (eCall 2 F_law_draw [(.pk 0), (.ex (eC (.int 8)))]))
    (xSeq (xIf (eAnd (eOp (o2 wIsi) [(.pk 1), (.ex (eC (.ty "tuple")))]) (eOp (o2 wLt) [(.pk 3), (.ex (eC (.int 4)))])) (xRet (eOp (o2 wIx) [(.ex (eOp wLst [(.ex (eOp (o2 wAdd) [(.pk 1), (.ex (eOp (wSlN true false) [(.pk 1), (.ex (eOp (o1 wNeg) [(.ex (eC (.int 1)))]))]))])), (.ex (eOp (wSlN false true) [(.pk 1), (.ex (eOp (o1 wNeg) [(.ex (eC (.int 1)))]))])), (.ex (eOp (o1 wList) [(.pk 1)])), (.ex (eOp (o1 wRev) [(.pk 1)]))])), (.pk 3)])) xNil)
    (xSeq (xIf (eAnd (eOp (o2 wIsi) [(.pk 1), (.ex (eC (.ty "int")))]) (eOp (o2 wLt) [(.pk 3), (.ex (eC (.int 4)))])) (xRet (eOp (o2 wIx) [(.ex (eOp wLst [(.ex (eOp (o2 wAdd) [(.pk 1), (.ex (eC (.int 1)))])), (.ex (eOp (o2 wSub) [(.pk 1), (.ex (eC (.int 1)))])), (.ex (eOp (o2 wGt) [(.pk 1), (.ex (eC (.int 0)))])), (.ex (eOp (o1 wStr) [(.pk 1)]))])), (.pk 3)])) xNil)
    (xSeq (xIf (eAnd (eOp (o2 wIsi) [(.pk 1), (.ex (eC (.ty "str")))]) (eOp (o2 wLt) [(.pk 3), (.ex (eC (.int 4)))])) (xRet (eOp (o2 wIx) [(.ex (eOp wLst [(.ex (eOp (o2 wAdd) [(.pk 1), (.ex (eC (.str "a")))])), (.ex (eOp (o1 wUp) [(.pk 1)])), (.ex (eOp (wSlN false true) [(.pk 1), (.ex (eOp (o1 wNeg) [(.ex (eC (.int 1)))]))])), (.ex (eOp (o2 wAdd) [(.ex (eC (.str "1"))), (.pk 1)]))])), (.pk 3)])) xNil)
    (xRet (eCall 2 (F_law_thing 8) [(.pk 0), (.ex (eC (.int 2)))])))))))
def F_law_spoilt : Nat → Fn
  | 0 => fun _ => none
  | n + 1 => runFn 4 (b_law_spoilt (F_law_spoilt n))
theorem sc_law_spoilt : FnScope ["_law_pen_here", "_law_thing_here", "_law_at", "_law_way"] ["_law_pen_here", "_law_thing_here"] (defScope s_law_spoilt) := ⟨rfl, rfl, rfl, by decide +kernel, rfl, by decide +kernel, by decide +kernel⟩
theorem d_law_spoilt {P : Program} {w : World} {K : PySem.W.Frag} {mg : Str → Option Value} {base : Heap} (S : St.Src K mg "_law_spoilt" s_law_spoilt) (B : Bts mg) (d_law_draw : St.Dfn P w K mg base "_law_draw" 1 ["_law_pen_here", "_law_bound"] (spD K 2 F_law_draw)) (d_law_thing : St.Dfn P w K mg base "_law_thing" 10 ["_law_pen_here", "_law_deep"] (spD K 2 (F_law_thing 8))) : ∀ n : Nat, n ≤ 8 → St.Dfn P w K mg base "_law_spoilt" (11 + n) ["_law_pen_here", "_law_thing_here"] (spD K 2 (F_law_spoilt n))
  | 0, _ => dfn_none S (fun f fd F => F.binds fun _ _ _ _ _ _ us hl => match us, hl with | [_, _], _ => rfl)
  | n + 1, hn => by
    have d_law_spoilt := d_law_spoilt S B d_law_draw d_law_thing n (by omega)
    refine dfn_ok (k := 11 + n) S sc_law_spoilt rfl (fun f fd F => F.binds fun _ _ _ _ _ _ us hl => match us, hl with | [_, _], _ => rfl) fun f cdv A outer s H E hr => ?_
    have hu := hu_room hr
    exact (dss_cons (ds_if (DW.dt (dw_and (dt_val (de_callB call_isiD rfl B.isi boot_isinstance (dos_cons (do_pk 1) (dos_cons (DE.opd (de_ty rfl B.tuple boot_tuple)) dos_nil)))) (dw_and (dt_cmp (op_neD hu) (do_pk 1) (DE.opd (de_tup dos_nil))) (dw_and1 (dt_cmp op_gtD (DE.opd (de_call d_law_draw (hr.mono (by omega)) rfl (dos_cons (do_pk 0) (dos_cons (DE.opd de_int) dos_nil)))) (DE.opd de_int)))))) (dss_cons (ds_set 2 (de_call d_law_draw (hr.mono (by omega)) rfl (dos_cons (do_pk 0) (dos_cons (DE.opd (de_callB call_lenD rfl B.len boot_len (dos_cons (do_pk 1) dos_nil))) dos_nil))) sc_law_spoilt.nd)
        (dss_one (ds_ret (de_op op_addD (DE.opd (de_op op_addD (DE.opd (de_sl01 (do_pk 1) (do_pk 2))) (DE.opd (de_tup (dos_cons (DE.opd (de_call d_law_spoilt (hr.mono (by omega)) rfl (dos_cons (do_pk 0) (dos_cons (DE.opd (de_ix ix_D (do_pk 1) (do_pk 2))) dos_nil)))) dos_nil))))) (DE.opd (de_sl10 (do_pk 1) (DE.opd (de_op op_addD (do_pk 2) (DE.opd de_int))))))))) dss_nil)
        (dss_cons (ds_set 3 (de_call d_law_draw (hr.mono (by omega)) rfl (dos_cons (do_pk 0) (dos_cons (DE.opd de_int) dos_nil))) sc_law_spoilt.nd)
        (dss_cons (ds_if (DW.dt (dw_and (dt_val (de_callB call_isiD rfl B.isi boot_isinstance (dos_cons (do_pk 1) (dos_cons (DE.opd (de_ty rfl B.tuple boot_tuple)) dos_nil)))) (dw_and1 (dt_cmp op_ltD (do_pk 3) (DE.opd de_int))))) (dss_one (ds_ret (de_ix ix_D (DE.opd (de_lst (dos_cons (DE.opd (de_op op_addD (do_pk 1) (DE.opd (de_sl10 (do_pk 1) (DE.opd (de_un un_negD (DE.opd de_int))))))) (dos_cons (DE.opd (de_sl01 (do_pk 1) (DE.opd (de_un un_negD (DE.opd de_int))))) (dos_cons (DE.opd (de_callTy call_listD rfl B.list boot_list (dos_cons (do_pk 1) dos_nil))) (dos_cons (DE.opd (de_rev (do_pk 1))) dos_nil)))))) (do_pk 3)))) dss_nil)
        (dss_cons (ds_if (DW.dt (dw_and (dt_val (de_callB call_isiD rfl B.isi boot_isinstance (dos_cons (do_pk 1) (dos_cons (DE.opd (de_ty rfl B.int boot_int)) dos_nil)))) (dw_and1 (dt_cmp op_ltD (do_pk 3) (DE.opd de_int))))) (dss_one (ds_ret (de_ix ix_D (DE.opd (de_lst (dos_cons (DE.opd (de_op op_addD (do_pk 1) (DE.opd de_int))) (dos_cons (DE.opd (de_op op_subD (do_pk 1) (DE.opd de_int))) (dos_cons (DE.opd (de_cmp op_gtD (do_pk 1) (DE.opd de_int))) (dos_cons (DE.opd (de_callTy call_strD rfl B.str boot_str (dos_cons (do_pk 1) dos_nil))) dos_nil)))))) (do_pk 3)))) dss_nil)
        (dss_cons (ds_if (DW.dt (dw_and (dt_val (de_callB call_isiD rfl B.isi boot_isinstance (dos_cons (do_pk 1) (dos_cons (DE.opd (de_ty rfl B.str boot_str)) dos_nil)))) (dw_and1 (dt_cmp op_ltD (do_pk 3) (DE.opd de_int))))) (dss_one (ds_ret (de_ix ix_D (DE.opd (de_lst (dos_cons (DE.opd (de_op op_addD (do_pk 1) (DE.opd de_str))) (dos_cons (DE.opd (de_upper (do_pk 1))) (dos_cons (DE.opd (de_sl01 (do_pk 1) (DE.opd (de_un un_negD (DE.opd de_int))))) (dos_cons (DE.opd (de_op op_addD (DE.opd de_str) (do_pk 1))) dos_nil)))))) (do_pk 3)))) dss_nil)
        (dss_one (ds_ret (de_call d_law_thing (hr.mono (by omega)) rfl (dos_cons (do_pk 0) (dos_cons (DE.opd de_int) dos_nil))))))))))
/-! ### _law_in -/
def b_law_in : Ex := (xSeq (xIf (eOr (eNot (eOp (o2 wIsi) [(.pk 0), (.ex (eC (.ty "int")))])) (eOp (o2 wIsi) [(.pk 0), (.ex (eC (.ty "bool")))])) (xRet (eC (.bl false))) xNil)
    (xRet (eAnd (eOp (o2 wLe) [(.pk 1), (.pk 0)]) (eOr (eOp (o2 (wIsN false)) [(.pk 2), (.ex (eC .non))]) (eOp (o2 wLe) [(.pk 0), (.pk 2)])))))
def F_law_in : Fn := runFn 3 b_law_in
theorem sc_law_in : FnScope ["_law_thing_here", "_law_low", "_law_high"] ["_law_thing_here", "_law_low", "_law_high"] (defScope s_law_in) := ⟨rfl, rfl, rfl, by decide +kernel, rfl, by decide +kernel, by decide +kernel⟩
theorem d_law_in {P : Program} {w : World} {K : PySem.W.Frag} {mg : Str → Option Value} {base : Heap} (S : St.Src K mg "_law_in" s_law_in) (B : Bts mg) : St.Dfn P w K mg base "_law_in" 1 ["_law_thing_here", "_law_low", "_law_high"] (spD K 3 F_law_in) := by
  refine dfn_ok (k := 0) S sc_law_in rfl (fun f fd F => F.binds fun _ _ _ _ _ _ us hl => match us, hl with | [_, _, _], _ => rfl) fun f cdv A outer s H E hr => ?_
  have hu := hu_room hr
  exact (dss_cons (ds_if (DW.dt (dw_or (dt_not (dt_val (de_callB call_isiD rfl B.isi boot_isinstance (dos_cons (do_pk 0) (dos_cons (DE.opd (de_ty rfl B.int boot_int)) dos_nil))))) (dw_or1 (dt_val (de_callB call_isiD rfl B.isi boot_isinstance (dos_cons (do_pk 0) (dos_cons (DE.opd (de_ty rfl B.bool boot_bool)) dos_nil))))))) (dss_one (ds_ret de_bl)) dss_nil)
        (dss_one (ds_ret (de_and (de_cmp op_leD (do_pk 1) (do_pk 0)) (de_one (de_or (de_cmp op_isND (do_pk 2) (DE.opd de_non)) (de_one (de_cmp op_leD (do_pk 0) (do_pk 2)))))))))
end Mi
end
section
set_option Elab.async false
set_option linter.all false
set_option maxRecDepth 100000
set_option maxHeartbeats 4000000
namespace Mi
open PySem PySem.Spec L2
open PyProof.Rows (boot_isinstance boot_int boot_bool boot_tuple boot_str boot_list boot_abs boot_all boot_any boot_sum boot_max boot_min boot_range boot_enumerate boot_zip boot_sorted boot_set boot_divmod)
/-! ### _law_is_amount -/
def b_law_is_amount : Ex := (xSeq (xIf (eOr (eNot (eOp (o2 wIsi) [(.pk 0), (.ex (eC (.ty "tuple")))])) (eOr (eOp (o2 wNe) [(.ex (eOp (o1 wLen) [(.pk 0)])), (.ex (eC (.int 2)))]) (eNot (eCall 3 F_law_in [(.ex (eOp (o2 wIx) [(.pk 0), (.ex (eC (.int 0)))])), (.ex (eC (.int 0))), (.ex (eC .non))])))) (xRet (eC (.bl false))) xNil)
    (xRet (eAnd (eCall 3 F_law_in [(.ex (eOp (o2 wIx) [(.pk 0), (.ex (eC (.int 1)))])), (.ex (eC (.int 1))), (.ex (eC .non))]) (eOp (o2 wEq) [(.ex (eCall 2 F_law_common [(.ex (eOp (o2 wIx) [(.pk 0), (.ex (eC (.int 0)))])), (.ex (eOp (o2 wIx) [(.pk 0), (.ex (eC (.int 1)))]))])), (.ex (eC (.int 1)))]))))
def F_law_is_amount : Fn := runFn 1 b_law_is_amount
theorem sc_law_is_amount : FnScope ["_law_thing_here"] ["_law_thing_here"] (defScope s_law_is_amount) := ⟨rfl, rfl, rfl, by decide +kernel, rfl, by decide +kernel, by decide +kernel⟩
theorem d_law_is_amount {P : Program} {w : World} {K : PySem.W.Frag} {mg : Str → Option Value} {base : Heap} (S : St.Src K mg "_law_is_amount" s_law_is_amount) (B : Bts mg) (d_law_common : St.Dfn P w K mg base "_law_common" 1 ["_law_one", "_law_other"] (spD K 2 F_law_common)) (d_law_in : St.Dfn P w K mg base "_law_in" 1 ["_law_thing_here", "_law_low", "_law_high"] (spD K 3 F_law_in)) : St.Dfn P w K mg base "_law_is_amount" 2 ["_law_thing_here"] (spD K 1 F_law_is_amount) := by
  refine dfn_ok (k := 1) S sc_law_is_amount rfl (fun f fd F => F.binds fun _ _ _ _ _ _ us hl => match us, hl with | [_], _ => rfl) fun f cdv A outer s H E hr => ?_
  have hu := hu_room hr
  exact (dss_cons (ds_if (DW.dt (dw_or (dt_not (dt_val (de_callB call_isiD rfl B.isi boot_isinstance (dos_cons (do_pk 0) (dos_cons (DE.opd (de_ty rfl B.tuple boot_tuple)) dos_nil))))) (dw_or (dt_cmp (op_neD hu) (DE.opd (de_callB call_lenD rfl B.len boot_len (dos_cons (do_pk 0) dos_nil))) (DE.opd de_int)) (dw_or1 (dt_not (dt_val (de_call d_law_in (hr.mono (by decide)) rfl (dos_cons (DE.opd (de_ix ix_D (do_pk 0) (DE.opd de_int))) (dos_cons (DE.opd de_int) (dos_cons (DE.opd de_non) dos_nil)))))))))) (dss_one (ds_ret de_bl)) dss_nil)
        (dss_one (ds_ret (de_and (de_call d_law_in (hr.mono (by decide)) rfl (dos_cons (DE.opd (de_ix ix_D (do_pk 0) (DE.opd de_int))) (dos_cons (DE.opd de_int) (dos_cons (DE.opd de_non) dos_nil)))) (de_one (de_cmp (op_eqD hu) (DE.opd (de_call d_law_common (hr.mono (by decide)) rfl (dos_cons (DE.opd (de_ix ix_D (do_pk 0) (DE.opd de_int))) (dos_cons (DE.opd (de_ix ix_D (do_pk 0) (DE.opd de_int))) dos_nil)))) (DE.opd de_int)))))))
/-! ### _law_is_share -/
def b_law_is_share : Ex := (xRet (eAnd (eCall 1 F_law_is_amount [(.pk 0)]) (eOp (o2 wLe) [(.ex (eOp (o2 wIx) [(.pk 0), (.ex (eC (.int 0)))])), (.ex (eOp (o2 wIx) [(.pk 0), (.ex (eC (.int 1)))]))])))
def F_law_is_share : Fn := runFn 1 b_law_is_share
theorem sc_law_is_share : FnScope ["_law_thing_here"] ["_law_thing_here"] (defScope s_law_is_share) := ⟨rfl, rfl, rfl, by decide +kernel, rfl, by decide +kernel, by decide +kernel⟩
theorem d_law_is_share {P : Program} {w : World} {K : PySem.W.Frag} {mg : Str → Option Value} {base : Heap} (S : St.Src K mg "_law_is_share" s_law_is_share) (d_law_is_amount : St.Dfn P w K mg base "_law_is_amount" 2 ["_law_thing_here"] (spD K 1 F_law_is_amount)) : St.Dfn P w K mg base "_law_is_share" 3 ["_law_thing_here"] (spD K 1 F_law_is_share) := by
  refine dfn_ok (k := 2) S sc_law_is_share rfl (fun f fd F => F.binds fun _ _ _ _ _ _ us hl => match us, hl with | [_], _ => rfl) fun f cdv A outer s H E hr => ?_
  have hu := hu_room hr
  exact (dss_one (ds_ret (de_and (de_call d_law_is_amount (hr.mono (by decide)) rfl (dos_cons (do_pk 0) dos_nil)) (de_one (de_cmp op_leD (DE.opd (de_ix ix_D (do_pk 0) (DE.opd de_int))) (DE.opd (de_ix ix_D (do_pk 0) (DE.opd de_int))))))))
/-! ### _law_are_shares -/
def b_law_are_shares : Ex := (xSeq (xIf (eOr (eNot (eOp (o2 wIsi) [(.pk 0), (.ex (eC (.ty "tuple")))])) (eOr (eOp (o2 wNe) [(.ex (eOp (o1 wLen) [(.pk 0)])), (.pk 1)]) (eNot (eOp (o1 wAll) [(.ex (eComp [] 1 (sAny (eV 0)) (tNm 0 0) eTrue (eCall 1 F_law_is_share [(.pk 0)])))])))) (xRet (eC (.bl false))) xNil)
    (xRet (eOp (o2 wEq) [(.ex (eCall 1 F_law_sum [(.pk 0)])), (.ex (eOp wTup [(.ex (eC (.int 1))), (.ex (eC (.int 1)))]))])))
def F_law_are_shares : Fn := runFn 2 b_law_are_shares
theorem sc_law_are_shares : FnScope ["_law_thing_here", "_law_many"] ["_law_thing_here", "_law_many"] (defScope s_law_are_shares) := ⟨rfl, rfl, rfl, by decide +kernel, rfl, by decide +kernel, by decide +kernel⟩
theorem cs_law_are_shares_0 : CompScope ["_law_thing_here", "_law_many"] (defScope s_law_are_shares) ["_law_one"] (ixC [] 1) (scOf s_law_are_shares 0) := ⟨rfl, by decide +kernel, by decide +kernel, by decide +kernel, by decide +kernel⟩
theorem nd_law_are_shares_0 : (["_law_one"] : List Str).Nodup := by decide +kernel
theorem d_law_are_shares {P : Program} {w : World} {K : PySem.W.Frag} {mg : Str → Option Value} {base : Heap} (S : St.Src K mg "_law_are_shares" s_law_are_shares) (B : Bts mg) (d_law_sum : St.Dfn P w K mg base "_law_sum" 4 ["_law_some"] (spD K 1 F_law_sum)) (d_law_is_share : St.Dfn P w K mg base "_law_is_share" 3 ["_law_thing_here"] (spD K 1 F_law_is_share)) : St.Dfn P w K mg base "_law_are_shares" 5 ["_law_thing_here", "_law_many"] (spD K 2 F_law_are_shares) := by
  refine dfn_ok (k := 4) S sc_law_are_shares rfl (fun f fd F => F.binds fun _ _ _ _ _ _ us hl => match us, hl with | [_, _], _ => rfl) fun f cdv A outer s H E hr => ?_
  have hu := hu_room hr
  exact (dss_cons (ds_if (DW.dt (dw_or (dt_not (dt_val (de_callB call_isiD rfl B.isi boot_isinstance (dos_cons (do_pk 0) (dos_cons (DE.opd (de_ty rfl B.tuple boot_tuple)) dos_nil))))) (dw_or (dt_cmp (op_neD hu) (DE.opd (de_callB call_lenD rfl B.len boot_len (dos_cons (do_pk 0) dos_nil))) (do_pk 1)) (dw_or1 (dt_not (dt_val (de_callB (call_allD rfl) rfl B.all boot_all (dos_cons (DE.opd (de_comp [] 1 ["_law_one"] rfl cs_law_are_shares_0 (di_any (de_var 0)) (fun s H fp => ⟨(dg_nm 0 nd_law_are_shares_0), dts_nil, (de_call d_law_is_share (hr.mono (by decide)) rfl (dos_cons (do_pk 0) dos_nil))⟩))) dos_nil)))))))) (dss_one (ds_ret de_bl)) dss_nil)
        (dss_one (ds_ret (de_cmp (op_eqD hu) (DE.opd (de_call d_law_sum (hr.mono (by decide)) rfl (dos_cons (do_pk 0) dos_nil))) (DE.opd (de_tup (dos_cons (DE.opd de_int) (dos_cons (DE.opd de_int) dos_nil))))))))
/-! ### _law_is_train -/
/-! ### _law_is_load -/
def b_law_is_load : Ex := (xSeq (xIf (eOr (eNot (eOp (o2 wIsi) [(.pk 1), (.ex (eC (.ty "tuple")))])) (eOr (eOp (o2 wNe) [(.ex (eOp (o1 wLen) [(.pk 1)])), (.ex (eC (.int 3)))]) (eNot (eCall 3 F_law_in [(.ex (eOp (o2 wIx) [(.pk 1), (.ex (eC (.int 0)))])), (.ex (eC (.int 0))), (.ex (eOp (o2 wSub) [(.ex (eOp (o2 wIx) [(.pk 0), (.ex (eC (.int 1)))])), (.ex (eC (.int 1)))]))])))) (xRet (eC (.bl false))) xNil)
    (xRet (eAnd (eCall 3 F_law_in [(.ex (eOp (o2 wIx) [(.pk 1), (.ex (eC (.int 1)))])), (.ex (eC (.int 0))), (.ex (eC .non))]) (eCall 2 F_law_are_shares [(.ex (eOp (o2 wIx) [(.pk 1), (.ex (eC (.int 2)))])), (.ex (eOp (o2 wIx) [(.pk 0), (.ex (eC (.int 0)))]))]))))
def F_law_is_load : Fn := runFn 2 b_law_is_load
theorem sc_law_is_load : FnScope ["_law_train_here", "_law_thing_here"] ["_law_train_here", "_law_thing_here"] (defScope s_law_is_load) := ⟨rfl, rfl, rfl, by decide +kernel, rfl, by decide +kernel, by decide +kernel⟩
theorem d_law_is_load {P : Program} {w : World} {K : PySem.W.Frag} {mg : Str → Option Value} {base : Heap} (S : St.Src K mg "_law_is_load" s_law_is_load) (B : Bts mg) (d_law_in : St.Dfn P w K mg base "_law_in" 1 ["_law_thing_here", "_law_low", "_law_high"] (spD K 3 F_law_in)) (d_law_are_shares : St.Dfn P w K mg base "_law_are_shares" 5 ["_law_thing_here", "_law_many"] (spD K 2 F_law_are_shares)) : St.Dfn P w K mg base "_law_is_load" 6 ["_law_train_here", "_law_thing_here"] (spD K 2 F_law_is_load) := by
  refine dfn_ok (k := 5) S sc_law_is_load rfl (fun f fd F => F.binds fun _ _ _ _ _ _ us hl => match us, hl with | [_, _], _ => rfl) fun f cdv A outer s H E hr => ?_
  have hu := hu_room hr
  exact (dss_cons (ds_if (DW.dt (dw_or (dt_not (dt_val (de_callB call_isiD rfl B.isi boot_isinstance (dos_cons (do_pk 1) (dos_cons (DE.opd (de_ty rfl B.tuple boot_tuple)) dos_nil))))) (dw_or (dt_cmp (op_neD hu) (DE.opd (de_callB call_lenD rfl B.len boot_len (dos_cons (do_pk 1) dos_nil))) (DE.opd de_int)) (dw_or1 (dt_not (dt_val (de_call d_law_in (hr.mono (by decide)) rfl (dos_cons (DE.opd (de_ix ix_D (do_pk 1) (DE.opd de_int))) (dos_cons (DE.opd de_int) (dos_cons (DE.opd (de_op op_subD (DE.opd (de_ix ix_D (do_pk 0) (DE.opd de_int))) (DE.opd de_int))) dos_nil)))))))))) (dss_one (ds_ret de_bl)) dss_nil)
        (dss_one (ds_ret (de_and (de_call d_law_in (hr.mono (by decide)) rfl (dos_cons (DE.opd (de_ix ix_D (do_pk 1) (DE.opd de_int))) (dos_cons (DE.opd de_int) (dos_cons (DE.opd de_non) dos_nil)))) (de_one (de_call d_law_are_shares (hr.mono (by decide)) rfl (dos_cons (DE.opd (de_ix ix_D (do_pk 1) (DE.opd de_int))) (dos_cons (DE.opd (de_ix ix_D (do_pk 0) (DE.opd de_int))) dos_nil))))))))
/-! ### _law_are_worths -/
def b_law_are_worths : Ex := (xRet (eAnd (eOp (o2 wIsi) [(.pk 0), (.ex (eC (.ty "tuple")))]) (eAnd (eOp (o2 wEq) [(.ex (eOp (o1 wLen) [(.pk 0)])), (.pk 1)]) (eOp (o1 wAll) [(.ex (eComp [] 1 (sAny (eV 0)) (tNm 0 0) eTrue (eCall 3 F_law_in [(.pk 0), (.ex (eC (.int 1))), (.ex (eC (.int 99)))])))]))))
def F_law_are_worths : Fn := runFn 2 b_law_are_worths
theorem sc_law_are_worths : FnScope ["_law_thing_here", "_law_many"] ["_law_thing_here", "_law_many"] (defScope s_law_are_worths) := ⟨rfl, rfl, rfl, by decide +kernel, rfl, by decide +kernel, by decide +kernel⟩
theorem cs_law_are_worths_0 : CompScope ["_law_thing_here", "_law_many"] (defScope s_law_are_worths) ["_law_one"] (ixC [] 1) (scOf s_law_are_worths 0) := ⟨rfl, by decide +kernel, by decide +kernel, by decide +kernel, by decide +kernel⟩
theorem nd_law_are_worths_0 : (["_law_one"] : List Str).Nodup := by decide +kernel
theorem d_law_are_worths {P : Program} {w : World} {K : PySem.W.Frag} {mg : Str → Option Value} {base : Heap} (S : St.Src K mg "_law_are_worths" s_law_are_worths) (B : Bts mg) (d_law_in : St.Dfn P w K mg base "_law_in" 1 ["_law_thing_here", "_law_low", "_law_high"] (spD K 3 F_law_in)) : St.Dfn P w K mg base "_law_are_worths" 2 ["_law_thing_here", "_law_many"] (spD K 2 F_law_are_worths) := by
  refine dfn_ok (k := 1) S sc_law_are_worths rfl (fun f fd F => F.binds fun _ _ _ _ _ _ us hl => match us, hl with | [_, _], _ => rfl) fun f cdv A outer s H E hr => ?_
  have hu := hu_room hr
  exact (dss_one (ds_ret (de_and (de_callB call_isiD rfl B.isi boot_isinstance (dos_cons (do_pk 0) (dos_cons (DE.opd (de_ty rfl B.tuple boot_tuple)) dos_nil))) (de_and (de_cmp (op_eqD hu) (DE.opd (de_callB call_lenD rfl B.len boot_len (dos_cons (do_pk 0) dos_nil))) (do_pk 1)) (de_one (de_callB (call_allD rfl) rfl B.all boot_all (dos_cons (DE.opd (de_comp [] 1 ["_law_one"] rfl cs_law_are_worths_0 (di_any (de_var 0)) (fun s H fp => ⟨(dg_nm 0 nd_law_are_worths_0), dts_nil, (de_call d_law_in (hr.mono (by decide)) rfl (dos_cons (do_pk 0) (dos_cons (DE.opd de_int) (dos_cons (DE.opd de_int) dos_nil))))⟩))) dos_nil)))))))
/-! ### _law_is_sale -/
def b_law_is_sale : Ex := (xSeq (xIf (eOr (eNot (eCall 3 F_law_in [(.ex (eOp (o2 wIx) [(.pk 1), (.ex (eC (.int 0)))])), (.ex (eC (.int 0))), (.ex (eOp (o2 wSub) [(.ex (eOp (o2 wIx) [(.pk 0), (.ex (eC (.int 0)))])), (.ex (eC (.int 1)))]))])) (eOr (eNot (eCall 3 F_law_in [(.ex (eOp (o2 wIx) [(.pk 1), (.ex (eC (.int 1)))])), (.ex (eC (.int 0))), (.ex (eOp (o2 wSub) [(.ex (eOp (o2 wIx) [(.pk 0), (.ex (eC (.int 0)))])), (.ex (eC (.int 1)))]))])) (eOp (o2 wEq) [(.ex (eOp (o2 wIx) [(.pk 1), (.ex (eC (.int 0)))])), (.ex (eOp (o2 wIx) [(.pk 1), (.ex (eC (.int 1)))]))]))) (xRet (eC (.bl false))) xNil)
    (xRet (eAnd (eCall 1 F_law_is_share [(.ex (eOp (o2 wIx) [(.pk 1), (.ex (eC (.int 2)))]))]) (eAnd (eOp (o2 wGt) [(.ex (eOp (o2 wIx) [(.ex (eOp (o2 wIx) [(.pk 1), (.ex (eC (.int 2)))])), (.ex (eC (.int 0)))])), (.ex (eC (.int 0)))]) (eOp (o2 wLe) [(.ex (eOp (o2 wIx) [(.ex (eOp (o2 wIx) [(.pk 1), (.ex (eC (.int 2)))])), (.ex (eC (.int 1)))])), (.ex (eC (.int 12)))])))))
def F_law_is_sale : Fn := runFn 2 b_law_is_sale
theorem sc_law_is_sale : FnScope ["_law_train_here", "_law_things"] ["_law_train_here", "_law_things"] (defScope s_law_is_sale) := ⟨rfl, rfl, rfl, by decide +kernel, rfl, by decide +kernel, by decide +kernel⟩
theorem d_law_is_sale {P : Program} {w : World} {K : PySem.W.Frag} {mg : Str → Option Value} {base : Heap} (S : St.Src K mg "_law_is_sale" s_law_is_sale) (d_law_in : St.Dfn P w K mg base "_law_in" 1 ["_law_thing_here", "_law_low", "_law_high"] (spD K 3 F_law_in)) (d_law_is_share : St.Dfn P w K mg base "_law_is_share" 3 ["_law_thing_here"] (spD K 1 F_law_is_share)) : St.Dfn P w K mg base "_law_is_sale" 4 ["_law_train_here", "_law_things"] (spD K 2 F_law_is_sale) := by
  refine dfn_ok (k := 3) S sc_law_is_sale rfl (fun f fd F => F.binds fun _ _ _ _ _ _ us hl => match us, hl with | [_, _], _ => rfl) fun f cdv A outer s H E hr => ?_
  have hu := hu_room hr
  exact (dss_cons (ds_if (DW.dt (dw_or (dt_not (dt_val (de_call d_law_in (hr.mono (by decide)) rfl (dos_cons (DE.opd (de_ix ix_D (do_pk 1) (DE.opd de_int))) (dos_cons (DE.opd de_int) (dos_cons (DE.opd (de_op op_subD (DE.opd (de_ix ix_D (do_pk 0) (DE.opd de_int))) (DE.opd de_int))) dos_nil)))))) (dw_or (dt_not (dt_val (de_call d_law_in (hr.mono (by decide)) rfl (dos_cons (DE.opd (de_ix ix_D (do_pk 1) (DE.opd de_int))) (dos_cons (DE.opd de_int) (dos_cons (DE.opd (de_op op_subD (DE.opd (de_ix ix_D (do_pk 0) (DE.opd de_int))) (DE.opd de_int))) dos_nil)))))) (dw_or1 (dt_cmp (op_eqD hu) (DE.opd (de_ix ix_D (do_pk 1) (DE.opd de_int))) (DE.opd (de_ix ix_D (do_pk 1) (DE.opd de_int)))))))) (dss_one (ds_ret de_bl)) dss_nil)
        (dss_one (ds_ret (de_and (de_call d_law_is_share (hr.mono (by decide)) rfl (dos_cons (DE.opd (de_ix ix_D (do_pk 1) (DE.opd de_int))) dos_nil)) (de_and (de_cmp op_gtD (DE.opd (de_ix ix_D (DE.opd (de_ix ix_D (do_pk 1) (DE.opd de_int))) (DE.opd de_int))) (DE.opd de_int)) (de_one (de_cmp op_leD (DE.opd (de_ix ix_D (DE.opd (de_ix ix_D (do_pk 1) (DE.opd de_int))) (DE.opd de_int))) (DE.opd de_int))))))))
/-! ### _law_is_deed -/
def b_law_is_deed : Ex := (xSeq (xIf (eOr (eNot (eOp (o2 wIsi) [(.pk 1), (.ex (eC (.ty "tuple")))])) (eOr (eOp (o2 wLt) [(.ex (eOp (o1 wLen) [(.pk 1)])), (.ex (eC (.int 2)))]) (eNot (eOp (o2 wIsi) [(.ex (eOp (o2 wIx) [(.pk 1), (.ex (eC (.int 0)))])), (.ex (eC (.ty "str")))])))) (xRet (eC (.bl false))) xNil)
    (xSeq (xAsg 2 2 (eDict [("bring", .con (.int 3) (.int 3)), ("pool", .con (.int 2) (.int 2)), ("swap", .con (.int 4) (.int 4)), ("trade", .con (.int 5) (.int 5)), ("spoil", .con (.int 2) (.int 2)), ("throw", .con (.int 3) (.int 3)), ("sell", .con (.int 3) (.int 3))]))
    (xSeq (xIf (eOp (o2 wNe) [(.ex (eGet 2 (.ex (eOp (o2 wIx) [(.pk 1), (.ex (eC (.int 0)))])) (.ex (eC (.int 0))))), (.ex (eOp (o2 wSub) [(.ex (eOp (o1 wLen) [(.pk 1)])), (.ex (eC (.int 1)))]))]) (xRet (eC (.bl false))) xNil)
    (xSeq (xPar 2 3 4 (eOp (o2 wIx) [(.pk 1), (.ex (eC (.int 0)))]) (eOp (wSlN true false) [(.pk 1), (.ex (eC (.int 1)))]))
    (xSeq (xIf (eOp (o2 wEq) [(.pk 3), (.ex (eC (.str "sell")))]) (xRet (eCall 2 F_law_is_sale [(.pk 0), (.pk 4)])) xNil)
    (xSeq (xIf (eOp (o2 wEq) [(.pk 3), (.ex (eC (.str "bring")))]) (xSeq (xAsg 2 5 (eAnd (eCall 3 F_law_in [(.ex (eOp (o2 wIx) [(.pk 4), (.ex (eC (.int 0)))])), (.ex (eC (.int 0))), (.ex (eOp (o2 wSub) [(.ex (eOp (o2 wIx) [(.pk 0), (.ex (eC (.int 0)))])), (.ex (eC (.int 1)))]))]) (eCall 3 F_law_in [(.ex (eOp (o2 wIx) [(.pk 4), (.ex (eC (.int 1)))])), (.ex (eC (.int 0))), (.ex (eOp (o2 wSub) [(.ex (eOp (o2 wIx) [(.pk 0), (.ex (eC (.int 1)))])), (.ex (eC (.int 1)))]))])))
    (xRet (eAnd (eV 5) (eCall 3 F_law_in [(.ex (eOp (o2 wIx) [(.pk 4), (.ex (eC (.int 2)))])), (.ex (eC (.int 1))), (.ex (eC .non))])))) xNil)
    (xSeq (xIf (eOp (o2 wEq) [(.pk 3), (.ex (eC (.str "trade")))]) (xSeq (xIf (eNot (eCall 3 F_law_in [(.ex (eOp (o2 wIx) [(.pk 4), (.ex (eC (.int 0)))])), (.ex (eC (.int 0))), (.ex (eC (.int 9)))])) (xRet (eC (.bl false))) xNil)
    (xAsg 2 4 (eOp (wSlN true false) [(.pk 4), (.ex (eC (.int 1)))]))) xNil)
    (xSeq (xIf (eNot (eCall 3 F_law_in [(.ex (eOp (o2 wIx) [(.pk 4), (.ex (eC (.int 0)))])), (.ex (eC (.int 0))), (.ex (eC .non))])) (xRet (eC (.bl false))) xNil)
    (xSeq (xIf (eOp (o2 wEq) [(.pk 3), (.ex (eC (.str "pool")))]) (xRet (eAnd (eCall 3 F_law_in [(.ex (eOp (o2 wIx) [(.pk 4), (.ex (eC (.int 1)))])), (.ex (eC (.int 0))), (.ex (eC .non))]) (eOp (o2 wNe) [(.ex (eOp (o2 wIx) [(.pk 4), (.ex (eC (.int 0)))])), (.ex (eOp (o2 wIx) [(.pk 4), (.ex (eC (.int 1)))]))]))) xNil)
    (xSeq (xIf (eOp (o2 (wIn false)) [(.pk 3), (.ex (eOp wTup [(.ex (eC (.str "swap"))), (.ex (eC (.str "trade")))]))]) (xRet (eAnd (eCall 3 F_law_in [(.ex (eOp (o2 wIx) [(.pk 4), (.ex (eC (.int 1)))])), (.ex (eC (.int 1))), (.ex (eC .non))]) (eAnd (eCall 3 F_law_in [(.ex (eOp (o2 wIx) [(.pk 4), (.ex (eC (.int 2)))])), (.ex (eC (.int 0))), (.ex (eOp (o2 wSub) [(.ex (eOp (o2 wIx) [(.pk 0), (.ex (eC (.int 1)))])), (.ex (eC (.int 1)))]))]) (eCall 3 F_law_in [(.ex (eOp (o2 wIx) [(.pk 4), (.ex (eC (.int 3)))])), (.ex (eC (.int 1))), (.ex (eC .non))])))) xNil)
    (xRet (eAnd (eCall 3 F_law_in [(.ex (eOp (o2 wIx) [(.pk 4), (.ex (eC (.int 1)))])), (.ex (eC (.int 1))), (.ex (eC .non))]) (eOr (eOp (o2 wEq) [(.pk 3), (.ex (eC (.str "spoil")))]) (eCall 2 F_law_are_worths [(.ex (eOp (o2 wIx) [(.pk 4), (.ex (eC (.int 2)))])), (.ex (eOp (o2 wAdd) [(.ex (eOp (o2 wIx) [(.pk 0), (.ex (eC (.int 1)))])), (.ex (eC (.int 1)))]))]))))))))))))))
def F_law_is_deed : Fn := runFn 6 b_law_is_deed
theorem sc_law_is_deed : FnScope ["_law_train_here", "_law_thing_here", "_law_many", "_law_word", "_law_things", "_law_here"] ["_law_train_here", "_law_thing_here"] (defScope s_law_is_deed) := ⟨rfl, rfl, rfl, by decide +kernel, rfl, by decide +kernel, by decide +kernel⟩
theorem d_law_is_deed {P : Program} {w : World} {K : PySem.W.Frag} {mg : Str → Option Value} {base : Heap} (S : St.Src K mg "_law_is_deed" s_law_is_deed) (B : Bts mg) (d_law_in : St.Dfn P w K mg base "_law_in" 1 ["_law_thing_here", "_law_low", "_law_high"] (spD K 3 F_law_in)) (d_law_are_worths : St.Dfn P w K mg base "_law_are_worths" 2 ["_law_thing_here", "_law_many"] (spD K 2 F_law_are_worths)) (d_law_is_sale : St.Dfn P w K mg base "_law_is_sale" 4 ["_law_train_here", "_law_things"] (spD K 2 F_law_is_sale)) : St.Dfn P w K mg base "_law_is_deed" 5 ["_law_train_here", "_law_thing_here"] (spD K 2 F_law_is_deed) := by
  refine dfn_ok (k := 4) S sc_law_is_deed rfl (fun f fd F => F.binds fun _ _ _ _ _ _ us hl => match us, hl with | [_, _], _ => rfl) fun f cdv A outer s H E hr => ?_
  have hu := hu_room hr
  exact (dss_cons (ds_if (DW.dt (dw_or (dt_not (dt_val (de_callB call_isiD rfl B.isi boot_isinstance (dos_cons (do_pk 1) (dos_cons (DE.opd (de_ty rfl B.tuple boot_tuple)) dos_nil))))) (dw_or (dt_cmp op_ltD (DE.opd (de_callB call_lenD rfl B.len boot_len (dos_cons (do_pk 1) dos_nil))) (DE.opd de_int)) (dw_or1 (dt_not (dt_val (de_callB call_isiD rfl B.isi boot_isinstance (dos_cons (DE.opd (de_ix ix_D (do_pk 1) (DE.opd de_int))) (dos_cons (DE.opd (de_ty rfl B.str boot_str)) dos_nil))))))))) (dss_one (ds_ret de_bl)) dss_nil)
        (dss_cons (ds_set 2 (de_dct (DIt.int (DIt.int (DIt.int (DIt.int (DIt.int (DIt.int (DIt.int DIt.nil))))))) (List.cons_ne_nil _ _) (by decide)) sc_law_is_deed.nd)
        (dss_cons (ds_if (dt_cmp (op_neD hu) (DE.opd (de_get 2 hu (DE.opd (de_ix ix_D (do_pk 1) (DE.opd de_int))) (DE.opd de_int) ⟨rfl, rfl, rfl, rfl⟩)) (DE.opd (de_op op_subD (DE.opd (de_callB call_lenD rfl B.len boot_len (dos_cons (do_pk 1) dos_nil))) (DE.opd de_int)))) (dss_one (ds_ret de_bl)) dss_nil)
        (dss_cons (ds_par (i := 3) (j := 4) rfl sc_law_is_deed.nd rfl rfl (by decide) rfl rfl (de_ix ix_D (do_pk 1) (DE.opd de_int)) (de_sl10 (do_pk 1) (DE.opd de_int)))
        (dss_cons (ds_if (dt_cmp (op_eqD hu) (do_pk 3) (DE.opd de_str)) (dss_one (ds_ret (de_call d_law_is_sale (hr.mono (by decide)) rfl (dos_cons (do_pk 0) (dos_cons (do_pk 4) dos_nil))))) dss_nil)
        (dss_cons (ds_if (dt_cmp (op_eqD hu) (do_pk 3) (DE.opd de_str)) (dss_cons (ds_set 5 (de_and (de_call d_law_in (hr.mono (by decide)) rfl (dos_cons (DE.opd (de_ix ix_D (do_pk 4) (DE.opd de_int))) (dos_cons (DE.opd de_int) (dos_cons (DE.opd (de_op op_subD (DE.opd (de_ix ix_D (do_pk 0) (DE.opd de_int))) (DE.opd de_int))) dos_nil)))) (de_one (de_call d_law_in (hr.mono (by decide)) rfl (dos_cons (DE.opd (de_ix ix_D (do_pk 4) (DE.opd de_int))) (dos_cons (DE.opd de_int) (dos_cons (DE.opd (de_op op_subD (DE.opd (de_ix ix_D (do_pk 0) (DE.opd de_int))) (DE.opd de_int))) dos_nil)))))) sc_law_is_deed.nd)
        (dss_one (ds_ret (de_and (de_var 5) (de_one (de_call d_law_in (hr.mono (by decide)) rfl (dos_cons (DE.opd (de_ix ix_D (do_pk 4) (DE.opd de_int))) (dos_cons (DE.opd de_int) (dos_cons (DE.opd de_non) dos_nil))))))))) dss_nil)
        (dss_cons (ds_if (dt_cmp (op_eqD hu) (do_pk 3) (DE.opd de_str)) (dss_cons (ds_if (dt_not (dt_val (de_call d_law_in (hr.mono (by decide)) rfl (dos_cons (DE.opd (de_ix ix_D (do_pk 4) (DE.opd de_int))) (dos_cons (DE.opd de_int) (dos_cons (DE.opd de_int) dos_nil)))))) (dss_one (ds_ret de_bl)) dss_nil)
        (dss_one (ds_set 4 (de_sl10 (do_pk 4) (DE.opd de_int)) sc_law_is_deed.nd))) dss_nil)
        (dss_cons (ds_if (dt_not (dt_val (de_call d_law_in (hr.mono (by decide)) rfl (dos_cons (DE.opd (de_ix ix_D (do_pk 4) (DE.opd de_int))) (dos_cons (DE.opd de_int) (dos_cons (DE.opd de_non) dos_nil)))))) (dss_one (ds_ret de_bl)) dss_nil)
        (dss_cons (ds_if (dt_cmp (op_eqD hu) (do_pk 3) (DE.opd de_str)) (dss_one (ds_ret (de_and (de_call d_law_in (hr.mono (by decide)) rfl (dos_cons (DE.opd (de_ix ix_D (do_pk 4) (DE.opd de_int))) (dos_cons (DE.opd de_int) (dos_cons (DE.opd de_non) dos_nil)))) (de_one (de_cmp (op_neD hu) (DE.opd (de_ix ix_D (do_pk 4) (DE.opd de_int))) (DE.opd (de_ix ix_D (do_pk 4) (DE.opd de_int)))))))) dss_nil)
        (dss_cons (ds_if (dt_cmp op_inD (do_pk 3) (DE.opd (de_tup (dos_cons (DE.opd de_str) (dos_cons (DE.opd de_str) dos_nil))))) (dss_one (ds_ret (de_and (de_call d_law_in (hr.mono (by decide)) rfl (dos_cons (DE.opd (de_ix ix_D (do_pk 4) (DE.opd de_int))) (dos_cons (DE.opd de_int) (dos_cons (DE.opd de_non) dos_nil)))) (de_and (de_call d_law_in (hr.mono (by decide)) rfl (dos_cons (DE.opd (de_ix ix_D (do_pk 4) (DE.opd de_int))) (dos_cons (DE.opd de_int) (dos_cons (DE.opd (de_op op_subD (DE.opd (de_ix ix_D (do_pk 0) (DE.opd de_int))) (DE.opd de_int))) dos_nil)))) (de_one (de_call d_law_in (hr.mono (by decide)) rfl (dos_cons (DE.opd (de_ix ix_D (do_pk 4) (DE.opd de_int))) (dos_cons (DE.opd de_int) (dos_cons (DE.opd de_non) dos_nil))))))))) dss_nil)
        (dss_one (ds_ret (de_and (de_call d_law_in (hr.mono (by decide)) rfl (dos_cons (DE.opd (de_ix ix_D (do_pk 4) (DE.opd de_int))) (dos_cons (DE.opd de_int) (dos_cons (DE.opd de_non) dos_nil)))) (de_one (de_or (de_cmp (op_eqD hu) (do_pk 3) (DE.opd de_str)) (de_one (de_call d_law_are_worths (hr.mono (by decide)) rfl (dos_cons (DE.opd (de_ix ix_D (do_pk 4) (DE.opd de_int))) (dos_cons (DE.opd (de_op op_addD (DE.opd (de_ix ix_D (do_pk 0) (DE.opd de_int))) (DE.opd de_int))) dos_nil)))))))))))))))))))
end Mi
end
section
set_option Elab.async false
set_option linter.all false
set_option maxRecDepth 100000
set_option maxHeartbeats 4000000
namespace Mi
open PySem PySem.Spec L2
open PyProof.Rows (boot_isinstance boot_int boot_bool boot_tuple boot_str boot_list boot_abs boot_all boot_any boot_sum boot_max boot_min boot_range boot_enumerate boot_zip boot_sorted boot_set boot_divmod)
/-! ### _law_deeds -/
def b_law_deeds : Ex := (xSeq (xPar 2 2 3 (eCall 2 F_law_draw [(.pk 0), (.ex (eC (.int 9)))]) (eCall 1 F_law_pieces [(.pk 0)]))
    (xSeq (xPar 2 4 5 (eCall 2 F_law_draw [(.pk 0), (.ex (eOp (o2 wIx) [(.pk 1), (.ex (eC (.int 1)))]))]) (eCall 2 F_law_draw [(.pk 0), (.ex (eOp (o2 wIx) [(.pk 1), (.ex (eC (.int 0)))]))]))
    (xSeq (xAsg 2 6 (eOp wLst [(.ex (eOp wTup [(.ex (eC (.str "bring"))), (.ex (eV 5)), (.ex (eV 4)), (.ex (eV 3))])), (.ex (eOp wTup [(.ex (eC (.str "pool"))), (.ex (eV 2)), (.ex (eOp (o2 wAdd) [(.pk 2), (.ex (eC (.int 1)))]))])), (.ex (eOp wTup [(.ex (eC (.str "swap"))), (.ex (eV 2)), (.ex (eC (.int 1))), (.ex (eV 4)), (.ex (eV 3))]))]))
    (xSeq (xAsg 2 6 (eOp (o2 wAdd) [(.pk 6), (.ex (eOp wLst [(.ex (eOp wTup [(.ex (eC (.str "trade"))), (.ex (eCall 2 F_law_draw [(.pk 0), (.ex (eC (.int 10)))])), (.ex (eV 2)), (.ex (eV 3)), (.ex (eV 4)), (.ex (eC (.int 2)))])), (.ex (eOp wTup [(.ex (eC (.str "spoil"))), (.ex (eV 2)), (.ex (eV 3))]))]))]))
    (xSeq (xApp 6 (eOp wTup [(.ex (eC (.str "throw"))), (.ex (eV 2)), (.ex (eV 3)), (.ex (eCall 2 F_law_worths [(.pk 0), (.ex (eOp (o2 wAdd) [(.ex (eOp (o2 wIx) [(.pk 1), (.ex (eC (.int 1)))])), (.ex (eC (.int 1)))]))]))]))
    (xSeq (xAsg 2 6 (eOp (o2 wAdd) [(.pk 6), (.ex (eOp wLst [(.ex (eOp wTup [(.ex (eC (.str "sell"))), (.ex (eC (.int 0))), (.ex (eC (.int 1))), (.ex (eOp wTup [(.ex (eC (.int 12))), (.ex (eC (.int 13)))]))])), (.ex (eOp wTup [(.ex (eC (.str "sell"))), (.ex (eC (.int 1))), (.ex (eC (.int 0))), (.ex (eOp wTup [(.ex (eC (.int 0))), (.ex (eC (.int 1)))]))]))]))]))
    (xRet (eOp (o2 wAdd) [(.pk 6), (.ex (eOp wLst [(.ex (eOp wTup [(.ex (eC (.str "sell"))), (.ex (eV 5)), (.ex (eOp (o2 wMod) [(.ex (eOp (o2 wAdd) [(.pk 5), (.ex (eC (.int 1)))])), (.ex (eC (.int 4)))])), (.ex (eCall 1 F_law_share [(.pk 0)]))]))]))]))))))))
def F_law_deeds : Fn := runFn 7 b_law_deeds
theorem sc_law_deeds : FnScope ["_law_pen_here", "_law_train_here", "_law_load", "_law_pieces_here", "_law_kind", "_law_partner", "_law_found"] ["_law_pen_here", "_law_train_here"] (defScope s_law_deeds) := ⟨rfl, rfl, rfl, by decide +kernel, rfl, by decide +kernel, by decide +kernel⟩
theorem d_law_deeds {P : Program} {w : World} {K : PySem.W.Frag} {mg : Str → Option Value} {base : Heap} (S : St.Src K mg "_law_deeds" s_law_deeds) (d_law_draw : St.Dfn P w K mg base "_law_draw" 1 ["_law_pen_here", "_law_bound"] (spD K 2 F_law_draw)) (d_law_pieces : St.Dfn P w K mg base "_law_pieces" 2 ["_law_pen_here"] (spD K 1 F_law_pieces)) (d_law_share : St.Dfn P w K mg base "_law_share" 3 ["_law_pen_here"] (spD K 1 F_law_share)) (d_law_worths : St.Dfn P w K mg base "_law_worths" 2 ["_law_pen_here", "_law_many"] (spD K 2 F_law_worths)) : St.Dfn P w K mg base "_law_deeds" 4 ["_law_pen_here", "_law_train_here"] (spD K 2 F_law_deeds) := by
  refine dfn_ok (k := 3) S sc_law_deeds rfl (fun f fd F => F.binds fun _ _ _ _ _ _ us hl => match us, hl with | [_, _], _ => rfl) fun f cdv A outer s H E hr => ?_
  have hu := hu_room hr
  exact (dss_cons (ds_par (i := 2) (j := 3) rfl sc_law_deeds.nd rfl rfl (by decide) rfl rfl (de_call d_law_draw (hr.mono (by decide)) rfl (dos_cons (do_pk 0) (dos_cons (DE.opd de_int) dos_nil))) (de_call d_law_pieces (hr.mono (by decide)) rfl (dos_cons (do_pk 0) dos_nil)))
        (dss_cons (ds_par (i := 4) (j := 5) rfl sc_law_deeds.nd rfl rfl (by decide) rfl rfl (de_call d_law_draw (hr.mono (by decide)) rfl (dos_cons (do_pk 0) (dos_cons (DE.opd (de_ix ix_D (do_pk 1) (DE.opd de_int))) dos_nil))) (de_call d_law_draw (hr.mono (by decide)) rfl (dos_cons (do_pk 0) (dos_cons (DE.opd (de_ix ix_D (do_pk 1) (DE.opd de_int))) dos_nil))))
        (dss_cons (ds_set 6 (de_lst (dos_cons (DE.opd (de_tup (dos_cons (DE.opd de_str) (dos_cons (DE.opd (de_var 5)) (dos_cons (DE.opd (de_var 4)) (dos_cons (DE.opd (de_var 3)) dos_nil)))))) (dos_cons (DE.opd (de_tup (dos_cons (DE.opd de_str) (dos_cons (DE.opd (de_var 2)) (dos_cons (DE.opd (de_op op_addD (do_pk 2) (DE.opd de_int))) dos_nil))))) (dos_cons (DE.opd (de_tup (dos_cons (DE.opd de_str) (dos_cons (DE.opd (de_var 2)) (dos_cons (DE.opd de_int) (dos_cons (DE.opd (de_var 4)) (dos_cons (DE.opd (de_var 3)) dos_nil))))))) dos_nil)))) sc_law_deeds.nd)
        (dss_cons (ds_set 6 (de_op op_addD (do_pk 6) (DE.opd (de_lst (dos_cons (DE.opd (de_tup (dos_cons (DE.opd de_str) (dos_cons (DE.opd (de_call d_law_draw (hr.mono (by decide)) rfl (dos_cons (do_pk 0) (dos_cons (DE.opd de_int) dos_nil)))) (dos_cons (DE.opd (de_var 2)) (dos_cons (DE.opd (de_var 3)) (dos_cons (DE.opd (de_var 4)) (dos_cons (DE.opd de_int) dos_nil)))))))) (dos_cons (DE.opd (de_tup (dos_cons (DE.opd de_str) (dos_cons (DE.opd (de_var 2)) (dos_cons (DE.opd (de_var 3)) dos_nil))))) dos_nil))))) sc_law_deeds.nd)
        (dss_cons (ds_app 6 (de_tup (dos_cons (DE.opd de_str) (dos_cons (DE.opd (de_var 2)) (dos_cons (DE.opd (de_var 3)) (dos_cons (DE.opd (de_call d_law_worths (hr.mono (by decide)) rfl (dos_cons (do_pk 0) (dos_cons (DE.opd (de_op op_addD (DE.opd (de_ix ix_D (do_pk 1) (DE.opd de_int))) (DE.opd de_int))) dos_nil)))) dos_nil))))))
        (dss_cons (ds_set 6 (de_op op_addD (do_pk 6) (DE.opd (de_lst (dos_cons (DE.opd (de_tup (dos_cons (DE.opd de_str) (dos_cons (DE.opd de_int) (dos_cons (DE.opd de_int) (dos_cons (DE.opd (de_tup (dos_cons (DE.opd de_int) (dos_cons (DE.opd de_int) dos_nil)))) dos_nil)))))) (dos_cons (DE.opd (de_tup (dos_cons (DE.opd de_str) (dos_cons (DE.opd de_int) (dos_cons (DE.opd de_int) (dos_cons (DE.opd (de_tup (dos_cons (DE.opd de_int) (dos_cons (DE.opd de_int) dos_nil)))) dos_nil)))))) dos_nil))))) sc_law_deeds.nd)
        (dss_one (ds_ret (de_op op_addD (do_pk 6) (DE.opd (de_lst (dos_cons (DE.opd (de_tup (dos_cons (DE.opd de_str) (dos_cons (DE.opd (de_var 5)) (dos_cons (DE.opd (de_op op_modD (DE.opd (de_op op_addD (do_pk 5) (DE.opd de_int))) (DE.opd de_int))) (dos_cons (DE.opd (de_call d_law_share (hr.mono (by decide)) rfl (dos_cons (do_pk 0) dos_nil))) dos_nil)))))) dos_nil))))))))))))
/-! ### _law_bounds -/
def b_law_bounds : Ex := (xSeq (xAsg 1 1 (eOp wLst [(.ex (eOp wTup [(.ex (eC (.str "pool"))), (.ex (eC (.int 1))), (.ex (eC (.int 1)))])), (.ex (eOp wTup [(.ex (eC (.str "trade"))), (.ex (eC (.int 10))), (.ex (eC (.int 0))), (.ex (eC (.int 1))), (.ex (eC (.int 0))), (.ex (eC (.int 1)))])), (.ex (eOp wTup [(.ex (eC (.str "trade"))), (.ex (eOp (o1 wNeg) [(.ex (eC (.int 1)))])), (.ex (eC (.int 0))), (.ex (eC (.int 1))), (.ex (eC (.int 0))), (.ex (eC (.int 1)))])), (.ex (eOp wTup [(.ex (eC (.str "bring"))), (.ex (eOp (o2 wIx) [(.pk 0), (.ex (eC (.int 0)))])), (.ex (eC (.int 0))), (.ex (eC (.int 1)))]))]))
    (xSeq (xAsg 1 1 (eOp (o2 wAdd) [(.pk 1), (.ex (eOp wLst [(.ex (eOp wTup [(.ex (eC (.str "bring"))), (.ex (eC (.int 0))), (.ex (eOp (o2 wIx) [(.pk 0), (.ex (eC (.int 1)))])), (.ex (eC (.int 1)))])), (.ex (eOp wTup [(.ex (eC (.str "bring"))), (.ex (eC (.int 0))), (.ex (eC (.int 0))), (.ex (eC (.int 0)))])), (.ex (eOp wTup [(.ex (eC (.str "swap"))), (.ex (eC (.int 0))), (.ex (eC (.int 0))), (.ex (eC (.int 0))), (.ex (eC (.int 1)))])), (.ex (eOp wTup [(.ex (eC (.str "swap"))), (.ex (eC (.int 0))), (.ex (eC (.int 1))), (.ex (eOp (o2 wIx) [(.pk 0), (.ex (eC (.int 1)))])), (.ex (eC (.int 1)))]))]))]))
    (xSeq (xAsg 1 1 (eOp (o2 wAdd) [(.pk 1), (.ex (eOp wLst [(.ex (eOp wTup [(.ex (eC (.str "swap"))), (.ex (eC (.int 0))), (.ex (eC (.int 1))), (.ex (eC (.int 0))), (.ex (eC (.int 0)))])), (.ex (eOp wTup [(.ex (eC (.str "swap"))), (.ex (eOp (o1 wNeg) [(.ex (eC (.int 1)))])), (.ex (eC (.int 1))), (.ex (eC (.int 0))), (.ex (eC (.int 1)))])), (.ex (eOp wTup [(.ex (eC (.str "spoil"))), (.ex (eC (.int 0))), (.ex (eC (.int 0)))])), (.ex (eOp wTup [(.ex (eC (.str "sell"))), (.ex (eC (.int 0))), (.ex (eC (.int 0))), (.ex (eOp wTup [(.ex (eC (.int 1))), (.ex (eC (.int 1)))]))]))]))]))
    (xSeq (xAsg 1 1 (eOp (o2 wAdd) [(.pk 1), (.ex (eOp wLst [(.ex (eOp wTup [(.ex (eC (.str "throw"))), (.ex (eC (.int 0))), (.ex (eC (.int 1))), (.ex (eOp (o2 wMul) [(.ex (eOp wTup [(.ex (eC (.int 1)))])), (.ex (eOp (o2 wIx) [(.pk 0), (.ex (eC (.int 1)))]))]))])), (.ex (eOp wTup [(.ex (eC (.str "throw"))), (.ex (eC (.int 0))), (.ex (eC (.int 1))), (.ex (eOp (o2 wMul) [(.ex (eOp wTup [(.ex (eC (.int 100)))])), (.ex (eOp (o2 wAdd) [(.ex (eOp (o2 wIx) [(.pk 0), (.ex (eC (.int 1)))])), (.ex (eC (.int 1)))]))]))]))]))]))
    (xSeq (xAsg 1 1 (eOp (o2 wAdd) [(.pk 1), (.ex (eOp wLst [(.ex (eOp wTup [(.ex (eC (.str "throw"))), (.ex (eC (.int 0))), (.ex (eC (.int 1))), (.ex (eOp (o2 wMul) [(.ex (eOp wTup [(.ex (eC (.int 99)))])), (.ex (eOp (o2 wAdd) [(.ex (eOp (o2 wIx) [(.pk 0), (.ex (eC (.int 1)))])), (.ex (eC (.int 1)))]))]))])), (.ex (eOp wTup [(.ex (eC (.str "throw"))), (.ex (eC (.int 0))), (.ex (eC (.int 1))), (.ex (eOp (o2 wMul) [(.ex (eOp wTup [(.ex (eC (.int 0)))])), (.ex (eOp (o2 wAdd) [(.ex (eOp (o2 wIx) [(.pk 0), (.ex (eC (.int 1)))])), (.ex (eC (.int 1)))]))]))])), (.ex (eOp wTup [(.ex (eC (.str "sing"))), (.ex (eC (.int 0))), (.ex (eC (.int 1)))]))]))]))
    (xSeq (xAsg 1 1 (eOp (o2 wAdd) [(.pk 1), (.ex (eOp wLst [(.ex (eOp wTup [(.ex (eC (.str "sell"))), (.ex (eC (.int 0))), (.ex (eOp (o2 wIx) [(.pk 0), (.ex (eC (.int 0)))])), (.ex (eOp wTup [(.ex (eC (.int 1))), (.ex (eC (.int 2)))]))])), (.ex (eOp wTup [(.ex (eC (.str "sell"))), (.ex (eC (.int 0))), (.ex (eC (.int 1))), (.ex (eOp wTup [(.ex (eC (.int 1))), (.ex (eC (.int 13)))]))])), (.ex (eOp wTup [(.ex (eC (.str "sell"))), (.ex (eC (.int 0))), (.ex (eC (.int 1))), (.ex (eOp wTup [(.ex (eC (.int 2))), (.ex (eC (.int 2)))]))]))]))]))
    (xRet (eOp (o2 wAdd) [(.pk 1), (.ex (eOp wLst [(.ex (eOp wTup [(.ex (eC (.str "spoil")))])), (.ex (eOp wTup [])), (.ex (eOp wTup [(.ex (eC (.str "bring"))), (.ex (eC (.int 0))), (.ex (eC (.int 0)))]))]))]))))))))
def F_law_bounds : Fn := runFn 2 b_law_bounds
theorem sc_law_bounds : FnScope ["_law_train_here", "_law_found"] ["_law_train_here"] (defScope s_law_bounds) := ⟨rfl, rfl, rfl, by decide +kernel, rfl, by decide +kernel, by decide +kernel⟩
theorem d_law_bounds {P : Program} {w : World} {K : PySem.W.Frag} {mg : Str → Option Value} {base : Heap} (S : St.Src K mg "_law_bounds" s_law_bounds) : St.Dfn P w K mg base "_law_bounds" 1 ["_law_train_here"] (spD K 1 F_law_bounds) := by
  refine dfn_ok (k := 0) S sc_law_bounds rfl (fun f fd F => F.binds fun _ _ _ _ _ _ us hl => match us, hl with | [_], _ => rfl) fun f cdv A outer s H E hr => ?_
  have hu := hu_room hr
  exact (dss_cons (ds_set 1 (de_lst (dos_cons (DE.opd (de_tup (dos_cons (DE.opd de_str) (dos_cons (DE.opd de_int) (dos_cons (DE.opd de_int) dos_nil))))) (dos_cons (DE.opd (de_tup (dos_cons (DE.opd de_str) (dos_cons (DE.opd de_int) (dos_cons (DE.opd de_int) (dos_cons (DE.opd de_int) (dos_cons (DE.opd de_int) (dos_cons (DE.opd de_int) dos_nil)))))))) (dos_cons (DE.opd (de_tup (dos_cons (DE.opd de_str) (dos_cons (DE.opd (de_un un_negD (DE.opd de_int))) (dos_cons (DE.opd de_int) (dos_cons (DE.opd de_int) (dos_cons (DE.opd de_int) (dos_cons (DE.opd de_int) dos_nil)))))))) (dos_cons (DE.opd (de_tup (dos_cons (DE.opd de_str) (dos_cons (DE.opd (de_ix ix_D (do_pk 0) (DE.opd de_int))) (dos_cons (DE.opd de_int) (dos_cons (DE.opd de_int) dos_nil)))))) dos_nil))))) sc_law_bounds.nd)
        (dss_cons (ds_set 1 (de_op op_addD (do_pk 1) (DE.opd (de_lst (dos_cons (DE.opd (de_tup (dos_cons (DE.opd de_str) (dos_cons (DE.opd de_int) (dos_cons (DE.opd (de_ix ix_D (do_pk 0) (DE.opd de_int))) (dos_cons (DE.opd de_int) dos_nil)))))) (dos_cons (DE.opd (de_tup (dos_cons (DE.opd de_str) (dos_cons (DE.opd de_int) (dos_cons (DE.opd de_int) (dos_cons (DE.opd de_int) dos_nil)))))) (dos_cons (DE.opd (de_tup (dos_cons (DE.opd de_str) (dos_cons (DE.opd de_int) (dos_cons (DE.opd de_int) (dos_cons (DE.opd de_int) (dos_cons (DE.opd de_int) dos_nil))))))) (dos_cons (DE.opd (de_tup (dos_cons (DE.opd de_str) (dos_cons (DE.opd de_int) (dos_cons (DE.opd de_int) (dos_cons (DE.opd (de_ix ix_D (do_pk 0) (DE.opd de_int))) (dos_cons (DE.opd de_int) dos_nil))))))) dos_nil))))))) sc_law_bounds.nd)
        (dss_cons (ds_set 1 (de_op op_addD (do_pk 1) (DE.opd (de_lst (dos_cons (DE.opd (de_tup (dos_cons (DE.opd de_str) (dos_cons (DE.opd de_int) (dos_cons (DE.opd de_int) (dos_cons (DE.opd de_int) (dos_cons (DE.opd de_int) dos_nil))))))) (dos_cons (DE.opd (de_tup (dos_cons (DE.opd de_str) (dos_cons (DE.opd (de_un un_negD (DE.opd de_int))) (dos_cons (DE.opd de_int) (dos_cons (DE.opd de_int) (dos_cons (DE.opd de_int) dos_nil))))))) (dos_cons (DE.opd (de_tup (dos_cons (DE.opd de_str) (dos_cons (DE.opd de_int) (dos_cons (DE.opd de_int) dos_nil))))) (dos_cons (DE.opd (de_tup (dos_cons (DE.opd de_str) (dos_cons (DE.opd de_int) (dos_cons (DE.opd de_int) (dos_cons (DE.opd (de_tup (dos_cons (DE.opd de_int) (dos_cons (DE.opd de_int) dos_nil)))) dos_nil)))))) dos_nil))))))) sc_law_bounds.nd)
        (dss_cons (ds_set 1 (de_op op_addD (do_pk 1) (DE.opd (de_lst (dos_cons (DE.opd (de_tup (dos_cons (DE.opd de_str) (dos_cons (DE.opd de_int) (dos_cons (DE.opd de_int) (dos_cons (DE.opd (de_op op_mulD (DE.opd (de_tup (dos_cons (DE.opd de_int) dos_nil))) (DE.opd (de_ix ix_D (do_pk 0) (DE.opd de_int))))) dos_nil)))))) (dos_cons (DE.opd (de_tup (dos_cons (DE.opd de_str) (dos_cons (DE.opd de_int) (dos_cons (DE.opd de_int) (dos_cons (DE.opd (de_op op_mulD (DE.opd (de_tup (dos_cons (DE.opd de_int) dos_nil))) (DE.opd (de_op op_addD (DE.opd (de_ix ix_D (do_pk 0) (DE.opd de_int))) (DE.opd de_int))))) dos_nil)))))) dos_nil))))) sc_law_bounds.nd)
        (dss_cons (ds_set 1 (de_op op_addD (do_pk 1) (DE.opd (de_lst (dos_cons (DE.opd (de_tup (dos_cons (DE.opd de_str) (dos_cons (DE.opd de_int) (dos_cons (DE.opd de_int) (dos_cons (DE.opd (de_op op_mulD (DE.opd (de_tup (dos_cons (DE.opd de_int) dos_nil))) (DE.opd (de_op op_addD (DE.opd (de_ix ix_D (do_pk 0) (DE.opd de_int))) (DE.opd de_int))))) dos_nil)))))) (dos_cons (DE.opd (de_tup (dos_cons (DE.opd de_str) (dos_cons (DE.opd de_int) (dos_cons (DE.opd de_int) (dos_cons (DE.opd (de_op op_mulD (DE.opd (de_tup (dos_cons (DE.opd de_int) dos_nil))) (DE.opd (de_op op_addD (DE.opd (de_ix ix_D (do_pk 0) (DE.opd de_int))) (DE.opd de_int))))) dos_nil)))))) (dos_cons (DE.opd (de_tup (dos_cons (DE.opd de_str) (dos_cons (DE.opd de_int) (dos_cons (DE.opd de_int) dos_nil))))) dos_nil)))))) sc_law_bounds.nd)
        (dss_cons (ds_set 1 (de_op op_addD (do_pk 1) (DE.opd (de_lst (dos_cons (DE.opd (de_tup (dos_cons (DE.opd de_str) (dos_cons (DE.opd de_int) (dos_cons (DE.opd (de_ix ix_D (do_pk 0) (DE.opd de_int))) (dos_cons (DE.opd (de_tup (dos_cons (DE.opd de_int) (dos_cons (DE.opd de_int) dos_nil)))) dos_nil)))))) (dos_cons (DE.opd (de_tup (dos_cons (DE.opd de_str) (dos_cons (DE.opd de_int) (dos_cons (DE.opd de_int) (dos_cons (DE.opd (de_tup (dos_cons (DE.opd de_int) (dos_cons (DE.opd de_int) dos_nil)))) dos_nil)))))) (dos_cons (DE.opd (de_tup (dos_cons (DE.opd de_str) (dos_cons (DE.opd de_int) (dos_cons (DE.opd de_int) (dos_cons (DE.opd (de_tup (dos_cons (DE.opd de_int) (dos_cons (DE.opd de_int) dos_nil)))) dos_nil)))))) dos_nil)))))) sc_law_bounds.nd)
        (dss_one (ds_ret (de_op op_addD (do_pk 1) (DE.opd (de_lst (dos_cons (DE.opd (de_tup (dos_cons (DE.opd de_str) dos_nil))) (dos_cons (DE.opd (de_tup dos_nil)) (dos_cons (DE.opd (de_tup (dos_cons (DE.opd de_str) (dos_cons (DE.opd de_int) (dos_cons (DE.opd de_int) dos_nil))))) dos_nil))))))))))))))
/-! ### law -/
def b_p_law : Ex := (xSeq (xFor (sRng [(.ex (eOp (o2 wMax) [(.ex (eC (.int 1))), (.ex (eOp (o2 wMin) [(.ex (eOp (o1 wLen) [(.pk 0)])), (.ex (eC (.int 3)))]))]))]) (tNm 1 1) (xSeq (xAsg 1 2 (eCall 1 F_law_pen [(.ex (eCall 2 F_law_cell_at [(.pk 0), (.pk 1)]))]))
    (xSeq (xAsg 1 3 (eCall 1 F_law_train [(.pk 2)]))
    (xSeq (xAsg 1 4 (eOp (o2 wAdd) [(.ex (eCall 1 F_law_bounds [(.pk 3)])), (.ex (eOp wLst [(.ex (eCall 2 (F_law_thing 8) [(.pk 2), (.ex (eC (.int 2)))]))]))]))
    (xSeq (xFor (sAny (eCall 2 F_law_deeds [(.pk 2), (.pk 3)])) (tNm 1 5) (xSeq (xAsg 1 4 (eOp (o2 wAdd) [(.pk 4), (.ex (eOp wLst [(.ex (eV 5)), (.ex (eOp (o1 wList) [(.pk 5)])), (.ex (eOp (o2 wAdd) [(.pk 5), (.ex (eOp wTup [(.ex (eC (.int 0)))]))])), (.ex (eOp (wSlN false true) [(.pk 5), (.ex (eOp (o1 wNeg) [(.ex (eC (.int 1)))]))]))]))]))
    (xAsg 1 4 (eOp (o2 wAdd) [(.pk 4), (.ex (eComp [2, 5] 1 (sRng [(.ex (eC (.int 2)))]) (tNm 2 2) eTrue (eCall 2 (F_law_spoilt 8) [(.pk 0), (.pk 1)])))]))))
    (xSeq (xFor (sAny (eV 4)) (tNm 1 6) (xIf (eOp (o2 wNe) [(.ex (eCall 2 F_p_is_deed [(.pk 3), (.pk 6)])), (.ex (eCall 2 F_law_is_deed [(.pk 3), (.pk 6)]))]) (xRet (eC (.bl false))) xNil))
    (xSeq (xAsg 1 7 (eOp wTup [(.ex (eCall 2 F_law_draw [(.pk 2), (.ex (eOp (o2 wIx) [(.pk 3), (.ex (eC (.int 1)))]))])), (.ex (eCall 1 F_law_pieces [(.pk 2)])), (.ex (eCall 2 F_law_whole [(.pk 2), (.ex (eOp (o2 wIx) [(.pk 3), (.ex (eC (.int 0)))]))]))]))
    (xSeq (xAsg 1 8 (eOp wLst [(.ex (eV 7)), (.ex (eOp (o2 wAdd) [(.ex (eOp wTup [(.ex (eOp (o2 wIx) [(.pk 3), (.ex (eC (.int 1)))]))])), (.ex (eOp (wSlN true false) [(.pk 7), (.ex (eC (.int 1)))]))])), (.ex (eOp (o2 wAdd) [(.ex (eOp (o2 wAdd) [(.ex (eOp (wSlN false true) [(.pk 7), (.ex (eC (.int 1)))])), (.ex (eOp wTup [(.ex (eC (.int 0)))]))])), (.ex (eOp (wSlN true false) [(.pk 7), (.ex (eC (.int 2)))]))])), (.ex (eOp (o2 wAdd) [(.ex (eOp (o2 wAdd) [(.ex (eOp (wSlN false true) [(.pk 7), (.ex (eC (.int 1)))])), (.ex (eOp wTup [(.ex (eOp (o1 wNeg) [(.ex (eC (.int 1)))]))]))])), (.ex (eOp (wSlN true false) [(.pk 7), (.ex (eC (.int 2)))]))])), (.ex (eOp (wSlN false true) [(.pk 7), (.ex (eC (.int 2)))]))]))
    (xSeq (xAsg 1 8 (eOp (o2 wAdd) [(.ex (eOp (o2 wAdd) [(.pk 8), (.ex (eComp [2, 7] 1 (sAny (eOp wTup [(.ex (eC (.int 1))), (.ex (eC (.int 2))), (.ex (eC (.int 3))), (.ex (eC (.int 4)))])) (tNm 2 2) eTrue (eOp (o2 wAdd) [(.ex (eOp (wSlN false true) [(.pk 1), (.ex (eC (.int 2)))])), (.ex (eOp wTup [(.ex (eCall 2 F_law_whole [(.pk 0), (.pk 2)]))]))])))])), (.ex (eOp wLst [(.ex (eOp (o1 wList) [(.pk 7)]))]))]))
    (xFor (sAny (eOp (o2 wAdd) [(.ex (eOp (o2 wAdd) [(.pk 8), (.ex (eOp wLst [(.ex (eCall 2 (F_law_thing 8) [(.pk 2), (.ex (eC (.int 2)))]))]))])), (.ex (eComp [2, 7] 1 (sRng [(.ex (eC (.int 8)))]) (tNm 2 2) eTrue (eCall 2 (F_law_spoilt 8) [(.pk 0), (.pk 1)])))])) (tNm 1 6) (xIf (eOp (o2 wNe) [(.ex (eCall 2 F_p_is_load [(.pk 3), (.pk 6)])), (.ex (eCall 2 F_law_is_load [(.pk 3), (.pk 6)]))]) (xRet (eC (.bl false))) xNil)))))))))))
    (xRet (eC (.bl true))))
def F_p_law : Fn := runFn 9 b_p_law
theorem sc_p_law : FnScope ["_law_script", "_law_k", "_law_pen_here", "_law_train_here", "_law_things", "_law_deed", "_law_thing_here", "_law_load", "_law_loads"] ["_law_script"] (defScope s_p_law) := ⟨rfl, rfl, rfl, by decide +kernel, rfl, by decide +kernel, by decide +kernel⟩
theorem cs_p_law_0 : CompScope ["_law_script", "_law_k", "_law_pen_here", "_law_train_here", "_law_things", "_law_deed", "_law_thing_here", "_law_load", "_law_loads"] (defScope s_p_law) ["_law_pen_here", "_law_deed", "_law_turn"] (ixC [2, 5] 1) (scOf s_p_law 0) := ⟨rfl, by decide +kernel, by decide +kernel, by decide +kernel, by decide +kernel⟩
theorem nd_p_law_0 : (["_law_pen_here", "_law_deed", "_law_turn"] : List Str).Nodup := by decide +kernel
theorem cs_p_law_1 : CompScope ["_law_script", "_law_k", "_law_pen_here", "_law_train_here", "_law_things", "_law_deed", "_law_thing_here", "_law_load", "_law_loads"] (defScope s_p_law) ["_law_pen_here", "_law_load", "_law_many"] (ixC [2, 7] 1) (scOf s_p_law 1) := ⟨rfl, by decide +kernel, by decide +kernel, by decide +kernel, by decide +kernel⟩
theorem nd_p_law_1 : (["_law_pen_here", "_law_load", "_law_many"] : List Str).Nodup := by decide +kernel
theorem cs_p_law_2 : CompScope ["_law_script", "_law_k", "_law_pen_here", "_law_train_here", "_law_things", "_law_deed", "_law_thing_here", "_law_load", "_law_loads"] (defScope s_p_law) ["_law_pen_here", "_law_load", "_law_turn"] (ixC [2, 7] 1) (scOf s_p_law 2) := ⟨rfl, by decide +kernel, by decide +kernel, by decide +kernel, by decide +kernel⟩
theorem nd_p_law_2 : (["_law_pen_here", "_law_load", "_law_turn"] : List Str).Nodup := by decide +kernel
end Mi
end
section
set_option Elab.async false
set_option linter.all false
set_option maxRecDepth 100000
set_option maxHeartbeats 4000000
set_option exponentiation.threshold 10000
namespace Mi
open PySem PySem.Spec L2
theorem mulL {i j : Int} (h : -18446744073709551616 < i) (g : i < 18446744073709551616) : mulOk i j = true := by
  unfold mulOk
  rw [Bool.or_eq_true]
  exact .inl (decide_eq_true (by omega))
theorem natAbs_small {n : Int} (h0 : 0 < n) (h1 : n < 1152921504606846976) : n.natAbs < 2 ^ 8000 := Nat.lt_of_lt_of_le (show n.natAbs < 2 ^ 60 by omega) (Nat.pow_le_pow_right (by decide) (by decide))
@[simp] theorem ixN_40 : ixN 4 0 = some 0 := rfl
@[simp] theorem ixN_42 : ixN 4 2 = some 2 := rfl
def Pen (ds : List D) : Prop := ∃ a b c d : Int, ds = [.int a, .int b, .int c, .int d] ∧ 0 ≤ d ∧ d < 1000000007
theorem draw_ok {ds : List D} (h : Pen ds) {n : Int} (h0 : 0 < n) (h1 : n < 1152921504606846976) : ∃ r ds', F_law_draw [.own ds, .val (.int n)] = some (.val (.int r), [.own ds', .val (.int n)]) ∧ 0 ≤ r ∧ r < n ∧ Pen ds' := by
  obtain ⟨a, b, c, d, rfl, hd0, hd1⟩ := h
  have hs := natAbs_small h0 h1
  by_cases hb : b = 1 ∧ 0 < a
  · obtain ⟨rfl, ha⟩ := hb
    refine ⟨a % n, [.int (a / n), .int 1, .int c, .int d], ?_, Int.emod_nonneg _ (by omega), Int.emod_lt_of_pos _ h0, _, _, _, _, rfl, hd0, hd1⟩
    simp [F_law_draw, b_law_draw, ha, h0, hs, isLb]
  · have m1 : mulOk (d + 17) (69621 + 2 * (c + 1)) = true := mulL (by omega) (by omega)
    have m2 : mulOk 2 (c + 1) = true := mulL (by decide) (by decide)
    generalize ht : (d + 17) * (69621 + 2 * (c + 1)) % 2147483647 = t at *
    have t0 : 0 ≤ t := by rw [← ht]; exact Int.emod_nonneg _ (by decide)
    have t1 : t < 2147483647 := by rw [← ht]; exact Int.emod_lt_of_pos _ (by decide)
    have m3 : mulOk t t = true := mulL (by omega) (by omega)
    have m4 : mulOk 40503 (c + 1) = true := mulL (by decide) (by decide)
    generalize hu : (t * t + 40503 * (c + 1) + 5) % 2147483629 = u at *
    have u0 : 0 ≤ u := by rw [← hu]; exact Int.emod_nonneg _ (by decide)
    have u1 : u < 2147483629 := by rw [← hu]; exact Int.emod_lt_of_pos _ (by decide)
    have m5 : mulOk u 48271 = true := mulL (by omega) (by omega)
    refine ⟨u * 48271 % 2147483647 / 32 % n, [.int a, .int b, .int (c + 1), .int d], ?_, Int.emod_nonneg _ (by omega), Int.emod_lt_of_pos _ h0, _, _, _, _, rfl, hd0, hd1⟩
    by_cases hb1 : b = 1
    · subst hb1
      have ha : ¬ 0 < a := fun z => hb ⟨rfl, z⟩
      simp [F_law_draw, b_law_draw, ha, h0, hs, isLb, m1, m2, m3, m4, m5, ht, hu]
    · have hb2 : (b == 1) = false := by simpa using hb1
      simp [F_law_draw, b_law_draw, hb2, h0, hs, isLb, m1, m2, m3, m4, m5, ht, hu]
end Mi
end
section
set_option Elab.async false
set_option linter.all false
set_option maxRecDepth 100000
set_option maxHeartbeats 4000000
set_option exponentiation.threshold 10000
namespace Mi
open PySem PySem.Spec L2
/-! ### the greatest divisor -/
def gcdI (a b : Int) : Int := ((Nat.gcd a.natAbs b.natAbs : Nat) : Int)
@[simp] theorem wAbs_run {i : Int} : wAbs (.val (.int i)) = some (.val (.int (i.natAbs : Int))) := by
  show some (Wv.val (D.int (if i < 0 then -i else i))) = _
  congr 3
  split <;> omega
@[simp] theorem xPar_run {n i j : Nat} {f g : Ev} {E : En} : xPar n i j f g E = (evs [.ex f, .ex g] E).bind fun r => match r.1 with
  | [.val d, .val d'] => if canSet n r.2 i = true then (if canSet n (r.2.set i (some (.val d))) j = true then some (.nx, (r.2.set i (some (.val d))).set j (some (.val d'))) else none) else none
  | _ => none := rfl
theorem whileD_succ {c : Ev} {b : Ex} {k : Nat} {E : En} : whileD c b (k + 1) E = (c E).bind fun r => match r.1 with
    | .val (.bl true) => (b r.2).bind fun p => match p.1 with
      | .nx => whileD c b k p.2
      | .ret w => some (.ret w, p.2)
    | .val (.bl false) => some (.nx, r.2)
    | _ => none := rfl
theorem gcd_loop : ∀ (k : Nat) (x y : Nat), y < k → whileD (eOp (o2 wNe) [(.pk 1), (.ex (eC (.int 0)))]) (xPar 2 0 1 (eV 1) (eOp (o2 wMod) [(.pk 0), (.pk 1)])) k [some (.val (.int x)), some (.val (.int y))] = some (.nx, [some (.val (.int (Nat.gcd x y : Nat))), some (.val (.int 0))])
  | 0, x, y, h => absurd h (Nat.not_lt_zero _)
  | k + 1, x, y, h => by
    rw [whileD_succ]
    by_cases hy : y = 0
    · subst hy
      simp
    · have hy2 : (((y : Nat) : Int) == 0) = false := by simpa using hy
      have hy3 : (0 : Int) < (y : Int) := by omega
      have ih := gcd_loop k y (x % y) (by have := Nat.mod_lt x (Nat.pos_of_ne_zero hy); omega)
      rw [show ((x % y : Nat) : Int) = (x : Int) % (y : Int) by omega] at ih
      have hy4 : 0 < y := Nat.pos_of_ne_zero hy
      simp [hy2, hy4, isLb, ih]
      rw [Nat.gcd_comm x y, Nat.gcd_rec y x, Nat.gcd_comm]
theorem gcd_ok (a b : Int) : F_p_greatest_divisor [.val (.int a), .val (.int b)] = some (.val (.int (gcdI a b)), [.val (.int a), .val (.int b)]) := by
  have := gcd_loop (b.natAbs + 2) a.natAbs b.natAbs (by omega)
  simp [F_p_greatest_divisor, b_p_greatest_divisor, isLb, xWhile, fuelI, this, gcdI]
theorem common_loop : ∀ (k : Nat) (x y : Nat), y < k → whileD (eOp (o2 wGt) [(.pk 1), (.ex (eC (.int 0)))]) (xPar 2 0 1 (eV 1) (eOp (o2 wMod) [(.pk 0), (.pk 1)])) k [some (.val (.int x)), some (.val (.int y))] = some (.nx, [some (.val (.int (Nat.gcd x y : Nat))), some (.val (.int 0))])
  | 0, x, y, h => absurd h (Nat.not_lt_zero _)
  | k + 1, x, y, h => by
    rw [whileD_succ]
    by_cases hy : y = 0
    · subst hy
      simp
    · have hy2 : (decide ((0 : Int) < (y : Int))) = true := decide_eq_true (by omega)
      have hy3 : (0 : Int) < (y : Int) := by omega
      have ih := common_loop k y (x % y) (by have := Nat.mod_lt x (Nat.pos_of_ne_zero hy); omega)
      rw [show ((x % y : Nat) : Int) = (x : Int) % (y : Int) by omega] at ih
      have hy4 : 0 < y := Nat.pos_of_ne_zero hy
      simp [hy4, isLb, ih]
      rw [Nat.gcd_comm x y, Nat.gcd_rec y x, Nat.gcd_comm]
theorem common_ok (a b : Int) (ha : 0 ≤ a) (hb : 0 ≤ b) : F_law_common [.val (.int a), .val (.int b)] = some (.val (.int (gcdI a b)), [.val (.int a), .val (.int b)]) := by
  have := common_loop (b.natAbs + 2) a.natAbs b.natAbs (by omega)
  have e1 : ((a.natAbs : Nat) : Int) = a := by omega
  have e2 : ((b.natAbs : Nat) : Int) = b := by omega
  rw [e1, e2] at this
  simp [F_law_common, b_law_common, isLb, xWhile, fuelI, this, gcdI]
end Mi
end
section
set_option Elab.async false
set_option linter.all false
set_option maxRecDepth 100000
set_option maxHeartbeats 4000000
set_option exponentiation.threshold 10000
namespace Mi
open PySem PySem.Spec L2
/-! ### amounts, made -/
def lowP (t b : Int) : Int × Int := (t / gcdI t b, b / gcdI t b)
theorem gcdI_pos {t b : Int} (h : 0 < b) : 0 < gcdI t b := by
  unfold gcdI
  have : 0 < Nat.gcd t.natAbs b.natAbs := Nat.gcd_pos_of_pos_right _ (by omega)
  omega
theorem gcdI_le {t b : Int} (h : 0 < b) : (gcdI t b).natAbs ≤ b.natAbs := by
  unfold gcdI
  have : Nat.gcd t.natAbs b.natAbs ≤ b.natAbs := Nat.gcd_le_right _ (by omega)
  omega
def amD (p : Int × Int) : D := .tup [.int p.1, .int p.2]
theorem lowest_ok {t b : Int} (h : 0 < b) (hb : b.natAbs < 2 ^ 8000) : F_p_lowest [.val (.int t), .val (.int b)] = some (.val (amD (lowP t b)), [.val (.int t), .val (.int b)]) := by
  have h1 := gcdI_pos (t := t) h
  have h2 : (gcdI t b).natAbs < 2 ^ 8000 := Nat.lt_of_le_of_lt (gcdI_le h) hb
  simp [F_p_lowest, b_p_lowest, gcd_ok, isLb, h1, h2, amD, lowP]
theorem gcdI_abs {t b : Int} : gcdI (t.natAbs : Int) b = gcdI t b := by
  unfold gcdI
  rw [Int.natAbs_natCast]
theorem made_ok {t b : Int} (h : 0 < b) (hb : b.natAbs < 2 ^ 8000) : F_law_made [.val (.int t), .val (.int b)] = some (.val (amD (lowP t b)), [.val (.int t), .val (.int b)]) := by
  have h1 := gcdI_pos (t := t) h
  have h2 : (gcdI t b).natAbs < 2 ^ 8000 := Nat.lt_of_le_of_lt (gcdI_le h) hb
  have h3 := common_ok (t.natAbs : Int) b (by omega) (by omega)
  rw [gcdI_abs] at h3
  simp [F_law_made, b_law_made, h3, isLb, h1, h2, amD, lowP]
end Mi
end
section
set_option Elab.async false
set_option linter.all false
set_option maxRecDepth 100000
set_option maxHeartbeats 4000000
set_option exponentiation.threshold 10000
namespace Mi
open PySem PySem.Spec L2
/-! ### things of whatever kind -/
inductive Th : D → Prop
  | non : Th .non
  | bl (b : Bool) : Th (.bl b)
  | int {i : Int} (h : i.natAbs < 2 ^ 140) : Th (.int i)
  | str (x : Str) : Th (.str x)
  | tup {ds : List D} (h : ∀ d ∈ ds, Th d) (l : ds.length ≤ 1000) : Th (.tup ds)
  | lst {ds : List D} (h : ∀ d ∈ ds, Th d) (l : ds.length ≤ 1000) : Th (.lst ds)
  | dct (kvs : List (Key × D)) : Th (.dct kvs)
def isI : D → Bool
  | .int _ => true
  | _ => false
def fromB (lo : Int) : D → Bool
  | .int i => decide (lo ≤ i)
  | _ => false
def withinB (lo hi : Int) : D → Bool
  | .int i => decide (lo ≤ i) && decide (i ≤ hi)
  | _ => false
section
variable {d : D}
@[simp] theorem kd_non : kdW (.val .non) = some .non := rfl
@[simp] theorem kd_bl {b : Bool} : kdW (.val (.bl b)) = some .bl := rfl
@[simp] theorem kd_int {i : Int} : kdW (.val (.int i)) = some .int := rfl
@[simp] theorem kd_str {x : Str} : kdW (.val (.str x)) = some .str := rfl
@[simp] theorem kd_tup {ds : List D} : kdW (.val (.tup ds)) = some .tup := rfl
@[simp] theorem kd_lst {ds : List D} : kdW (.val (.lst ds)) = some .lst := rfl
@[simp] theorem kd_dct {ds : List (Key × D)} : kdW (.val (.dct ds)) = some .dct := rfl
theorem whole_ok (h : Th d) : F_p_is_whole [.val d] = some (.val (.bl (isI d)), [.val d]) := by
  cases h <;> simp [F_p_is_whole, b_p_is_whole, St.Kd.isA, isI]
theorem from_ok (h : Th d) (lo : Int) : F_p_is_from [.val d, .val (.int lo)] = some (.val (.bl (fromB lo d)), [.val d, .val (.int lo)]) := by
  have w := whole_ok h
  cases h <;> simp [F_p_is_from, b_p_is_from, w, isI, fromB]
theorem within_ok (h : Th d) (lo hi : Int) : F_p_is_within [.val d, .val (.int lo), .val (.int hi)] = some (.val (.bl (withinB lo hi d)), [.val d, .val (.int lo), .val (.int hi)]) := by
  have w := from_ok h lo
  cases h with
  | @int i h => by_cases c : lo ≤ i <;> simp [F_p_is_within, b_p_is_within, w, fromB, withinB, c]
  | _ => simp [F_p_is_within, b_p_is_within, w, fromB, withinB]
def tupLen (n : Int) : D → Bool
  | .tup ds => decide ((ds.length : Int) = n)
  | _ => false
theorem tupleOf_ok (h : Th d) (n : Int) : F_p_is_tuple_of [.val d, .val (.int n)] = some (.val (.bl (tupLen n d)), [.val d, .val (.int n)]) := by
  cases h <;> simp [F_p_is_tuple_of, b_p_is_tuple_of, St.Kd.isA, tupLen]
  rfl
/-! ### amounts -/
def amtB : D → Bool
  | .tup [.int t, .int b] => decide (1 ≤ b) && decide (gcdI t b = 1)
  | _ => false
def shareB : D → Bool
  | .tup [.int t, .int b] => decide (1 ≤ b) && decide (gcdI t b = 1) && (decide (0 ≤ t) && decide (t ≤ b))
  | _ => false
theorem amount_ok (h : Th d) : F_p_is_amount [.val d] = some (.val (.bl (amtB d)), [.val d]) := by
  cases h with
  | @tup ds h l =>
    match ds, h with
    | [], h => simp [F_p_is_amount, b_p_is_amount, St.Kd.isA, amtB]
    | [x], h => simp [F_p_is_amount, b_p_is_amount, St.Kd.isA, amtB]
    | [x, y], h =>
      have hx := h x (by simp)
      have hy := h y (by simp)
      have w1 := whole_ok hx
      have w2 := from_ok hy 1
      cases hx with
      | @int i hi =>
        cases hy with
        | @int j hj =>
          by_cases c : 1 ≤ j
          · simp [F_p_is_amount, b_p_is_amount, St.Kd.isA, isLb, w1, w2, isI, fromB, amtB, c, gcd_ok]
            rfl
          · simp [F_p_is_amount, b_p_is_amount, St.Kd.isA, isLb, w1, w2, isI, fromB, amtB, c]
        | _ => simp [F_p_is_amount, b_p_is_amount, St.Kd.isA, isLb, w1, w2, isI, fromB, amtB]
      | _ => simp [F_p_is_amount, b_p_is_amount, St.Kd.isA, isLb, w1, isI, amtB]
    | x :: y :: z :: r, h =>
      have : ((r.length : Int) + 1 + 1 + 1 == 2) = false := beq_eq_false_iff_ne.mpr (by omega)
      simp [F_p_is_amount, b_p_is_amount, St.Kd.isA, amtB, this]
  | _ => simp [F_p_is_amount, b_p_is_amount, St.Kd.isA, amtB]
end
end Mi
end
section
set_option Elab.async false
set_option linter.all false
set_option maxRecDepth 100000
set_option maxHeartbeats 4000000
set_option exponentiation.threshold 10000
namespace Mi
open PySem PySem.Spec L2
@[simp] theorem eLeLe_run {oa ob oc : Opd} {E : En} : eLeLe oa ob oc E = (evs [oa, ob] E).bind fun r => match r.1 with
  | [.val (.int i), .val (.int j)] => if i ≤ j then (evs [oc] r.2).bind fun p => match p.1 with
      | [.val (.int k)] => some (.val (.bl (decide (j ≤ k))), p.2)
      | _ => none
    else some (.val (.bl false), r.2)
  | _ => none := rfl
theorem amtB_true {d : D} (h : amtB d = true) : ∃ t b : Int, d = .tup [.int t, .int b] ∧ 1 ≤ b ∧ gcdI t b = 1 := by
  unfold amtB at h
  split at h
  · rename_i t b
    rw [Bool.and_eq_true] at h
    exact ⟨t, b, rfl, of_decide_eq_true h.1, of_decide_eq_true h.2⟩
  · cases h
theorem shareB_amt {d : D} (h : amtB d = false) : shareB d = false := by
  cases hs : shareB d with
  | false => rfl
  | true =>
    exfalso
    have : amtB d = true := by
      cases d with
      | tup ds =>
        match ds, hs with
        | [.int t, .int b], hs =>
          have hs' : (decide (1 ≤ b) && decide (gcdI t b = 1) && (decide (0 ≤ t) && decide (t ≤ b))) = true := hs
          rw [Bool.and_eq_true] at hs'
          exact hs'.1
      | _ => cases hs
    rw [h] at this
    cases this
theorem share_ok {d : D} (h : Th d) : F_p_is_share [.val d] = some (.val (.bl (shareB d)), [.val d]) := by
  have a := amount_ok h
  by_cases hb : amtB d = true
  · obtain ⟨t, b, rfl, h1, h2⟩ := amtB_true hb
    by_cases c : 0 ≤ t <;> simp [F_p_is_share, b_p_is_share, a, amtB, shareB, h1, h2, c]
  · have hb' : amtB d = false := by simpa using hb
    simp [F_p_is_share, b_p_is_share, a, hb', shareB_amt hb']
/-! ### added up -/
def plusP (p q : Int × Int) : Int × Int := lowP (p.1 * q.2 + q.1 * p.2) (p.2 * q.2)
def Bd (k : Nat) (p : Int × Int) : Prop := p.1.natAbs < 2 ^ k ∧ p.2.natAbs < 2 ^ k ∧ 0 < p.2
theorem pow_mul_lt {a b j k : Nat} (ha : a < 2 ^ j) (hb : b < 2 ^ k) : a * b < 2 ^ (j + k) := by
  rw [Nat.pow_add]
  exact Nat.mul_lt_mul'' ha hb
theorem mulOk_bd {i j : Int} {k : Nat} (hi : i.natAbs < 2 ^ k) (hj : j.natAbs < 2 ^ k) (h : k ≤ 5000) : mulOk i j = true := by
  unfold mulOk
  rw [Bool.or_eq_true, Bool.or_eq_true, Bool.and_eq_true]
  have := Nat.pow_le_pow_right (n := 2) (by decide) h
  exact .inr (.inr ⟨decide_eq_true (by omega), decide_eq_true (by omega)⟩)
theorem ediv_abs (a b : Int) : (a / b).natAbs ≤ a.natAbs := Int.natAbs_ediv_le_natAbs a b
theorem gcdI_dvd {t b : Int} : gcdI t b ∣ b := by
  unfold gcdI
  have : Nat.gcd t.natAbs b.natAbs ∣ b.natAbs := Nat.gcd_dvd_right _ _
  exact Int.ofNat_dvd_left.mpr this
theorem low_pos {t b : Int} (h : 0 < b) : 0 < (lowP t b).2 := by
  show 0 < b / gcdI t b
  exact Int.ediv_pos_of_pos_of_dvd h (Int.le_of_lt (gcdI_pos h)) gcdI_dvd
theorem plus_bd {p q : Int × Int} {j k : Nat} (hp : Bd j p) (hq : Bd k q) : Bd (j + k + 1) (plusP p q) := by
  obtain ⟨p1, p2, p3⟩ := hp
  obtain ⟨q1, q2, q3⟩ := hq
  have a1 := pow_mul_lt p1 q2
  have a2 := pow_mul_lt q1 p2
  have a3 := pow_mul_lt p2 q2
  rw [Nat.add_comm k j] at a2
  have e : 2 ^ (j + k + 1) = 2 ^ (j + k) + 2 ^ (j + k) := by rw [Nat.pow_succ]; omega
  refine ⟨?_, ?_, low_pos (Int.mul_pos p3 q3)⟩
  · refine Nat.lt_of_le_of_lt (ediv_abs _ _) ?_
    refine Nat.lt_of_le_of_lt (Int.natAbs_add_le _ _) ?_
    rw [Int.natAbs_mul, Int.natAbs_mul, e]
    omega
  · refine Nat.lt_of_le_of_lt (ediv_abs _ _) ?_
    rw [Int.natAbs_mul, e]
    omega
theorem plus_ok {p q : Int × Int} {j k : Nat} (hp : Bd j p) (hq : Bd k q) (hj : j ≤ 4000) (hk : k ≤ 4000) (hjk : j + k ≤ 8000) : F_p_plus [.val (amD p), .val (amD q)] = some (.val (amD (plusP p q)), [.val (amD p), .val (amD q)]) := by
  have up : ∀ {n m : Nat} {x : Int}, x.natAbs < 2 ^ n → n ≤ m → x.natAbs < 2 ^ m := fun h g => Nat.lt_of_lt_of_le h (Nat.pow_le_pow_right (by decide) g)
  have m1 : mulOk p.1 q.2 = true := mulOk_bd (k := 4000) (up hp.1 hj) (up hq.2.1 hk) (by decide)
  have m2 : mulOk q.1 p.2 = true := mulOk_bd (k := 4000) (up hq.1 hk) (up hp.2.1 hj) (by decide)
  have m3 : mulOk p.2 q.2 = true := mulOk_bd (k := 4000) (up hp.2.1 hj) (up hq.2.1 hk) (by decide)
  have b1 : (p.2 * q.2).natAbs < 2 ^ 8000 := by
    rw [Int.natAbs_mul]
    exact Nat.lt_of_lt_of_le (pow_mul_lt hp.2.1 hq.2.1) (Nat.pow_le_pow_right (by decide) hjk)
  have l := lowest_ok (t := p.1 * q.2 + q.1 * p.2) (Int.mul_pos hp.2.2 hq.2.2) b1
  simp [F_p_plus, b_p_plus, amD, m1, m2, m3, l, plusP]
def prD : D → Int × Int
  | .tup [.int t, .int b] => (t, b)
  | _ => (0, 1)
def totP (ps : List (Int × Int)) (a : Int × Int) : Int × Int := ps.foldl plusP a
theorem total_loop : ∀ (ps : List (Int × Int)) (a : Int × Int) (k : Nat) (x : D) (o : Option Wv), Bd (141 * k + 1) a → (∀ p ∈ ps, Bd 140 p) → k + ps.length ≤ 20 →
    ∃ o', forD (tNm 1 2) (xAsg 1 1 (eCall 2 F_p_plus [(.pk 1), (.pk 2)])) (ps.map amD) [some (.val x), some (.val (amD a)), o] = some (.nx, [some (.val x), some (.val (amD (totP ps a))), o'])
  | [], a, k, x, o, ha, hp, hk => ⟨o, rfl⟩
  | p :: ps, a, k, x, o, ha, hp, hk => by
    have hk' : k + (ps.length + 1) ≤ 20 := by simpa using hk
    have hpp := hp p (by simp)
    have pl := plus_ok ha hpp (by omega) (by decide) (by omega)
    have bd := plus_bd ha hpp
    have e1 : 141 * k + 1 + 140 + 1 = 141 * (k + 1) + 1 := by omega
    rw [e1] at bd
    obtain ⟨o', ih⟩ := total_loop ps (plusP a p) (k + 1) x (some (.val (amD p))) bd (fun q hq => hp q (List.mem_cons_of_mem _ hq)) (by omega)
    refine ⟨o', ?_⟩
    rw [List.map_cons, forD_cons]
    simp [isLb, pl, ih, totP]
end Mi
end
section
set_option Elab.async false
set_option linter.all false
set_option maxRecDepth 100000
set_option maxHeartbeats 4000000
set_option exponentiation.threshold 10000
namespace Mi
open PySem PySem.Spec L2
theorem bd0 : Bd (141 * 0 + 1) (0, 1) := ⟨by decide, by decide, by decide⟩
theorem share_bd {d : D} (h : Th d) (s : shareB d = true) : d = amD (prD d) ∧ Bd 140 (prD d) := by
  cases h with
  | @tup ds h l =>
    match ds, h, s with
    | [.int t, .int b], h, s =>
      have s' : (decide (1 ≤ b) && decide (gcdI t b = 1) && (decide (0 ≤ t) && decide (t ≤ b))) = true := s
      rw [Bool.and_eq_true, Bool.and_eq_true, Bool.and_eq_true] at s'
      have h1 := h (.int t) (by simp)
      have h2 := h (.int b) (by simp)
      cases h1 with
      | int h1 =>
        cases h2 with
        | int h2 =>
          have := of_decide_eq_true s'.1.1
          exact ⟨rfl, h1, h2, by show 0 < b; omega⟩
  | _ => cases s
theorem shares_am : ∀ {ds : List D}, (∀ d ∈ ds, Th d) → ds.all shareB = true → ds = (ds.map prD).map amD ∧ ∀ p ∈ ds.map prD, Bd 140 p
  | [], _, _ => ⟨rfl, fun p hp => by simp at hp⟩
  | d :: ds, h, s => by
    rw [List.all_cons, Bool.and_eq_true] at s
    obtain ⟨h1, h2⟩ := share_bd (h d (by simp)) s.1
    obtain ⟨h3, h4⟩ := shares_am (fun x hx => h x (List.mem_cons_of_mem _ hx)) s.2
    refine ⟨?_, fun p hp => ?_⟩
    · rw [List.map_cons, List.map_cons, ← h1, ← h3]
    · rw [List.map_cons] at hp
      rcases List.mem_cons.mp hp with rfl | hp
      · exact h2
      · exact h4 p hp
theorem total_ok {ps : List (Int × Int)} (hp : ∀ p ∈ ps, Bd 140 p) (hl : ps.length ≤ 20) : F_p_total [.val (.tup (ps.map amD))] = some (.val (amD (totP ps (0, 1))), [.val (.tup (ps.map amD))]) := by
  obtain ⟨o', h⟩ := total_loop ps (0, 1) 0 (.tup (ps.map amD)) none bd0 hp (by omega)
  have e : k_NOTHING = amD (0, 1) := rfl
  simp [F_p_total, b_p_total, isLb, e, h]
@[simp] theorem okEq_am {p q : Int × Int} : okEq (amD p) (amD q) = true := rfl
@[simp] theorem deq_am {p q : Int × Int} : deq (amD p) (amD q) = decide (p = q) := by
  show ((p.1 == q.1) && ((p.2 == q.2) && true)) = decide (p = q)
  rw [Bool.and_true]
  by_cases h : p = q
  · subst h; simp
  · rw [decide_eq_false h]
    by_cases h1 : p.1 = q.1
    · by_cases h2 : p.2 = q.2
      · exact absurd (Prod.ext h1 h2) h
      · simp [h2]
    · simp [h1]
/-- a share for each, a whole -/
def ownersB (n : Int) : D → Bool
  | .tup ds => decide ((ds.length : Int) = n) && (ds.all shareB && decide (totP (ds.map prD) (0, 1) = (1, 1)))
  | _ => false
theorem paired_map {α β : Type} {p : α → β} : ∀ {xs : List α} {ys : List β}, Paired (fun x y => y = p x) xs ys → ys = xs.map p
  | _, _, .nil => rfl
  | _, _, .cons h t => by rw [List.map_cons, ← paired_map t, h]
theorem shares_comp {ds : List D} (h : ∀ d ∈ ds, Th d) (hl : ds.length ≤ 1000) : ∃ o', compD (tNm 0 0) eTrue (eCall 1 F_p_is_share [(.pk 0)]) ds [] [none] = some (ds.map fun d => .bl (shareB d), [o']) := by
  obtain ⟨ys, C', o', e, l, _, _, r⟩ := comp_inv (I := fun C => C = []) (R := fun d y => y = .bl (shareB d)) (n := 0) (f := eCall 1 F_p_is_share [(.pk 0)]) (ds := ds) (acc := []) (C := []) (o := none) rfl rfl (by simp; exact size_big hl) fun C d hd _ hC => by
    subst hC
    refine ⟨.val (.bl (shareB d)), [], ?_, rfl, rfl, rfl⟩
    simp [share_ok (h d hd)]
  have hC : C' = [] := List.length_eq_zero_iff.mp l
  subst hC
  rw [paired_map r] at e
  exact ⟨o', by simpa using e⟩
theorem all_map {α : Type} (p : α → Bool) (xs : List α) : (xs.map p).all id = xs.all p := by
  induction xs with
  | nil => rfl
  | cons x xs ih => simp [ih]
theorem owners_ok {d : D} (h : Th d) (n : Int) (hn : n ≤ 20) : F_p_are_owners [.val (.int n), .val d] = some (.val (.bl (ownersB n d)), [.val (.int n), .val d]) := by
  have t := tupleOf_ok h n
  cases h with
  | @tup ds h l =>
    by_cases c : (ds.length : Int) = n
    · have ct : tupLen n (.tup ds) = true := by simp [tupLen, c]
      obtain ⟨o', e⟩ := shares_comp h l
      have b := bls_map shareB ds
      by_cases s : ds.all shareB = true
      · obtain ⟨s1, s2⟩ := shares_am h s
        have tt := total_ok (ps := ds.map prD) s2 (by simp; omega)
        rw [← s1] at tt
        have e1 : k_ALL = amD (1, 1) := rfl
        have am := all_map shareB ds
        simp [F_p_are_owners, b_p_are_owners, t, ct, e, b, am, s, tt, e1, ownersB, c]
      · have s' : ds.all shareB = false := by simpa using s
        have am := all_map shareB ds
        simp [F_p_are_owners, b_p_are_owners, t, ct, e, b, am, s', ownersB, c]
    · have ct : tupLen n (.tup ds) = false := by simp [tupLen, c]
      simp [F_p_are_owners, b_p_are_owners, t, ct, ownersB, c]
  | _ => simp [F_p_are_owners, b_p_are_owners, t, tupLen, ownersB]
end Mi
end
section
set_option Elab.async false
set_option linter.all false
set_option maxRecDepth 100000
set_option maxHeartbeats 4000000
set_option exponentiation.threshold 10000
namespace Mi
open PySem PySem.Spec L2
/-! ### a train's first two numbers, and what a deed's parts are -/
def trD (p k : Int) (r : List D) : D := .tup (.int p :: .int k :: r)
section
variable {d : D} {p k : Int} {r : List D}
theorem partner_ok (h : Th d) : F_p_is_partner [.val (trD p k r), .val d] = some (.val (.bl (withinB 0 (p - 1) d)), [.val (trD p k r), .val d]) := by
  simp [F_p_is_partner, b_p_is_partner, trD, within_ok h]
theorem kind_ok (h : Th d) : F_p_is_kind [.val (trD p k r), .val d] = some (.val (.bl (withinB 0 (k - 1) d)), [.val (trD p k r), .val d]) := by
  simp [F_p_is_kind, b_p_is_kind, trD, within_ok h]
theorem loadno_ok (h : Th d) : F_p_is_load_number [.val (trD p k r), .val d] = some (.val (.bl (fromB 0 d)), [.val (trD p k r), .val d]) := by
  simp [F_p_is_load_number, b_p_is_load_number, trD, from_ok h]
theorem tradeno_ok (h : Th d) : F_p_is_trade_number [.val (trD p k r), .val d] = some (.val (.bl (withinB 0 9 d)), [.val (trD p k r), .val d]) := by
  simp [F_p_is_trade_number, b_p_is_trade_number, trD, within_ok h]
theorem pieces_ok (h : Th d) : F_p_are_pieces [.val (trD p k r), .val d] = some (.val (.bl (fromB 1 d)), [.val (trD p k r), .val d]) := by
  simp [F_p_are_pieces, b_p_are_pieces, trD, from_ok h]
def valsB (n : Int) : D → Bool
  | .tup ds => decide ((ds.length : Int) = n) && ds.all (withinB 1 99)
  | _ => false
theorem vals_comp {ds : List D} (h : ∀ d ∈ ds, Th d) (hl : ds.length ≤ 1000) : ∃ o', compD (tNm 0 0) eTrue (eCall 3 F_p_is_within [(.pk 0), (.ex (eC (.int 1))), (.ex (eC (.int 99)))]) ds [] [none] = some (ds.map fun d => .bl (withinB 1 99 d), [o']) := by
  obtain ⟨ys, C', o', e, l, _, _, rr⟩ := comp_inv (I := fun C => C = []) (R := fun d y => y = .bl (withinB 1 99 d)) (n := 0) (f := eCall 3 F_p_is_within [(.pk 0), (.ex (eC (.int 1))), (.ex (eC (.int 99)))]) (ds := ds) (acc := []) (C := []) (o := none) rfl rfl (by simp; exact size_big hl) fun C d hd _ hC => by
    subst hC
    refine ⟨.val (.bl (withinB 1 99 d)), [], ?_, rfl, rfl, rfl⟩
    simp [within_ok (h d hd)]
  have hC : C' = [] := List.length_eq_zero_iff.mp l
  subst hC
  rw [paired_map rr] at e
  exact ⟨o', by simpa using e⟩
theorem values_ok (h : Th d) (n : Int) : F_p_are_values [.val d, .val (.int n)] = some (.val (.bl (valsB n d)), [.val d, .val (.int n)]) := by
  have t := tupleOf_ok h n
  cases h with
  | @tup ds h l =>
    by_cases c : (ds.length : Int) = n
    · have ct : tupLen n (.tup ds) = true := by simp [tupLen, c]
      obtain ⟨o', e⟩ := vals_comp h l
      have b := bls_map (withinB 1 99) ds
      have am := all_map (withinB 1 99) ds
      simp [F_p_are_values, b_p_are_values, t, ct, e, b, am, valsB, c]
    · have ct : tupLen n (.tup ds) = false := by simp [tupLen, c]
      simp [F_p_are_values, b_p_are_values, t, ct, valsB, c]
  | _ => simp [F_p_are_values, b_p_are_values, t, tupLen, valsB]
theorem worths_ok (h : Th d) : F_p_are_worths [.val (trD p k r), .val d] = some (.val (.bl (valsB (k + 1) d)), [.val (trD p k r), .val d]) := by
  simp [F_p_are_worths, b_p_are_worths, trD, values_ok h]
def soldB : D → Bool
  | .tup [.int t, .int b] => shareB (.tup [.int t, .int b]) && (decide (0 < t) && decide (b ≤ 12))
  | _ => false
theorem shareB_true {d : D} (h : shareB d = true) : ∃ t b : Int, d = .tup [.int t, .int b] := by
  cases ha : amtB d with
  | false => rw [shareB_amt ha] at h; cases h
  | true =>
    obtain ⟨t, b, e, _⟩ := amtB_true ha
    exact ⟨t, b, e⟩
theorem soldB_false {d : D} (h : shareB d = false) : soldB d = false := by
  cases d with
  | tup ds =>
    match ds, h with
    | [.int t, .int b], h =>
      show (shareB (.tup [.int t, .int b]) && _) = false
      rw [h]; rfl
    | [], _ => rfl
    | [x], _ => cases x <;> rfl
    | x :: y :: z :: q, _ => cases x <;> (first | rfl | (cases y <;> rfl))
    | [.int t, .non], _ => rfl
    | [.int t, .bl _], _ => rfl
    | [.int t, .str _], _ => rfl
    | [.int t, .ty _], _ => rfl
    | [.int t, .tup _], _ => rfl
    | [.int t, .lst _], _ => rfl
    | [.int t, .dct _], _ => rfl
    | [.int t, .scr _], _ => rfl
    | [.non, _], _ => rfl
    | [.bl _, _], _ => rfl
    | [.str _, _], _ => rfl
    | [.ty _, _], _ => rfl
    | [.tup _, _], _ => rfl
    | [.lst _, _], _ => rfl
    | [.dct _, _], _ => rfl
    | [.scr _, _], _ => rfl
  | _ => rfl
theorem sold_ok (h : Th d) : F_p_is_sold_share [.val (trD p k r), .val d] = some (.val (.bl (soldB d)), [.val (trD p k r), .val d]) := by
  have s := share_ok h
  cases hs : shareB d with
  | true =>
    obtain ⟨t, b, rfl⟩ := shareB_true hs
    by_cases c : 0 < t <;> simp [F_p_is_sold_share, b_p_is_sold_share, s, hs, soldB, c]
  | false => simp [F_p_is_sold_share, b_p_is_sold_share, s, hs, soldB_false hs]
/-! ### by their names -/
theorem xTbl_run {np : Nat} {tbl : List (Str × Fn)} {i j : Nat} {os : List Opd} {E : En} : xTbl np tbl i j os E = if ((at? E i).isNone && decide (i < E.length)) = true then (at? E j).bind fun w => match w with
  | .val (.str p) => (tbl.lookup p).bind fun G => xRet (eCall np G os) E
  | _ => none
  else none := rfl
@[simp] theorem tbl_partner : List.lookup (Str.ofString "partner") tb_PARTS = some F_p_is_partner := rfl
@[simp] theorem tbl_kind : List.lookup (Str.ofString "kind") tb_PARTS = some F_p_is_kind := rfl
@[simp] theorem tbl_load : List.lookup (Str.ofString "load") tb_PARTS = some F_p_is_load_number := rfl
@[simp] theorem tbl_number : List.lookup (Str.ofString "number") tb_PARTS = some F_p_is_trade_number := rfl
@[simp] theorem tbl_pieces : List.lookup (Str.ofString "pieces") tb_PARTS = some F_p_are_pieces := rfl
@[simp] theorem tbl_worths : List.lookup (Str.ofString "worths") tb_PARTS = some F_p_are_worths := rfl
@[simp] theorem tbl_share : List.lookup (Str.ofString "share") tb_PARTS = some F_p_is_sold_share := rfl
theorem part_partner (h : Th d) : F_p_is_part [.val (trD p k r), .val (.str "partner"), .val d] = some (.val (.bl (withinB 0 (p - 1) d)), [.val (trD p k r), .val (.str "partner"), .val d]) := by
  simp [F_p_is_part, b_p_is_part, xTbl_run, partner_ok h]
theorem part_kind (h : Th d) : F_p_is_part [.val (trD p k r), .val (.str "kind"), .val d] = some (.val (.bl (withinB 0 (k - 1) d)), [.val (trD p k r), .val (.str "kind"), .val d]) := by
  simp [F_p_is_part, b_p_is_part, xTbl_run, kind_ok h]
theorem part_load (h : Th d) : F_p_is_part [.val (trD p k r), .val (.str "load"), .val d] = some (.val (.bl (fromB 0 d)), [.val (trD p k r), .val (.str "load"), .val d]) := by
  simp [F_p_is_part, b_p_is_part, xTbl_run, loadno_ok h]
theorem part_number (h : Th d) : F_p_is_part [.val (trD p k r), .val (.str "number"), .val d] = some (.val (.bl (withinB 0 9 d)), [.val (trD p k r), .val (.str "number"), .val d]) := by
  simp [F_p_is_part, b_p_is_part, xTbl_run, tradeno_ok h]
theorem part_pieces (h : Th d) : F_p_is_part [.val (trD p k r), .val (.str "pieces"), .val d] = some (.val (.bl (fromB 1 d)), [.val (trD p k r), .val (.str "pieces"), .val d]) := by
  simp [F_p_is_part, b_p_is_part, xTbl_run, pieces_ok h]
theorem part_worths (h : Th d) : F_p_is_part [.val (trD p k r), .val (.str "worths"), .val d] = some (.val (.bl (valsB (k + 1) d)), [.val (trD p k r), .val (.str "worths"), .val d]) := by
  simp [F_p_is_part, b_p_is_part, xTbl_run, worths_ok h]
theorem part_share (h : Th d) : F_p_is_part [.val (trD p k r), .val (.str "share"), .val d] = some (.val (.bl (soldB d)), [.val (trD p k r), .val (.str "share"), .val d]) := by
  simp [F_p_is_part, b_p_is_part, xTbl_run, sold_ok h]
end
end Mi
end
section
set_option Elab.async false
set_option linter.all false
set_option maxRecDepth 100000
set_option maxHeartbeats 8000000
set_option exponentiation.threshold 10000
namespace Mi
open PySem PySem.Spec L2
def loadB (p k : Int) : D → Bool
  | .tup [a, b, c] => withinB 0 (k - 1) a && (fromB 0 b && ownersB p c)
  | _ => false
theorem load_ok {d : D} {p k : Int} {r : List D} (h : Th d) (hp : p ≤ 20) : F_p_is_load [.val (trD p k r), .val d] = some (.val (.bl (loadB p k d)), [.val (trD p k r), .val d]) := by
  have t := tupleOf_ok h 3
  cases h with
  | @tup ds h l =>
    match ds, h with
    | [], h => simp [F_p_is_load, b_p_is_load, t, tupLen, loadB]
    | [x], h => simp [F_p_is_load, b_p_is_load, t, tupLen, loadB]
    | [x, y], h => simp [F_p_is_load, b_p_is_load, t, tupLen, loadB]
    | [x, y, z], h =>
      have k1 := kind_ok (p := p) (k := k) (r := r) (h x (by simp))
      have k2 := from_ok (h y (by simp)) 0
      have k3 := owners_ok (h z (by simp)) p hp
      have e : atI (D.int p :: D.int k :: r) 0 = some (D.int p) := atI_0
      cases c1 : withinB 0 (k - 1) x <;> cases c2 : fromB 0 y <;> simp [F_p_is_load, b_p_is_load, t, tupLen, isLb, k1, k2, k3, c1, c2, loadB, trD] <;> simp [trD] at k1 <;> simp [k1, c1, k2, c2, k3]
    | x :: y :: z :: u :: r, h =>
      have : ¬ ((r.length : Int) + 1 + 1 + 1 + 1 = 3) := by omega
      simp [F_p_is_load, b_p_is_load, t, tupLen, loadB, this]
  | _ => simp [F_p_is_load, b_p_is_load, t, tupLen, loadB]
/-! ### deeds -/
def neD (a b : D) : Bool := !deq a b
def argsB (p k : Int) (w : Str) (xs : List D) : Bool :=
  if w = "bring" then (match xs with | [a, b, c] => withinB 0 (p - 1) a && (withinB 0 (k - 1) b && fromB 1 c) | _ => false)
  else if w = "pool" then (match xs with | [a, b] => fromB 0 a && (fromB 0 b && neD a b) | _ => false)
  else if w = "swap" then (match xs with | [a, b, c, e] => fromB 0 a && (fromB 1 b && (withinB 0 (k - 1) c && fromB 1 e)) | _ => false)
  else if w = "trade" then (match xs with | [n, a, b, c, e] => withinB 0 9 n && (fromB 0 a && (fromB 1 b && (withinB 0 (k - 1) c && fromB 1 e))) | _ => false)
  else if w = "spoil" then (match xs with | [a, b] => fromB 0 a && fromB 1 b | _ => false)
  else if w = "throw" then (match xs with | [a, b, c] => fromB 0 a && (fromB 1 b && valsB (k + 1) c) | _ => false)
  else if w = "sell" then (match xs with | [a, b, c] => withinB 0 (p - 1) a && (withinB 0 (p - 1) b && (soldB c && neD a b)) | _ => false)
  else false
def deedB (p k : Int) : D → Bool
  | .tup (.str w :: xs) => argsB p k w xs
  | _ => false
section
variable {p k : Int} {r : List D}
@[simp] theorem compD_nil {t : Tf} {c f : Ev} {acc : List D} {E : En} : compD t c f [] acc E = some (acc, E) := rfl
@[simp] theorem compD_cons {t : Tf} {c f : Ev} {acc ds : List D} {d : D} {E : En} : compD t c f (d :: ds) acc E = if acc.length < sizeLine then (t d E).bind fun E1 => (c E1).bind fun r => match r.1 with
      | .val (.bl true) => (f r.2).bind fun p => compD t c f ds (acc ++ [fz p.1]) p.2
      | .val (.bl false) => compD t c f ds acc r.2
      | _ => none
    else none := rfl
@[simp] theorem szl0 : (0 : Nat) < sizeLine := by decide
@[simp] theorem szl1 : (1 : Nat) < sizeLine := by decide
@[simp] theorem szl2 : (2 : Nat) < sizeLine := by decide
@[simp] theorem szl3 : (3 : Nat) < sizeLine := by decide
@[simp] theorem szl4 : (4 : Nat) < sizeLine := by decide
@[simp] theorem szl5 : (5 : Nat) < sizeLine := by decide
@[simp] theorem blD_bl {b : Bool} : blD (.bl b) = some b := rfl
@[simp] theorem bls_nil : bls [] = some [] := rfl
@[simp] theorem bls_cons {b : Bool} {ds : List D} : bls (.bl b :: ds) = (bls ds).map fun bs => b :: bs := by
  unfold bls
  rw [List.mapM_cons]
  show (do let r ← some b; let rs ← List.mapM blD ds; pure (r :: rs)) = _
  cases List.mapM blD ds <;> rfl
@[simp] theorem wTop_run {tbl : List (Str × D)} {k : Str} : wTop tbl (.val (.str k)) = (tbl.lookup k).map .val := rfl
@[simp] theorem wTopIn_run {neg : Bool} {tbl : List (Str × D)} {k : Str} : wTopIn neg tbl (.val (.str k)) = some (.val (.bl (if neg then !(tbl.lookup k).isSome else (tbl.lookup k).isSome))) := rfl
@[simp] theorem wIn_run {neg : Bool} {a b : Wv} : wIn neg a b = (asS b).bind fun ds => if (flatD (fz a) && ds.all flatD) = true then some (.val (.bl (if neg then !inD (fz a) ds else inD (fz a) ds))) else none := rfl
@[simp] theorem enu_nil {i : Nat} : enuD i [] = [] := rfl
@[simp] theorem enu_cons {i : Nat} {d : D} {ds : List D} : enuD i (d :: ds) = .tup [.int i, d] :: enuD (i + 1) ds := rfl
@[simp] theorem fm_bring : List.lookup (Str.ofString "bring") k_FORMS = some (.tup [.str "partner", .str "kind", .str "pieces"]) := rfl
@[simp] theorem fm_pool : List.lookup (Str.ofString "pool") k_FORMS = some (.tup [.str "load", .str "load"]) := rfl
@[simp] theorem fm_swap : List.lookup (Str.ofString "swap") k_FORMS = some (.tup [.str "load", .str "pieces", .str "kind", .str "pieces"]) := rfl
@[simp] theorem fm_trade : List.lookup (Str.ofString "trade") k_FORMS = some (.tup [.str "number", .str "load", .str "pieces", .str "kind", .str "pieces"]) := rfl
@[simp] theorem fm_spoil : List.lookup (Str.ofString "spoil") k_FORMS = some (.tup [.str "load", .str "pieces"]) := rfl
@[simp] theorem fm_throw : List.lookup (Str.ofString "throw") k_FORMS = some (.tup [.str "load", .str "pieces", .str "worths"]) := rfl
@[simp] theorem fm_sell : List.lookup (Str.ofString "sell") k_FORMS = some (.tup [.str "partner", .str "partner", .str "share"]) := rfl
@[simp] theorem flat_str {x : Str} : flatD (.str x) = true := rfl
@[simp] theorem ul_asS : asS (.val k_UNLIKE) = some [.str "pool", .str "sell"] := rfl
@[simp] theorem ul_bring : inD (.str (Str.ofString "bring")) [.str "pool", .str "sell"] = false := rfl
@[simp] theorem ul_pool : inD (.str (Str.ofString "pool")) [.str "pool", .str "sell"] = true := rfl
@[simp] theorem ul_swap : inD (.str (Str.ofString "swap")) [.str "pool", .str "sell"] = false := rfl
@[simp] theorem ul_trade : inD (.str (Str.ofString "trade")) [.str "pool", .str "sell"] = false := rfl
@[simp] theorem ul_spoil : inD (.str (Str.ofString "spoil")) [.str "pool", .str "sell"] = false := rfl
@[simp] theorem ul_throw : inD (.str (Str.ofString "throw")) [.str "pool", .str "sell"] = false := rfl
@[simp] theorem ul_sell : inD (.str (Str.ofString "sell")) [.str "pool", .str "sell"] = true := rfl
theorem deed_bring {a b c : D} (ha : Th a) (hb : Th b) (hc : Th c) : F_p_is_deed [.val (trD p k r), .val (.tup [.str "bring", a, b, c])] = some (.val (.bl (withinB 0 (p - 1) a && (withinB 0 (k - 1) b && fromB 1 c))), [.val (trD p k r), .val (.tup [.str "bring", a, b, c])]) := by
  have h1 := part_partner (p := p) (k := k) (r := r) ha
  have h2 := part_kind (p := p) (k := k) (r := r) hb
  have h3 := part_pieces (p := p) (k := k) (r := r) hc
  cases c1 : withinB 0 (p - 1) a <;> cases c2 : withinB 0 (k - 1) b <;> cases c3 : fromB 1 c <;> simp [F_p_is_deed, b_p_is_deed, St.Kd.isA, isLb, h1, h2, h3, c1, c2, c3]
end
end Mi
end
section
set_option Elab.async false
set_option linter.all false
set_option maxRecDepth 100000
set_option maxHeartbeats 8000000
set_option exponentiation.threshold 10000
namespace Mi
open PySem PySem.Spec L2
section
variable {p k : Int} {r : List D}
theorem fromB_int {lo : Int} {d : D} (h : fromB lo d = true) : ∃ i, d = .int i := by
  cases d <;> first | exact ⟨_, rfl⟩ | cases h
theorem withinB_int {lo hi : Int} {d : D} (h : withinB lo hi d = true) : ∃ i, d = .int i := by
  cases d <;> first | exact ⟨_, rfl⟩ | cases h
theorem deed_pool {a b : D} (ha : Th a) (hb : Th b) : F_p_is_deed [.val (trD p k r), .val (.tup [.str "pool", a, b])] = some (.val (.bl (fromB 0 a && (fromB 0 b && (neD a b)))), [.val (trD p k r), .val (.tup [.str "pool", a, b])]) := by
  have h1 := part_load (p := p) (k := k) (r := r) ha
  have h2 := part_load (p := p) (k := k) (r := r) hb
  by_cases call : (fromB 0 a && (fromB 0 b)) = true
  · simp only [Bool.and_eq_true] at call
    obtain ⟨c1, c2⟩ := call
    obtain ⟨i, rfl⟩ := fromB_int c1
    obtain ⟨j, rfl⟩ := fromB_int c2
    simp [F_p_is_deed, b_p_is_deed, St.Kd.isA, isLb, h1, h2, c1, c2, neD]
  · have call : (fromB 0 a && (fromB 0 b)) = false := by simpa using call
    have fin : (fromB 0 a && (fromB 0 b && (neD a b))) = false := by
      cases c1 : fromB 0 a <;> cases c2 : fromB 0 b <;> simp [c1, c2] at call ⊢
    rw [fin]
    cases c1 : fromB 0 a <;> cases c2 : fromB 0 b <;> first | (simp [c1, c2] at call; done) | simp [F_p_is_deed, b_p_is_deed, St.Kd.isA, isLb, h1, h2, c1, c2]
theorem deed_swap {a b c d : D} (ha : Th a) (hb : Th b) (hc : Th c) (hd : Th d) : F_p_is_deed [.val (trD p k r), .val (.tup [.str "swap", a, b, c, d])] = some (.val (.bl (fromB 0 a && (fromB 1 b && (withinB 0 (k - 1) c && (fromB 1 d))))), [.val (trD p k r), .val (.tup [.str "swap", a, b, c, d])]) := by
  have h1 := part_load (p := p) (k := k) (r := r) ha
  have h2 := part_pieces (p := p) (k := k) (r := r) hb
  have h3 := part_kind (p := p) (k := k) (r := r) hc
  have h4 := part_pieces (p := p) (k := k) (r := r) hd
  cases c1 : fromB 0 a <;> cases c2 : fromB 1 b <;> cases c3 : withinB 0 (k - 1) c <;> cases c4 : fromB 1 d <;> simp [F_p_is_deed, b_p_is_deed, St.Kd.isA, isLb, h1, h2, h3, h4, c1, c2, c3, c4]
theorem deed_trade {a b c d e : D} (ha : Th a) (hb : Th b) (hc : Th c) (hd : Th d) (he : Th e) : F_p_is_deed [.val (trD p k r), .val (.tup [.str "trade", a, b, c, d, e])] = some (.val (.bl (withinB 0 9 a && (fromB 0 b && (fromB 1 c && (withinB 0 (k - 1) d && (fromB 1 e)))))), [.val (trD p k r), .val (.tup [.str "trade", a, b, c, d, e])]) := by
  have h1 := part_number (p := p) (k := k) (r := r) ha
  have h2 := part_load (p := p) (k := k) (r := r) hb
  have h3 := part_pieces (p := p) (k := k) (r := r) hc
  have h4 := part_kind (p := p) (k := k) (r := r) hd
  have h5 := part_pieces (p := p) (k := k) (r := r) he
  cases c1 : withinB 0 9 a <;> cases c2 : fromB 0 b <;> cases c3 : fromB 1 c <;> cases c4 : withinB 0 (k - 1) d <;> cases c5 : fromB 1 e <;> simp [F_p_is_deed, b_p_is_deed, St.Kd.isA, isLb, h1, h2, h3, h4, h5, c1, c2, c3, c4, c5]
theorem deed_spoil {a b : D} (ha : Th a) (hb : Th b) : F_p_is_deed [.val (trD p k r), .val (.tup [.str "spoil", a, b])] = some (.val (.bl (fromB 0 a && (fromB 1 b))), [.val (trD p k r), .val (.tup [.str "spoil", a, b])]) := by
  have h1 := part_load (p := p) (k := k) (r := r) ha
  have h2 := part_pieces (p := p) (k := k) (r := r) hb
  cases c1 : fromB 0 a <;> cases c2 : fromB 1 b <;> simp [F_p_is_deed, b_p_is_deed, St.Kd.isA, isLb, h1, h2, c1, c2]
theorem deed_throw {a b c : D} (ha : Th a) (hb : Th b) (hc : Th c) : F_p_is_deed [.val (trD p k r), .val (.tup [.str "throw", a, b, c])] = some (.val (.bl (fromB 0 a && (fromB 1 b && (valsB (k + 1) c)))), [.val (trD p k r), .val (.tup [.str "throw", a, b, c])]) := by
  have h1 := part_load (p := p) (k := k) (r := r) ha
  have h2 := part_pieces (p := p) (k := k) (r := r) hb
  have h3 := part_worths (p := p) (k := k) (r := r) hc
  cases c1 : fromB 0 a <;> cases c2 : fromB 1 b <;> cases c3 : valsB (k + 1) c <;> simp [F_p_is_deed, b_p_is_deed, St.Kd.isA, isLb, h1, h2, h3, c1, c2, c3]
theorem deed_sell {a b c : D} (ha : Th a) (hb : Th b) (hc : Th c) : F_p_is_deed [.val (trD p k r), .val (.tup [.str "sell", a, b, c])] = some (.val (.bl (withinB 0 (p - 1) a && (withinB 0 (p - 1) b && (soldB c && (neD a b))))), [.val (trD p k r), .val (.tup [.str "sell", a, b, c])]) := by
  have h1 := part_partner (p := p) (k := k) (r := r) ha
  have h2 := part_partner (p := p) (k := k) (r := r) hb
  have h3 := part_share (p := p) (k := k) (r := r) hc
  by_cases call : (withinB 0 (p - 1) a && (withinB 0 (p - 1) b && (soldB c))) = true
  · simp only [Bool.and_eq_true] at call
    obtain ⟨c1, c2, c3⟩ := call
    obtain ⟨i, rfl⟩ := withinB_int c1
    obtain ⟨j, rfl⟩ := withinB_int c2
    simp [F_p_is_deed, b_p_is_deed, St.Kd.isA, isLb, h1, h2, h3, c1, c2, c3, neD]
  · have call : (withinB 0 (p - 1) a && (withinB 0 (p - 1) b && (soldB c))) = false := by simpa using call
    have fin : (withinB 0 (p - 1) a && (withinB 0 (p - 1) b && (soldB c && (neD a b)))) = false := by
      cases c1 : withinB 0 (p - 1) a <;> cases c2 : withinB 0 (p - 1) b <;> cases c3 : soldB c <;> simp [c1, c2, c3] at call ⊢
    rw [fin]
    cases c1 : withinB 0 (p - 1) a <;> cases c2 : withinB 0 (p - 1) b <;> cases c3 : soldB c <;> first | (simp [c1, c2, c3] at call; done) | simp [F_p_is_deed, b_p_is_deed, St.Kd.isA, isLb, h1, h2, h3, c1, c2, c3]
end
end Mi
end
section
set_option Elab.async false
set_option linter.all false
set_option maxRecDepth 100000
set_option maxHeartbeats 8000000
set_option exponentiation.threshold 10000
namespace Mi
open PySem PySem.Spec L2
section
variable {p k : Int} {r : List D}
theorem deed_len {w : Str} {xs form : List D} (hf : List.lookup w k_FORMS = some (.tup form)) (hl : xs.length ≠ form.length) : F_p_is_deed [.val (trD p k r), .val (.tup (.str w :: xs))] = some (.val (.bl false), [.val (trD p k r), .val (.tup (.str w :: xs))]) := by
  have h1 : (((xs.length : Nat) : Int) + 1 == 0) = false := beq_eq_false_iff_ne.mpr (by omega)
  have h2 : (((xs.length : Nat) : Int) + 1 == ((form.length : Nat) : Int) + 1) = false := beq_eq_false_iff_ne.mpr (by omega)
  simp [F_p_is_deed, b_p_is_deed, St.Kd.isA, isLb, hf, h1, h2]
theorem deed_noword {w : Str} {xs : List D} (hf : List.lookup w k_FORMS = none) : F_p_is_deed [.val (trD p k r), .val (.tup (.str w :: xs))] = some (.val (.bl false), [.val (trD p k r), .val (.tup (.str w :: xs))]) := by
  have h1 : (((xs.length : Nat) : Int) + 1 == 0) = false := beq_eq_false_iff_ne.mpr (by omega)
  simp [F_p_is_deed, b_p_is_deed, St.Kd.isA, isLb, hf, h1]
theorem deed_nostr {x : D} {xs : List D} (h : Th x) (hx : ∀ w, x ≠ .str w) : F_p_is_deed [.val (trD p k r), .val (.tup (x :: xs))] = some (.val (.bl false), [.val (trD p k r), .val (.tup (x :: xs))]) := by
  have h1 : (((xs.length : Nat) : Int) + 1 == 0) = false := beq_eq_false_iff_ne.mpr (by omega)
  cases h with
  | str _ => exact absurd rfl (hx _)
  | _ => simp [F_p_is_deed, b_p_is_deed, St.Kd.isA, isLb, h1]
theorem lookup_none {w : Str} (h1 : w ≠ "bring") (h2 : w ≠ "pool") (h3 : w ≠ "swap") (h4 : w ≠ "trade") (h5 : w ≠ "spoil") (h6 : w ≠ "throw") (h7 : w ≠ "sell") : List.lookup w k_FORMS = none := by
  have e : ∀ {u : Str}, w ≠ u → (w == u) = false := fun h => beq_eq_false_iff_ne.mpr h
  unfold k_FORMS
  simp only [List.lookup_cons, e h1, e h2, e h3, e h4, e h5, e h6, e h7, List.lookup_nil]
theorem deed_ok {d : D} (h : Th d) : F_p_is_deed [.val (trD p k r), .val d] = some (.val (.bl (deedB p k d)), [.val (trD p k r), .val d]) := by
  cases h with
  | @tup ds h l =>
    match ds, h with
    | [], h => simp [F_p_is_deed, b_p_is_deed, St.Kd.isA, deedB]
    | x :: xs, h =>
      by_cases hx : ∃ w, x = .str w
      · obtain ⟨w, rfl⟩ := hx
        show F_p_is_deed _ = some (.val (.bl (argsB p k w xs)), _)
        have th : ∀ y ∈ xs, Th y := fun y hy => h y (List.mem_cons_of_mem _ hy)
        unfold argsB
        by_cases h1 : w = "bring"
        · subst h1
          rw [if_pos rfl]
          match xs, th with
          | [a, b, c], th => exact deed_bring (th a (by simp)) (th b (by simp)) (th c (by simp))
          | [], _ => exact deed_len fm_bring (by simp)
          | [_], _ => exact deed_len fm_bring (by simp)
          | [_, _], _ => exact deed_len fm_bring (by simp)
          | _ :: _ :: _ :: _ :: _, _ => exact deed_len fm_bring (by simp)
        rw [if_neg h1]
        by_cases h2 : w = "pool"
        · subst h2
          rw [if_pos rfl]
          match xs, th with
          | [a, b], th => exact deed_pool (th a (by simp)) (th b (by simp))
          | [], _ => exact deed_len fm_pool (by simp)
          | [_], _ => exact deed_len fm_pool (by simp)
          | _ :: _ :: _ :: _, _ => exact deed_len fm_pool (by simp)
        rw [if_neg h2]
        by_cases h3 : w = "swap"
        · subst h3
          rw [if_pos rfl]
          match xs, th with
          | [a, b, c, e], th => exact deed_swap (th a (by simp)) (th b (by simp)) (th c (by simp)) (th e (by simp))
          | [], _ => exact deed_len fm_swap (by simp)
          | [_], _ => exact deed_len fm_swap (by simp)
          | [_, _], _ => exact deed_len fm_swap (by simp)
          | [_, _, _], _ => exact deed_len fm_swap (by simp)
          | _ :: _ :: _ :: _ :: _ :: _, _ => exact deed_len fm_swap (by simp)
        rw [if_neg h3]
        by_cases h4 : w = "trade"
        · subst h4
          rw [if_pos rfl]
          match xs, th with
          | [a, b, c, e, f], th => exact deed_trade (th a (by simp)) (th b (by simp)) (th c (by simp)) (th e (by simp)) (th f (by simp))
          | [], _ => exact deed_len fm_trade (by simp)
          | [_], _ => exact deed_len fm_trade (by simp)
          | [_, _], _ => exact deed_len fm_trade (by simp)
          | [_, _, _], _ => exact deed_len fm_trade (by simp)
          | [_, _, _, _], _ => exact deed_len fm_trade (by simp)
          | _ :: _ :: _ :: _ :: _ :: _ :: _, _ => exact deed_len fm_trade (by simp)
        rw [if_neg h4]
        by_cases h5 : w = "spoil"
        · subst h5
          rw [if_pos rfl]
          match xs, th with
          | [a, b], th => exact deed_spoil (th a (by simp)) (th b (by simp))
          | [], _ => exact deed_len fm_spoil (by simp)
          | [_], _ => exact deed_len fm_spoil (by simp)
          | _ :: _ :: _ :: _, _ => exact deed_len fm_spoil (by simp)
        rw [if_neg h5]
        by_cases h6 : w = "throw"
        · subst h6
          rw [if_pos rfl]
          match xs, th with
          | [a, b, c], th => exact deed_throw (th a (by simp)) (th b (by simp)) (th c (by simp))
          | [], _ => exact deed_len fm_throw (by simp)
          | [_], _ => exact deed_len fm_throw (by simp)
          | [_, _], _ => exact deed_len fm_throw (by simp)
          | _ :: _ :: _ :: _ :: _, _ => exact deed_len fm_throw (by simp)
        rw [if_neg h6]
        by_cases h7 : w = "sell"
        · subst h7
          rw [if_pos rfl]
          match xs, th with
          | [a, b, c], th => exact deed_sell (th a (by simp)) (th b (by simp)) (th c (by simp))
          | [], _ => exact deed_len fm_sell (by simp)
          | [_], _ => exact deed_len fm_sell (by simp)
          | [_, _], _ => exact deed_len fm_sell (by simp)
          | _ :: _ :: _ :: _ :: _, _ => exact deed_len fm_sell (by simp)
        rw [if_neg h7]
        exact deed_noword (lookup_none h1 h2 h3 h4 h5 h6 h7)
      · have hx' : ∀ w, x ≠ .str w := fun w e => hx ⟨w, e⟩
        rw [deed_nostr (h x (by simp)) hx']
        have : deedB p k (.tup (x :: xs)) = false := by
          cases x <;> first | rfl | exact absurd rfl (hx' _)
        rw [this]
  | _ => simp [F_p_is_deed, b_p_is_deed, St.Kd.isA, deedB]
end
end Mi
end
section
set_option Elab.async false
set_option linter.all false
set_option maxRecDepth 100000
set_option maxHeartbeats 8000000
set_option exponentiation.threshold 10000
namespace Mi
open PySem PySem.Spec L2
section
variable {d : D}
@[simp] theorem wIsN_run {neg : Bool} {a : Wv} : wIsN neg a (.val .non) = some (.val (.bl (if neg then !isN a else isN a))) := rfl
@[simp] theorem isN_non : isN (.val .non) = true := rfl
@[simp] theorem isN_int {i : Int} : isN (.val (.int i)) = false := rfl
theorem lin_from (h : Th d) (lo : Int) : F_law_in [.val d, .val (.int lo), .val .non] = some (.val (.bl (fromB lo d)), [.val d, .val (.int lo), .val .non]) := by
  cases h with
  | @int i hi => by_cases c : lo ≤ i <;> simp [F_law_in, b_law_in, St.Kd.isA, fromB, c]
  | _ => simp [F_law_in, b_law_in, St.Kd.isA, fromB]
theorem lin_within (h : Th d) (lo hi : Int) : F_law_in [.val d, .val (.int lo), .val (.int hi)] = some (.val (.bl (withinB lo hi d)), [.val d, .val (.int lo), .val (.int hi)]) := by
  cases h with
  | @int i hi => by_cases c : lo ≤ i <;> simp [F_law_in, b_law_in, St.Kd.isA, withinB, c]
  | _ => simp [F_law_in, b_law_in, St.Kd.isA, withinB]
def lamtB : D → Bool
  | .tup [.int t, .int b] => decide (0 ≤ t) && (decide (1 ≤ b) && decide (gcdI t b = 1))
  | _ => false
theorem lamt_ok (h : Th d) : F_law_is_amount [.val d] = some (.val (.bl (lamtB d)), [.val d]) := by
  cases h with
  | @tup ds h l =>
    match ds, h with
    | [], h => simp [F_law_is_amount, b_law_is_amount, St.Kd.isA, lamtB]
    | [x], h => simp [F_law_is_amount, b_law_is_amount, St.Kd.isA, lamtB]
    | [x, y], h =>
      have hx := h x (by simp)
      have hy := h y (by simp)
      have w1 := lin_from hx 0
      have w2 := lin_from hy 1
      cases hx with
      | @int i hi =>
        by_cases c1 : 0 ≤ i
        · cases hy with
          | @int j hj =>
            by_cases c : 1 ≤ j
            · have g := common_ok i j c1 (by omega)
              simp [F_law_is_amount, b_law_is_amount, St.Kd.isA, w1, w2, fromB, lamtB, c1, c, g]
              rfl
            · simp [F_law_is_amount, b_law_is_amount, St.Kd.isA, w1, w2, fromB, lamtB, c1, c]
          | _ => simp [F_law_is_amount, b_law_is_amount, St.Kd.isA, w1, w2, fromB, lamtB, c1]
        · cases y <;> simp [F_law_is_amount, b_law_is_amount, St.Kd.isA, w1, fromB, lamtB, c1]
      | _ => simp [F_law_is_amount, b_law_is_amount, St.Kd.isA, w1, fromB, lamtB]
    | x :: y :: z :: r, h =>
      have : ((r.length : Int) + 1 + 1 + 1 == 2) = false := beq_eq_false_iff_ne.mpr (by omega)
      simp [F_law_is_amount, b_law_is_amount, St.Kd.isA, lamtB, this]
  | _ => simp [F_law_is_amount, b_law_is_amount, St.Kd.isA, lamtB]
theorem lamtB_true (h : lamtB d = true) : ∃ t b : Int, d = .tup [.int t, .int b] ∧ 0 ≤ t ∧ 1 ≤ b ∧ gcdI t b = 1 := by
  unfold lamtB at h
  split at h
  · rename_i t b
    rw [Bool.and_eq_true, Bool.and_eq_true] at h
    exact ⟨t, b, rfl, of_decide_eq_true h.1, of_decide_eq_true h.2.1, of_decide_eq_true h.2.2⟩
  · cases h
theorem shareB_lamt (h : lamtB d = false) : shareB d = false := by
  cases hs : shareB d with
  | false => rfl
  | true =>
    exfalso
    obtain ⟨t, b, rfl⟩ := shareB_true hs
    have hs' : (decide (1 ≤ b) && decide (gcdI t b = 1) && (decide (0 ≤ t) && decide (t ≤ b))) = true := hs
    have h' : (decide (0 ≤ t) && (decide (1 ≤ b) && decide (gcdI t b = 1))) = false := h
    rw [Bool.and_eq_true, Bool.and_eq_true, Bool.and_eq_true] at hs'
    rw [hs'.1.1, hs'.1.2, hs'.2.1] at h'
    cases h'
theorem lshare_ok (h : Th d) : F_law_is_share [.val d] = some (.val (.bl (shareB d)), [.val d]) := by
  have a := lamt_ok h
  cases hb : lamtB d with
  | true =>
    obtain ⟨t, b, rfl, h0, h1, h2⟩ := lamtB_true hb
    simp [F_law_is_share, b_law_is_share, a, hb, shareB, h0, h1, h2]
  | false => simp [F_law_is_share, b_law_is_share, a, hb, shareB_lamt hb]
theorem lplus_ok {p q : Int × Int} {j k : Nat} (hp : Bd j p) (hq : Bd k q) (hj : j ≤ 4000) (hk : k ≤ 4000) (hjk : j + k ≤ 8000) : F_law_plus [.val (amD p), .val (amD q)] = some (.val (amD (plusP p q)), [.val (amD p), .val (amD q)]) := by
  have up : ∀ {n m : Nat} {x : Int}, x.natAbs < 2 ^ n → n ≤ m → x.natAbs < 2 ^ m := fun h g => Nat.lt_of_lt_of_le h (Nat.pow_le_pow_right (by decide) g)
  have m1 : mulOk p.1 q.2 = true := mulOk_bd (k := 4000) (up hp.1 hj) (up hq.2.1 hk) (by decide)
  have m2 : mulOk q.1 p.2 = true := mulOk_bd (k := 4000) (up hq.1 hk) (up hp.2.1 hj) (by decide)
  have m3 : mulOk p.2 q.2 = true := mulOk_bd (k := 4000) (up hp.2.1 hj) (up hq.2.1 hk) (by decide)
  have b1 : (p.2 * q.2).natAbs < 2 ^ 8000 := by
    rw [Int.natAbs_mul]
    exact Nat.lt_of_lt_of_le (pow_mul_lt hp.2.1 hq.2.1) (Nat.pow_le_pow_right (by decide) hjk)
  have l := made_ok (t := p.1 * q.2 + q.1 * p.2) (Int.mul_pos hp.2.2 hq.2.2) b1
  simp [F_law_plus, b_law_plus, amD, m1, m2, m3, l, plusP]
theorem lsum_loop : ∀ (ps : List (Int × Int)) (a : Int × Int) (k : Nat) (x : D) (o : Option Wv), Bd (141 * k + 1) a → (∀ p ∈ ps, Bd 140 p) → k + ps.length ≤ 20 →
    ∃ o', forD (tNm 1 2) (xAsg 1 1 (eCall 2 F_law_plus [(.pk 1), (.pk 2)])) (ps.map amD) [some (.val x), some (.val (amD a)), o] = some (.nx, [some (.val x), some (.val (amD (totP ps a))), o'])
  | [], a, k, x, o, ha, hp, hk => ⟨o, rfl⟩
  | p :: ps, a, k, x, o, ha, hp, hk => by
    have hk' : k + (ps.length + 1) ≤ 20 := by simpa using hk
    have hpp := hp p (by simp)
    have pl := lplus_ok ha hpp (by omega) (by decide) (by omega)
    have bd := plus_bd ha hpp
    have e1 : 141 * k + 1 + 140 + 1 = 141 * (k + 1) + 1 := by omega
    rw [e1] at bd
    obtain ⟨o', ih⟩ := lsum_loop ps (plusP a p) (k + 1) x (some (.val (amD p))) bd (fun q hq => hp q (List.mem_cons_of_mem _ hq)) (by omega)
    refine ⟨o', ?_⟩
    rw [List.map_cons, forD_cons]
    simp [isLb, pl, ih, totP]
theorem lsum_ok {ps : List (Int × Int)} (hp : ∀ p ∈ ps, Bd 140 p) (hl : ps.length ≤ 20) : F_law_sum [.val (.tup (ps.map amD))] = some (.val (amD (totP ps (0, 1))), [.val (.tup (ps.map amD))]) := by
  obtain ⟨o', h⟩ := lsum_loop ps (0, 1) 0 (.tup (ps.map amD)) none bd0 hp (by omega)
  have e : D.tup [.int 0, .int 1] = amD (0, 1) := rfl
  simp [F_law_sum, b_law_sum, isLb, e, h]
theorem lshares_comp {ds : List D} (h : ∀ d ∈ ds, Th d) (hl : ds.length ≤ 1000) : ∃ o', compD (tNm 0 0) eTrue (eCall 1 F_law_is_share [(.pk 0)]) ds [] [none] = some (ds.map fun d => .bl (shareB d), [o']) := by
  obtain ⟨ys, C', o', e, l, _, _, r⟩ := comp_inv (I := fun C => C = []) (R := fun d y => y = .bl (shareB d)) (n := 0) (f := eCall 1 F_law_is_share [(.pk 0)]) (ds := ds) (acc := []) (C := []) (o := none) rfl rfl (by simp; exact size_big hl) fun C d hd _ hC => by
    subst hC
    refine ⟨.val (.bl (shareB d)), [], ?_, rfl, rfl, rfl⟩
    simp [lshare_ok (h d hd)]
  have hC : C' = [] := List.length_eq_zero_iff.mp l
  subst hC
  rw [paired_map r] at e
  exact ⟨o', by simpa using e⟩
theorem lshares_ok (h : Th d) (n : Int) (hn : n ≤ 20) : F_law_are_shares [.val d, .val (.int n)] = some (.val (.bl (ownersB n d)), [.val d, .val (.int n)]) := by
  cases h with
  | @tup ds h l =>
    by_cases c : (ds.length : Int) = n
    · have ct : (((ds.length : Nat) : Int) == n) = true := by simpa using c
      obtain ⟨o', e⟩ := lshares_comp h l
      have b := bls_map shareB ds
      have am := all_map shareB ds
      by_cases s : ds.all shareB = true
      · obtain ⟨s1, s2⟩ := shares_am h s
        have tt := lsum_ok (ps := ds.map prD) s2 (by simp; omega)
        rw [← s1] at tt
        have e1 : D.tup [.int 1, .int 1] = amD (1, 1) := rfl
        simp [F_law_are_shares, b_law_are_shares, St.Kd.isA, ct, e, b, am, s, tt, e1, ownersB, c]
      · have s' : ds.all shareB = false := by simpa using s
        simp [F_law_are_shares, b_law_are_shares, St.Kd.isA, ct, e, b, am, s', ownersB, c]
    · have ct : (((ds.length : Nat) : Int) == n) = false := by simpa using c
      simp [F_law_are_shares, b_law_are_shares, St.Kd.isA, ct, ownersB, c]
  | _ => simp [F_law_are_shares, b_law_are_shares, St.Kd.isA, ownersB]
end
end Mi
end
section
set_option Elab.async false
set_option linter.all false
set_option maxRecDepth 100000
set_option maxHeartbeats 8000000
set_option exponentiation.threshold 10000
namespace Mi
open PySem PySem.Spec L2
section
variable {d : D} {p k : Int} {r : List D}
theorem lload_ok (h : Th d) (hp : p ≤ 20) : F_law_is_load [.val (trD p k r), .val d] = some (.val (.bl (loadB p k d)), [.val (trD p k r), .val d]) := by
  cases h with
  | @tup ds h l =>
    match ds, h with
    | [], h => simp [F_law_is_load, b_law_is_load, St.Kd.isA, loadB]
    | [x], h => simp [F_law_is_load, b_law_is_load, St.Kd.isA, loadB]
    | [x, y], h => simp [F_law_is_load, b_law_is_load, St.Kd.isA, loadB]
    | [x, y, z], h =>
      have k1 := lin_within (h x (by simp)) 0 (k - 1)
      have k2 := lin_from (h y (by simp)) 0
      have k3 := lshares_ok (h z (by simp)) p hp
      cases c1 : withinB 0 (k - 1) x <;> cases c2 : fromB 0 y <;> simp [F_law_is_load, b_law_is_load, St.Kd.isA, trD, k1, k2, k3, c1, c2, loadB]
    | x :: y :: z :: u :: r, h =>
      have : ((r.length : Int) + 1 + 1 + 1 + 1 == 3) = false := beq_eq_false_iff_ne.mpr (by omega)
      simp [F_law_is_load, b_law_is_load, St.Kd.isA, loadB, this]
  | _ => simp [F_law_is_load, b_law_is_load, St.Kd.isA, loadB]
theorem lvals_comp {ds : List D} (h : ∀ d ∈ ds, Th d) (hl : ds.length ≤ 1000) : ∃ o', compD (tNm 0 0) eTrue (eCall 3 F_law_in [(.pk 0), (.ex (eC (.int 1))), (.ex (eC (.int 99)))]) ds [] [none] = some (ds.map fun d => .bl (withinB 1 99 d), [o']) := by
  obtain ⟨ys, C', o', e, l, _, _, rr⟩ := comp_inv (I := fun C => C = []) (R := fun d y => y = .bl (withinB 1 99 d)) (n := 0) (f := eCall 3 F_law_in [(.pk 0), (.ex (eC (.int 1))), (.ex (eC (.int 99)))]) (ds := ds) (acc := []) (C := []) (o := none) rfl rfl (by simp; exact size_big hl) fun C d hd _ hC => by
    subst hC
    refine ⟨.val (.bl (withinB 1 99 d)), [], ?_, rfl, rfl, rfl⟩
    simp [lin_within (h d hd)]
  have hC : C' = [] := List.length_eq_zero_iff.mp l
  subst hC
  rw [paired_map rr] at e
  exact ⟨o', by simpa using e⟩
theorem lworths_ok (h : Th d) (n : Int) : F_law_are_worths [.val d, .val (.int n)] = some (.val (.bl (valsB n d)), [.val d, .val (.int n)]) := by
  cases h with
  | @tup ds h l =>
    by_cases c : (ds.length : Int) = n
    · have ct : (((ds.length : Nat) : Int) == n) = true := by simpa using c
      obtain ⟨o', e⟩ := lvals_comp h l
      have b := bls_map (withinB 1 99) ds
      have am := all_map (withinB 1 99) ds
      simp [F_law_are_worths, b_law_are_worths, St.Kd.isA, ct, e, b, am, valsB, c]
    · have ct : (((ds.length : Nat) : Int) == n) = false := by simpa using c
      simp [F_law_are_worths, b_law_are_worths, St.Kd.isA, ct, valsB, c]
  | _ => simp [F_law_are_worths, b_law_are_worths, St.Kd.isA, valsB]
theorem lsale_ok {a b c : D} (ha : Th a) (hb : Th b) (hc : Th c) : F_law_is_sale [.val (trD p k r), .val (.tup [a, b, c])] = some (.val (.bl (withinB 0 (p - 1) a && (withinB 0 (p - 1) b && (soldB c && neD a b)))), [.val (trD p k r), .val (.tup [a, b, c])]) := by
  have k1 := lin_within ha 0 (p - 1)
  have k2 := lin_within hb 0 (p - 1)
  have k3 := lshare_ok hc
  cases c1 : withinB 0 (p - 1) a with
  | false => simp [F_law_is_sale, b_law_is_sale, trD, k1, c1]
  | true =>
    cases c2 : withinB 0 (p - 1) b with
    | false => simp [F_law_is_sale, b_law_is_sale, trD, k1, k2, c1, c2]
    | true =>
      obtain ⟨i, rfl⟩ := withinB_int c1
      obtain ⟨j, rfl⟩ := withinB_int c2
      by_cases e : i = j
      · subst e
        simp [F_law_is_sale, b_law_is_sale, trD, k1, k2, c1, c2, neD]
      · have e' : (i == j) = false := by simpa using e
        cases c3 : shareB c with
        | false => simp [F_law_is_sale, b_law_is_sale, trD, k1, k2, k3, c1, c2, c3, neD, e', soldB_false c3]
        | true =>
          obtain ⟨t, u, rfl⟩ := shareB_true c3
          by_cases c4 : 0 < t <;> simp [F_law_is_sale, b_law_is_sale, trD, k1, k2, k3, c1, c2, c3, neD, e', soldB, c4]
/-! ### the law's own look at a deed -/
def manyK : List (Key × D) := [(.inr "bring", .int 3), (.inr "pool", .int 2), (.inr "swap", .int 4), (.inr "trade", .int 5), (.inr "spoil", .int 2), (.inr "throw", .int 3), (.inr "sell", .int 3)]
@[simp] theorem many_run {E : En} : eDict [("bring", .con (.int 3) (.int 3)), ("pool", .con (.int 2) (.int 2)), ("swap", .con (.int 4) (.int 4)), ("trade", .con (.int 5) (.int 5)), ("spoil", .con (.int 2) (.int 2)), ("throw", .con (.int 3) (.int 3)), ("sell", .con (.int 3) (.int 3))] E = some (.val (.dct manyK), E) := rfl
@[simp] theorem eGet_run {i : Nat} {o x : Opd} {E : En} : eGet i o x E = match at? E i with
  | some (.val (.dct _)) => (evs [.pk i, o, x] E).bind fun r => match r.1 with
    | [.val (.dct es), .val (.str k), .val d] => some (.val (match es.find? (fun kv => decide (kv.1 = Sum.inr k)) with | some kv => kv.2 | none => d), r.2)
    | _ => none
  | _ => none := rfl
@[simp] theorem mk_bring : manyK.find? (fun kv => decide (kv.1 = Sum.inr (Str.ofString "bring"))) = some (.inr "bring", .int 3) := rfl
@[simp] theorem mk_pool : manyK.find? (fun kv => decide (kv.1 = Sum.inr (Str.ofString "pool"))) = some (.inr "pool", .int 2) := rfl
@[simp] theorem mk_swap : manyK.find? (fun kv => decide (kv.1 = Sum.inr (Str.ofString "swap"))) = some (.inr "swap", .int 4) := rfl
@[simp] theorem mk_trade : manyK.find? (fun kv => decide (kv.1 = Sum.inr (Str.ofString "trade"))) = some (.inr "trade", .int 5) := rfl
@[simp] theorem mk_spoil : manyK.find? (fun kv => decide (kv.1 = Sum.inr (Str.ofString "spoil"))) = some (.inr "spoil", .int 2) := rfl
@[simp] theorem mk_throw : manyK.find? (fun kv => decide (kv.1 = Sum.inr (Str.ofString "throw"))) = some (.inr "throw", .int 3) := rfl
@[simp] theorem mk_sell : manyK.find? (fun kv => decide (kv.1 = Sum.inr (Str.ofString "sell"))) = some (.inr "sell", .int 3) := rfl
@[simp] theorem wSl_10 {a : Wv} {i : Int} : wSlN true false [a, .val (.int i)] = wSl (some i) none a := rfl
@[simp] theorem wSl_01 {a : Wv} {i : Int} : wSlN false true [a, .val (.int i)] = wSl none (some i) a := rfl
@[simp] theorem wSl_tup {ds : List D} {lo hi : Option Int} : wSl lo hi (.val (.tup ds)) = some (.val (.tup (cutL ds lo hi))) := rfl
@[simp] theorem cut_1 {a : D} {r : List D} : cutL (a :: r) (some 1) none = r := by
  unfold cutL HT.sIx
  simp
@[simp] theorem flat_w {x : Str} : flatD (.str x) = true := rfl
theorem okEq_ss {x y : Str} (h : PyData.strOk x = true) (g : PyData.strOk y = true) : okEq (.str x) (.str y) = true := by
  unfold okEq
  show (PyData.strOk x && PyData.strOk y && _) = true
  rw [h, g]
  rfl
end
end Mi
end
section
set_option Elab.async false
set_option linter.all false
set_option maxRecDepth 100000
set_option maxHeartbeats 8000000
set_option exponentiation.threshold 10000
namespace Mi
open PySem PySem.Spec L2
theorem sk_bring : PyData.strOk (Str.ofString "bring") = true := by decide +kernel
theorem sk_pool : PyData.strOk (Str.ofString "pool") = true := by decide +kernel
theorem sk_swap : PyData.strOk (Str.ofString "swap") = true := by decide +kernel
theorem sk_trade : PyData.strOk (Str.ofString "trade") = true := by decide +kernel
theorem sk_spoil : PyData.strOk (Str.ofString "spoil") = true := by decide +kernel
theorem sk_throw : PyData.strOk (Str.ofString "throw") = true := by decide +kernel
theorem sk_sell : PyData.strOk (Str.ofString "sell") = true := by decide +kernel
@[simp] theorem dq_bring_sell : deq (.str (Str.ofString "bring")) (.str (Str.ofString "sell")) = false := rfl
@[simp] theorem ok_bring_sell : okEq (.str (Str.ofString "bring")) (.str (Str.ofString "sell")) = true := okEq_ss sk_bring sk_sell
@[simp] theorem dq_bring_bring : deq (.str (Str.ofString "bring")) (.str (Str.ofString "bring")) = true := rfl
@[simp] theorem ok_bring_bring : okEq (.str (Str.ofString "bring")) (.str (Str.ofString "bring")) = true := okEq_ss sk_bring sk_bring
@[simp] theorem dq_bring_trade : deq (.str (Str.ofString "bring")) (.str (Str.ofString "trade")) = false := rfl
@[simp] theorem ok_bring_trade : okEq (.str (Str.ofString "bring")) (.str (Str.ofString "trade")) = true := okEq_ss sk_bring sk_trade
@[simp] theorem dq_bring_pool : deq (.str (Str.ofString "bring")) (.str (Str.ofString "pool")) = false := rfl
@[simp] theorem ok_bring_pool : okEq (.str (Str.ofString "bring")) (.str (Str.ofString "pool")) = true := okEq_ss sk_bring sk_pool
@[simp] theorem dq_bring_spoil : deq (.str (Str.ofString "bring")) (.str (Str.ofString "spoil")) = false := rfl
@[simp] theorem ok_bring_spoil : okEq (.str (Str.ofString "bring")) (.str (Str.ofString "spoil")) = true := okEq_ss sk_bring sk_spoil
@[simp] theorem st_bring : inD (.str (Str.ofString "bring")) [.str "swap", .str "trade"] = false := rfl
@[simp] theorem dq_pool_sell : deq (.str (Str.ofString "pool")) (.str (Str.ofString "sell")) = false := rfl
@[simp] theorem ok_pool_sell : okEq (.str (Str.ofString "pool")) (.str (Str.ofString "sell")) = true := okEq_ss sk_pool sk_sell
@[simp] theorem dq_pool_bring : deq (.str (Str.ofString "pool")) (.str (Str.ofString "bring")) = false := rfl
@[simp] theorem ok_pool_bring : okEq (.str (Str.ofString "pool")) (.str (Str.ofString "bring")) = true := okEq_ss sk_pool sk_bring
@[simp] theorem dq_pool_trade : deq (.str (Str.ofString "pool")) (.str (Str.ofString "trade")) = false := rfl
@[simp] theorem ok_pool_trade : okEq (.str (Str.ofString "pool")) (.str (Str.ofString "trade")) = true := okEq_ss sk_pool sk_trade
@[simp] theorem dq_pool_pool : deq (.str (Str.ofString "pool")) (.str (Str.ofString "pool")) = true := rfl
@[simp] theorem ok_pool_pool : okEq (.str (Str.ofString "pool")) (.str (Str.ofString "pool")) = true := okEq_ss sk_pool sk_pool
@[simp] theorem dq_pool_spoil : deq (.str (Str.ofString "pool")) (.str (Str.ofString "spoil")) = false := rfl
@[simp] theorem ok_pool_spoil : okEq (.str (Str.ofString "pool")) (.str (Str.ofString "spoil")) = true := okEq_ss sk_pool sk_spoil
@[simp] theorem st_pool : inD (.str (Str.ofString "pool")) [.str "swap", .str "trade"] = false := rfl
@[simp] theorem dq_swap_sell : deq (.str (Str.ofString "swap")) (.str (Str.ofString "sell")) = false := rfl
@[simp] theorem ok_swap_sell : okEq (.str (Str.ofString "swap")) (.str (Str.ofString "sell")) = true := okEq_ss sk_swap sk_sell
@[simp] theorem dq_swap_bring : deq (.str (Str.ofString "swap")) (.str (Str.ofString "bring")) = false := rfl
@[simp] theorem ok_swap_bring : okEq (.str (Str.ofString "swap")) (.str (Str.ofString "bring")) = true := okEq_ss sk_swap sk_bring
@[simp] theorem dq_swap_trade : deq (.str (Str.ofString "swap")) (.str (Str.ofString "trade")) = false := rfl
@[simp] theorem ok_swap_trade : okEq (.str (Str.ofString "swap")) (.str (Str.ofString "trade")) = true := okEq_ss sk_swap sk_trade
@[simp] theorem dq_swap_pool : deq (.str (Str.ofString "swap")) (.str (Str.ofString "pool")) = false := rfl
@[simp] theorem ok_swap_pool : okEq (.str (Str.ofString "swap")) (.str (Str.ofString "pool")) = true := okEq_ss sk_swap sk_pool
@[simp] theorem dq_swap_spoil : deq (.str (Str.ofString "swap")) (.str (Str.ofString "spoil")) = false := rfl
@[simp] theorem ok_swap_spoil : okEq (.str (Str.ofString "swap")) (.str (Str.ofString "spoil")) = true := okEq_ss sk_swap sk_spoil
@[simp] theorem st_swap : inD (.str (Str.ofString "swap")) [.str "swap", .str "trade"] = true := rfl
@[simp] theorem dq_trade_sell : deq (.str (Str.ofString "trade")) (.str (Str.ofString "sell")) = false := rfl
@[simp] theorem ok_trade_sell : okEq (.str (Str.ofString "trade")) (.str (Str.ofString "sell")) = true := okEq_ss sk_trade sk_sell
@[simp] theorem dq_trade_bring : deq (.str (Str.ofString "trade")) (.str (Str.ofString "bring")) = false := rfl
@[simp] theorem ok_trade_bring : okEq (.str (Str.ofString "trade")) (.str (Str.ofString "bring")) = true := okEq_ss sk_trade sk_bring
@[simp] theorem dq_trade_trade : deq (.str (Str.ofString "trade")) (.str (Str.ofString "trade")) = true := rfl
@[simp] theorem ok_trade_trade : okEq (.str (Str.ofString "trade")) (.str (Str.ofString "trade")) = true := okEq_ss sk_trade sk_trade
@[simp] theorem dq_trade_pool : deq (.str (Str.ofString "trade")) (.str (Str.ofString "pool")) = false := rfl
@[simp] theorem ok_trade_pool : okEq (.str (Str.ofString "trade")) (.str (Str.ofString "pool")) = true := okEq_ss sk_trade sk_pool
@[simp] theorem dq_trade_spoil : deq (.str (Str.ofString "trade")) (.str (Str.ofString "spoil")) = false := rfl
@[simp] theorem ok_trade_spoil : okEq (.str (Str.ofString "trade")) (.str (Str.ofString "spoil")) = true := okEq_ss sk_trade sk_spoil
@[simp] theorem st_trade : inD (.str (Str.ofString "trade")) [.str "swap", .str "trade"] = true := rfl
@[simp] theorem dq_spoil_sell : deq (.str (Str.ofString "spoil")) (.str (Str.ofString "sell")) = false := rfl
@[simp] theorem ok_spoil_sell : okEq (.str (Str.ofString "spoil")) (.str (Str.ofString "sell")) = true := okEq_ss sk_spoil sk_sell
@[simp] theorem dq_spoil_bring : deq (.str (Str.ofString "spoil")) (.str (Str.ofString "bring")) = false := rfl
@[simp] theorem ok_spoil_bring : okEq (.str (Str.ofString "spoil")) (.str (Str.ofString "bring")) = true := okEq_ss sk_spoil sk_bring
@[simp] theorem dq_spoil_trade : deq (.str (Str.ofString "spoil")) (.str (Str.ofString "trade")) = false := rfl
@[simp] theorem ok_spoil_trade : okEq (.str (Str.ofString "spoil")) (.str (Str.ofString "trade")) = true := okEq_ss sk_spoil sk_trade
@[simp] theorem dq_spoil_pool : deq (.str (Str.ofString "spoil")) (.str (Str.ofString "pool")) = false := rfl
@[simp] theorem ok_spoil_pool : okEq (.str (Str.ofString "spoil")) (.str (Str.ofString "pool")) = true := okEq_ss sk_spoil sk_pool
@[simp] theorem dq_spoil_spoil : deq (.str (Str.ofString "spoil")) (.str (Str.ofString "spoil")) = true := rfl
@[simp] theorem ok_spoil_spoil : okEq (.str (Str.ofString "spoil")) (.str (Str.ofString "spoil")) = true := okEq_ss sk_spoil sk_spoil
@[simp] theorem st_spoil : inD (.str (Str.ofString "spoil")) [.str "swap", .str "trade"] = false := rfl
@[simp] theorem dq_throw_sell : deq (.str (Str.ofString "throw")) (.str (Str.ofString "sell")) = false := rfl
@[simp] theorem ok_throw_sell : okEq (.str (Str.ofString "throw")) (.str (Str.ofString "sell")) = true := okEq_ss sk_throw sk_sell
@[simp] theorem dq_throw_bring : deq (.str (Str.ofString "throw")) (.str (Str.ofString "bring")) = false := rfl
@[simp] theorem ok_throw_bring : okEq (.str (Str.ofString "throw")) (.str (Str.ofString "bring")) = true := okEq_ss sk_throw sk_bring
@[simp] theorem dq_throw_trade : deq (.str (Str.ofString "throw")) (.str (Str.ofString "trade")) = false := rfl
@[simp] theorem ok_throw_trade : okEq (.str (Str.ofString "throw")) (.str (Str.ofString "trade")) = true := okEq_ss sk_throw sk_trade
@[simp] theorem dq_throw_pool : deq (.str (Str.ofString "throw")) (.str (Str.ofString "pool")) = false := rfl
@[simp] theorem ok_throw_pool : okEq (.str (Str.ofString "throw")) (.str (Str.ofString "pool")) = true := okEq_ss sk_throw sk_pool
@[simp] theorem dq_throw_spoil : deq (.str (Str.ofString "throw")) (.str (Str.ofString "spoil")) = false := rfl
@[simp] theorem ok_throw_spoil : okEq (.str (Str.ofString "throw")) (.str (Str.ofString "spoil")) = true := okEq_ss sk_throw sk_spoil
@[simp] theorem st_throw : inD (.str (Str.ofString "throw")) [.str "swap", .str "trade"] = false := rfl
@[simp] theorem dq_sell_sell : deq (.str (Str.ofString "sell")) (.str (Str.ofString "sell")) = true := rfl
@[simp] theorem ok_sell_sell : okEq (.str (Str.ofString "sell")) (.str (Str.ofString "sell")) = true := okEq_ss sk_sell sk_sell
@[simp] theorem dq_sell_bring : deq (.str (Str.ofString "sell")) (.str (Str.ofString "bring")) = false := rfl
@[simp] theorem ok_sell_bring : okEq (.str (Str.ofString "sell")) (.str (Str.ofString "bring")) = true := okEq_ss sk_sell sk_bring
@[simp] theorem dq_sell_trade : deq (.str (Str.ofString "sell")) (.str (Str.ofString "trade")) = false := rfl
@[simp] theorem ok_sell_trade : okEq (.str (Str.ofString "sell")) (.str (Str.ofString "trade")) = true := okEq_ss sk_sell sk_trade
@[simp] theorem dq_sell_pool : deq (.str (Str.ofString "sell")) (.str (Str.ofString "pool")) = false := rfl
@[simp] theorem ok_sell_pool : okEq (.str (Str.ofString "sell")) (.str (Str.ofString "pool")) = true := okEq_ss sk_sell sk_pool
@[simp] theorem dq_sell_spoil : deq (.str (Str.ofString "sell")) (.str (Str.ofString "spoil")) = false := rfl
@[simp] theorem ok_sell_spoil : okEq (.str (Str.ofString "sell")) (.str (Str.ofString "spoil")) = true := okEq_ss sk_sell sk_spoil
@[simp] theorem st_sell : inD (.str (Str.ofString "sell")) [.str "swap", .str "trade"] = false := rfl
section
variable {p k : Int} {r : List D}
theorem ldeed_bring {a b c : D} (ha : Th a) (hb : Th b) (hc : Th c) : F_law_is_deed [.val (trD p k r), .val (.tup [.str "bring", a, b, c])] = some (.val (.bl (withinB 0 (p - 1) a && (withinB 0 (k - 1) b && (fromB 1 c)))), [.val (trD p k r), .val (.tup [.str "bring", a, b, c])]) := by
  have h1 := lin_within ha 0 (p - 1)
  have h2 := lin_within hb 0 (k - 1)
  have h3 := lin_from hc 1
  cases c1 : withinB 0 (p - 1) a with
  | false => simp [F_law_is_deed, b_law_is_deed, St.Kd.isA, isLb, trD, h1, c1]
  | true =>
    cases c2 : withinB 0 (k - 1) b with
    | false => simp [F_law_is_deed, b_law_is_deed, St.Kd.isA, isLb, trD, h1, h2, c1, c2]
    | true =>
      cases c3 : fromB 1 c with
      | false => simp [F_law_is_deed, b_law_is_deed, St.Kd.isA, isLb, trD, h1, h2, h3, c1, c2, c3]
      | true =>
        simp [F_law_is_deed, b_law_is_deed, St.Kd.isA, isLb, trD, h1, h2, h3, c1, c2, c3]
theorem ldeed_pool {a b : D} (ha : Th a) (hb : Th b) : F_law_is_deed [.val (trD p k r), .val (.tup [.str "pool", a, b])] = some (.val (.bl (fromB 0 a && (fromB 0 b && (neD a b)))), [.val (trD p k r), .val (.tup [.str "pool", a, b])]) := by
  have h1 := lin_from ha 0
  have h2 := lin_from hb 0
  cases c1 : fromB 0 a with
  | false => simp [F_law_is_deed, b_law_is_deed, St.Kd.isA, isLb, trD, h1, c1]
  | true =>
    cases c2 : fromB 0 b with
    | false => simp [F_law_is_deed, b_law_is_deed, St.Kd.isA, isLb, trD, h1, h2, c1, c2]
    | true =>
      obtain ⟨i, rfl⟩ := fromB_int c1
      obtain ⟨j, rfl⟩ := fromB_int c2
      simp [F_law_is_deed, b_law_is_deed, St.Kd.isA, isLb, trD, h1, h2, c1, c2, neD]
theorem ldeed_swap {a b c d : D} (ha : Th a) (hb : Th b) (hc : Th c) (hd : Th d) : F_law_is_deed [.val (trD p k r), .val (.tup [.str "swap", a, b, c, d])] = some (.val (.bl (fromB 0 a && (fromB 1 b && (withinB 0 (k - 1) c && (fromB 1 d))))), [.val (trD p k r), .val (.tup [.str "swap", a, b, c, d])]) := by
  have h1 := lin_from ha 0
  have h2 := lin_from hb 1
  have h3 := lin_within hc 0 (k - 1)
  have h4 := lin_from hd 1
  cases c1 : fromB 0 a with
  | false => simp [F_law_is_deed, b_law_is_deed, St.Kd.isA, isLb, trD, h1, c1]
  | true =>
    cases c2 : fromB 1 b with
    | false => simp [F_law_is_deed, b_law_is_deed, St.Kd.isA, isLb, trD, h1, h2, c1, c2]
    | true =>
      cases c3 : withinB 0 (k - 1) c with
      | false => simp [F_law_is_deed, b_law_is_deed, St.Kd.isA, isLb, trD, h1, h2, h3, c1, c2, c3]
      | true =>
        cases c4 : fromB 1 d with
        | false => simp [F_law_is_deed, b_law_is_deed, St.Kd.isA, isLb, trD, h1, h2, h3, h4, c1, c2, c3, c4]
        | true =>
          simp [F_law_is_deed, b_law_is_deed, St.Kd.isA, isLb, trD, h1, h2, h3, h4, c1, c2, c3, c4]
theorem ldeed_trade {a b c d e : D} (ha : Th a) (hb : Th b) (hc : Th c) (hd : Th d) (he : Th e) : F_law_is_deed [.val (trD p k r), .val (.tup [.str "trade", a, b, c, d, e])] = some (.val (.bl (withinB 0 9 a && (fromB 0 b && (fromB 1 c && (withinB 0 (k - 1) d && (fromB 1 e)))))), [.val (trD p k r), .val (.tup [.str "trade", a, b, c, d, e])]) := by
  have h1 := lin_within ha 0 9
  have h2 := lin_from hb 0
  have h3 := lin_from hc 1
  have h4 := lin_within hd 0 (k - 1)
  have h5 := lin_from he 1
  cases c1 : withinB 0 9 a with
  | false => simp [F_law_is_deed, b_law_is_deed, St.Kd.isA, isLb, trD, h1, c1]
  | true =>
    cases c2 : fromB 0 b with
    | false => simp [F_law_is_deed, b_law_is_deed, St.Kd.isA, isLb, trD, h1, h2, c1, c2]
    | true =>
      cases c3 : fromB 1 c with
      | false => simp [F_law_is_deed, b_law_is_deed, St.Kd.isA, isLb, trD, h1, h2, h3, c1, c2, c3]
      | true =>
        cases c4 : withinB 0 (k - 1) d with
        | false => simp [F_law_is_deed, b_law_is_deed, St.Kd.isA, isLb, trD, h1, h2, h3, h4, c1, c2, c3, c4]
        | true =>
          cases c5 : fromB 1 e with
          | false => simp [F_law_is_deed, b_law_is_deed, St.Kd.isA, isLb, trD, h1, h2, h3, h4, h5, c1, c2, c3, c4, c5]
          | true =>
            simp [F_law_is_deed, b_law_is_deed, St.Kd.isA, isLb, trD, h1, h2, h3, h4, h5, c1, c2, c3, c4, c5]
theorem ldeed_spoil {a b : D} (ha : Th a) (hb : Th b) : F_law_is_deed [.val (trD p k r), .val (.tup [.str "spoil", a, b])] = some (.val (.bl (fromB 0 a && (fromB 1 b))), [.val (trD p k r), .val (.tup [.str "spoil", a, b])]) := by
  have h1 := lin_from ha 0
  have h2 := lin_from hb 1
  cases c1 : fromB 0 a with
  | false => simp [F_law_is_deed, b_law_is_deed, St.Kd.isA, isLb, trD, h1, c1]
  | true =>
    cases c2 : fromB 1 b with
    | false => simp [F_law_is_deed, b_law_is_deed, St.Kd.isA, isLb, trD, h1, h2, c1, c2]
    | true =>
      simp [F_law_is_deed, b_law_is_deed, St.Kd.isA, isLb, trD, h1, h2, c1, c2]
theorem ldeed_throw {a b c : D} (ha : Th a) (hb : Th b) (hc : Th c) : F_law_is_deed [.val (trD p k r), .val (.tup [.str "throw", a, b, c])] = some (.val (.bl (fromB 0 a && (fromB 1 b && (valsB (k + 1) c)))), [.val (trD p k r), .val (.tup [.str "throw", a, b, c])]) := by
  have h1 := lin_from ha 0
  have h2 := lin_from hb 1
  have h3 := lworths_ok hc (k + 1)
  cases c1 : fromB 0 a with
  | false => simp [F_law_is_deed, b_law_is_deed, St.Kd.isA, isLb, trD, h1, c1]
  | true =>
    cases c2 : fromB 1 b with
    | false => simp [F_law_is_deed, b_law_is_deed, St.Kd.isA, isLb, trD, h1, h2, c1, c2]
    | true =>
      cases c3 : valsB (k + 1) c with
      | false => simp [F_law_is_deed, b_law_is_deed, St.Kd.isA, isLb, trD, h1, h2, h3, c1, c2, c3]
      | true =>
        simp [F_law_is_deed, b_law_is_deed, St.Kd.isA, isLb, trD, h1, h2, h3, c1, c2, c3]
theorem ldeed_sell {a b c : D} (ha : Th a) (hb : Th b) (hc : Th c) : F_law_is_deed [.val (trD p k r), .val (.tup [.str "sell", a, b, c])] = some (.val (.bl (withinB 0 (p - 1) a && (withinB 0 (p - 1) b && (soldB c && (neD a b))))), [.val (trD p k r), .val (.tup [.str "sell", a, b, c])]) := by
  have h1 := lsale_ok (p := p) (k := k) (r := r) ha hb hc
  simp [F_law_is_deed, b_law_is_deed, St.Kd.isA, isLb, h1]
end
end Mi
end
section
set_option Elab.async false
set_option linter.all false
set_option maxRecDepth 100000
set_option maxHeartbeats 8000000
set_option exponentiation.threshold 10000
namespace Mi
open PySem PySem.Spec L2
section
variable {p k : Int} {r : List D}
theorem ldeed_len {w : Str} {xs : List D} {kk : Key} {n : Nat} (hf : manyK.find? (fun kv => decide (kv.1 = Sum.inr w)) = some (kk, .int (n : Int))) (h1 : 1 ≤ xs.length) (hl : xs.length ≠ n) : F_law_is_deed [.val (trD p k r), .val (.tup (.str w :: xs))] = some (.val (.bl false), [.val (trD p k r), .val (.tup (.str w :: xs))]) := by
  have e1 : ¬ (((xs.length : Nat) : Int) + 1 < 2) := by omega
  have e2 : (((n : Nat) : Int) == ((xs.length : Nat) : Int)) = false := beq_eq_false_iff_ne.mpr (by omega)
  simp [F_law_is_deed, b_law_is_deed, St.Kd.isA, isLb, hf, e1, e2]
theorem ldeed_short {w : Str} (h : Th (.str w)) : F_law_is_deed [.val (trD p k r), .val (.tup [.str w])] = some (.val (.bl false), [.val (trD p k r), .val (.tup [.str w])]) := by
  simp [F_law_is_deed, b_law_is_deed, St.Kd.isA, isLb]
theorem ldeed_noword {w : Str} {xs : List D} (hf : manyK.find? (fun kv => decide (kv.1 = Sum.inr w)) = none) (h1 : 1 ≤ xs.length) : F_law_is_deed [.val (trD p k r), .val (.tup (.str w :: xs))] = some (.val (.bl false), [.val (trD p k r), .val (.tup (.str w :: xs))]) := by
  have e1 : ¬ (((xs.length : Nat) : Int) + 1 < 2) := by omega
  have e2 : ((0 : Int) == ((xs.length : Nat) : Int)) = false := beq_eq_false_iff_ne.mpr (by omega)
  simp [F_law_is_deed, b_law_is_deed, St.Kd.isA, isLb, hf, e1, e2]
theorem ldeed_nostr {x : D} {xs : List D} (h : Th x) (hx : ∀ w, x ≠ .str w) : F_law_is_deed [.val (trD p k r), .val (.tup (x :: xs))] = some (.val (.bl false), [.val (trD p k r), .val (.tup (x :: xs))]) := by
  by_cases e1 : (((xs.length : Nat) : Int) + 1 < 2)
  · simp [F_law_is_deed, b_law_is_deed, St.Kd.isA, isLb, e1]
  · cases h with
    | str _ => exact absurd rfl (hx _)
    | _ => simp [F_law_is_deed, b_law_is_deed, St.Kd.isA, isLb, e1]
theorem find_none {w : Str} (h1 : w ≠ "bring") (h2 : w ≠ "pool") (h3 : w ≠ "swap") (h4 : w ≠ "trade") (h5 : w ≠ "spoil") (h6 : w ≠ "throw") (h7 : w ≠ "sell") : manyK.find? (fun kv => decide (kv.1 = Sum.inr w)) = none := by
  have e : ∀ {u : Str}, w ≠ u → decide ((Sum.inr u : Key) = Sum.inr w) = false := fun h => decide_eq_false fun z => h (Sum.inr.inj z).symm
  unfold manyK
  simp only [List.find?_cons, e h1, e h2, e h3, e h4, e h5, e h6, e h7, List.find?_nil]
theorem ldeed_ok {d : D} (h : Th d) : F_law_is_deed [.val (trD p k r), .val d] = some (.val (.bl (deedB p k d)), [.val (trD p k r), .val d]) := by
  cases h with
  | @tup ds h l =>
    match ds, h with
    | [], h => simp [F_law_is_deed, b_law_is_deed, St.Kd.isA, deedB]
    | x :: xs, h =>
      by_cases hx : ∃ w, x = .str w
      · obtain ⟨w, rfl⟩ := hx
        show F_law_is_deed _ = some (.val (.bl (argsB p k w xs)), _)
        have th : ∀ y ∈ xs, Th y := fun y hy => h y (List.mem_cons_of_mem _ hy)
        unfold argsB
        by_cases h1 : w = "bring"
        · subst h1
          rw [if_pos rfl]
          match xs, th with
          | [a, b, c], th => exact ldeed_bring (th a (by simp)) (th b (by simp)) (th c (by simp))
          | [], _ => exact ldeed_short (by simpa using h (.str _) (by simp))
          | [_], _ => exact ldeed_len mk_bring (by simp) (by simp; try omega)
          | [_, _], _ => exact ldeed_len mk_bring (by simp) (by simp; try omega)
          | _ :: _ :: _ :: _ :: _, _ => exact ldeed_len mk_bring (by simp) (by simp; try omega)
        rw [if_neg h1]
        by_cases h2 : w = "pool"
        · subst h2
          rw [if_pos rfl]
          match xs, th with
          | [a, b], th => exact ldeed_pool (th a (by simp)) (th b (by simp))
          | [], _ => exact ldeed_short (by simpa using h (.str _) (by simp))
          | [_], _ => exact ldeed_len mk_pool (by simp) (by simp; try omega)
          | _ :: _ :: _ :: _, _ => exact ldeed_len mk_pool (by simp) (by simp; try omega)
        rw [if_neg h2]
        by_cases h3 : w = "swap"
        · subst h3
          rw [if_pos rfl]
          match xs, th with
          | [a, b, c, e], th => exact ldeed_swap (th a (by simp)) (th b (by simp)) (th c (by simp)) (th e (by simp))
          | [], _ => exact ldeed_short (by simpa using h (.str _) (by simp))
          | [_], _ => exact ldeed_len mk_swap (by simp) (by simp; try omega)
          | [_, _], _ => exact ldeed_len mk_swap (by simp) (by simp; try omega)
          | [_, _, _], _ => exact ldeed_len mk_swap (by simp) (by simp; try omega)
          | _ :: _ :: _ :: _ :: _ :: _, _ => exact ldeed_len mk_swap (by simp) (by simp; try omega)
        rw [if_neg h3]
        by_cases h4 : w = "trade"
        · subst h4
          rw [if_pos rfl]
          match xs, th with
          | [a, b, c, e, f], th => exact ldeed_trade (th a (by simp)) (th b (by simp)) (th c (by simp)) (th e (by simp)) (th f (by simp))
          | [], _ => exact ldeed_short (by simpa using h (.str _) (by simp))
          | [_], _ => exact ldeed_len mk_trade (by simp) (by simp; try omega)
          | [_, _], _ => exact ldeed_len mk_trade (by simp) (by simp; try omega)
          | [_, _, _], _ => exact ldeed_len mk_trade (by simp) (by simp; try omega)
          | [_, _, _, _], _ => exact ldeed_len mk_trade (by simp) (by simp; try omega)
          | _ :: _ :: _ :: _ :: _ :: _ :: _, _ => exact ldeed_len mk_trade (by simp) (by simp; try omega)
        rw [if_neg h4]
        by_cases h5 : w = "spoil"
        · subst h5
          rw [if_pos rfl]
          match xs, th with
          | [a, b], th => exact ldeed_spoil (th a (by simp)) (th b (by simp))
          | [], _ => exact ldeed_short (by simpa using h (.str _) (by simp))
          | [_], _ => exact ldeed_len mk_spoil (by simp) (by simp; try omega)
          | _ :: _ :: _ :: _, _ => exact ldeed_len mk_spoil (by simp) (by simp; try omega)
        rw [if_neg h5]
        by_cases h6 : w = "throw"
        · subst h6
          rw [if_pos rfl]
          match xs, th with
          | [a, b, c], th => exact ldeed_throw (th a (by simp)) (th b (by simp)) (th c (by simp))
          | [], _ => exact ldeed_short (by simpa using h (.str _) (by simp))
          | [_], _ => exact ldeed_len mk_throw (by simp) (by simp; try omega)
          | [_, _], _ => exact ldeed_len mk_throw (by simp) (by simp; try omega)
          | _ :: _ :: _ :: _ :: _, _ => exact ldeed_len mk_throw (by simp) (by simp; try omega)
        rw [if_neg h6]
        by_cases h7 : w = "sell"
        · subst h7
          rw [if_pos rfl]
          match xs, th with
          | [a, b, c], th => exact ldeed_sell (th a (by simp)) (th b (by simp)) (th c (by simp))
          | [], _ => exact ldeed_short (by simpa using h (.str _) (by simp))
          | [_], _ => exact ldeed_len mk_sell (by simp) (by simp; try omega)
          | [_, _], _ => exact ldeed_len mk_sell (by simp) (by simp; try omega)
          | _ :: _ :: _ :: _ :: _, _ => exact ldeed_len mk_sell (by simp) (by simp; try omega)
        rw [if_neg h7]
        match xs with
        | [] => exact ldeed_short (h (.str w) (by simp))
        | y :: ys => exact ldeed_noword (find_none h1 h2 h3 h4 h5 h6 h7) (by simp)
      · have hx' : ∀ w, x ≠ .str w := fun w e => hx ⟨w, e⟩
        rw [ldeed_nostr (h x (by simp)) hx']
        have : deedB p k (.tup (x :: xs)) = false := by
          cases x <;> first | rfl | exact absurd rfl (hx' _)
        rw [this]
  | _ => simp [F_law_is_deed, b_law_is_deed, St.Kd.isA, deedB]
end
end Mi
end
section
set_option Elab.async false
set_option linter.all false
set_option maxRecDepth 100000
set_option maxHeartbeats 8000000
set_option exponentiation.threshold 10000
namespace Mi
open PySem PySem.Spec L2
/-! ### what the law draws -/
theorem pick {xs : List D} {r : Int} (h0 : 0 ≤ r) (h1 : r < xs.length) : ∃ x, atI xs r = some x ∧ x ∈ xs := by
  obtain ⟨n, rfl⟩ : ∃ n : Nat, r = (n : Int) := ⟨r.toNat, by omega⟩
  have hn : n < xs.length := by omega
  exact ⟨xs[n], atI_nat (List.getElem?_eq_getElem hn), List.getElem_mem hn⟩
theorem cell_ok {ns : List Int} {k : Int} (h : 0 ≤ k) : ∃ c, F_law_cell_at [.val (.scr ns), .val (.int k)] = some (.val (.int c), [.val (.scr ns), .val (.int k)]) := by
  by_cases c : k < ns.length
  · obtain ⟨x, e, hx⟩ := pick (xs := ns.map D.int) h (by simpa using c)
    obtain ⟨i, _, rfl⟩ := List.mem_map.mp hx
    exact ⟨i, by simp [F_law_cell_at, b_law_cell_at, c, e]⟩
  · exact ⟨0, by simp [F_law_cell_at, b_law_cell_at, c]⟩
@[simp] theorem pow18 : wPow (.val (.int 10)) (.val (.int 18)) = some (.val (.int 1000000000000000000)) := rfl
@[simp] theorem pow30 : wPow (.val (.int 10)) (.val (.int 30)) = some (.val (.int 1000000000000000000000000000000)) := rfl
@[simp] theorem pow39 : wPow (.val (.int 10)) (.val (.int 39)) = some (.val (.int 1000000000000000000000000000000000000000)) := rfl
@[simp] theorem wNeg_run {i : Int} : wNeg (.val (.int i)) = some (.val (.int (-i))) := rfl
theorem pen_ok (c : Int) : ∃ ds, F_law_pen [.val (.int c)] = some (.own ds, [.val (.int c)]) ∧ Pen ds :=
  ⟨[.int c, .int (if 1000000000000000000 ≤ c then 1 else 0), .int 0, .int (c % 1000000007)], by simp [F_law_pen, b_law_pen], _, _, _, _, rfl, Int.emod_nonneg _ (by decide), Int.emod_lt_of_pos _ (by decide)⟩
/-- a number of a draw's range, small -/
theorem th_small {i : Int} (h0 : -1000000000 ≤ i) (h1 : i ≤ 1000000000) : Th (.int i) := .int (Nat.lt_of_lt_of_le (show i.natAbs < 2 ^ 31 by omega) (Nat.pow_le_pow_right (by decide) (by decide)))
theorem pieces_drawn {ds : List D} (h : Pen ds) : ∃ i ds', F_law_pieces [.own ds] = some (.val (.int i), [.own ds']) ∧ 1 ≤ i ∧ i < 2000000000000000000000000000000 ∧ Pen ds' := by
  obtain ⟨r1, d1, e1, a1, b1, p1⟩ := draw_ok h (n := 99) (by decide) (by decide)
  obtain ⟨r2, d2, e2, a2, b2, p2⟩ := draw_ok p1 (n := 4) (by decide) (by decide)
  obtain ⟨r3, d3, e3, a3, b3, p3⟩ := draw_ok p2 (n := 40) (by decide) (by decide)
  obtain ⟨r4, d4, e4, a4, b4, p4⟩ := draw_ok p3 (n := 999) (by decide) (by decide)
  obtain ⟨r5, d5, e5, a5, b5, p5⟩ := draw_ok p4 (n := 7) (by decide) (by decide)
  obtain ⟨x, ex, hx⟩ := pick (xs := [.int (1 + r2), .int (1 + r3), .int (1 + r4), .int (1000000000000000000000000000000 + r1)]) (r := r5 / 2) (by omega) (by simp; omega)
  have hi : ∃ i : Int, x = .int i ∧ 1 ≤ i ∧ i < 2000000000000000000000000000000 := by
    simp only [List.mem_cons, List.not_mem_nil, or_false] at hx
    rcases hx with rfl | rfl | rfl | rfl
    · exact ⟨_, rfl, by omega, by omega⟩
    · exact ⟨_, rfl, by omega, by omega⟩
    · exact ⟨_, rfl, by omega, by omega⟩
    · exact ⟨_, rfl, by omega, by omega⟩
  obtain ⟨i, rfl, hi⟩ := hi
  exact ⟨i, d5, by simp [F_law_pieces, b_law_pieces, e1, e2, e3, e4, e5, isLb, ex], hi.1, hi.2, p5⟩
theorem rng_len {lo : Int} {n : Nat} : (rngD lo n).length = n := by simp [rngD]
def IPen (C : En) : Prop := ∃ ds, C = [some (.own ds)] ∧ Pen ds
theorem weights_ok {n : Nat} {ds : List D} (h : Pen ds) (hn : n ≤ 20) : ∃ ys ds' o', compD (tNm 1 1) eTrue (eOp (o2 wIx) [(.ex (eOp wLst [(.ex (eC (.int 0))), (.ex (eC (.int 1))), (.ex (eCall 2 F_law_draw [(.pk 0), (.ex (eC (.int 4)))])), (.ex (eCall 2 F_law_draw [(.pk 0), (.ex (eC (.int 9)))]))])), (.ex (eCall 2 F_law_draw [(.pk 0), (.ex (eC (.int 4)))]))]) (rngD 0 n) [] [some (.own ds), none] = some (ys, [some (.own ds'), o']) ∧ Pen ds' ∧ ys.length = n ∧ ∀ y ∈ ys, ∃ i : Int, y = .int i ∧ 0 ≤ i ∧ i ≤ 8 := by
  obtain ⟨ys, C', o', e, l, ⟨ds', rfl, hp⟩, hl, r⟩ := comp_inv (I := IPen) (R := fun _ y => ∃ i : Int, y = .int i ∧ 0 ≤ i ∧ i ≤ 8) (n := 1) (f := eOp (o2 wIx) [(.ex (eOp wLst [(.ex (eC (.int 0))), (.ex (eC (.int 1))), (.ex (eCall 2 F_law_draw [(.pk 0), (.ex (eC (.int 4)))])), (.ex (eCall 2 F_law_draw [(.pk 0), (.ex (eC (.int 9)))]))])), (.ex (eCall 2 F_law_draw [(.pk 0), (.ex (eC (.int 4)))]))])
    (ds := rngD 0 n) (acc := []) (C := [some (.own ds)]) (o := none) rfl ⟨ds, rfl, h⟩ (by simp [rng_len]; exact size_big (by omega)) fun C d hd _ hC => by
      obtain ⟨q, rfl, hq⟩ := hC
      obtain ⟨r1, d1, e1, a1, b1, p1⟩ := draw_ok hq (n := 4) (by decide) (by decide)
      obtain ⟨r2, d2, e2, a2, b2, p2⟩ := draw_ok p1 (n := 9) (by decide) (by decide)
      obtain ⟨r3, d3, e3, a3, b3, p3⟩ := draw_ok p2 (n := 4) (by decide) (by decide)
      obtain ⟨x, ex, hx⟩ := pick (xs := [.int 0, .int 1, .int r1, .int r2]) (r := r3) a3 (by simpa using b3)
      refine ⟨.val x, [some (.own d3)], by simp [e1, e2, e3, ex], rfl, ⟨d3, rfl, p3⟩, ?_⟩
      simp only [List.mem_cons, List.not_mem_nil, or_false] at hx
      rcases hx with rfl | rfl | rfl | rfl
      · exact ⟨0, rfl, by decide, by decide⟩
      · exact ⟨1, rfl, by decide, by decide⟩
      · exact ⟨_, rfl, a1, by omega⟩
      · exact ⟨_, rfl, a2, by omega⟩
  have all2 : ∀ {xs ys : List D}, Paired (fun _ y => ∃ i : Int, y = .int i ∧ 0 ≤ i ∧ i ≤ 8) xs ys → ∀ y ∈ ys, ∃ i : Int, y = .int i ∧ 0 ≤ i ∧ i ≤ 8 := by
    intro xs ys r
    induction r with
    | nil => intro y hy; simp at hy
    | cons h _ ih =>
      intro y hy
      rcases List.mem_cons.mp hy with rfl | hy
      · exact h
      · exact ih y hy
  exact ⟨ys, ds', o', by simpa using e, hp, by rw [hl, rng_len], all2 r⟩
theorem ints_of : ∀ {ys : List D}, (∀ y ∈ ys, ∃ i : Int, y = .int i ∧ 0 ≤ i ∧ i ≤ 8) → ∃ ns : List Int, ys = ns.map D.int ∧ ∀ n ∈ ns, 0 ≤ n ∧ n ≤ 8
  | [], _ => ⟨[], rfl, fun n hn => by simp at hn⟩
  | y :: ys, h => by
    obtain ⟨i, rfl, hi⟩ := h y (by simp)
    obtain ⟨ns, rfl, hn⟩ := ints_of fun z hz => h z (List.mem_cons_of_mem _ hz)
    refine ⟨i :: ns, rfl, fun n hm => ?_⟩
    rcases List.mem_cons.mp hm with rfl | hm
    · exact hi
    · exact hn n hm
theorem intsD_map : ∀ ns : List Int, intsD (ns.map D.int) = some ns
  | [] => rfl
  | n :: ns => by
    have ih := intsD_map ns
    unfold intsD at ih ⊢
    rw [List.map_cons, List.mapM_cons, ih]
    rfl
theorem sum_run {w : Wv} {ns : List Int} (ha : asL w = some (ns.map D.int)) (hl : ns.length ≤ 1000) (hn : ∀ n ∈ ns, 0 ≤ n ∧ n ≤ 8) : wSum w = some (.val (.int ns.sum)) := by
  unfold wSum
  rw [ha, Option.bind_some, intsD_map, Option.bind_some, if_pos]
  rw [Bool.and_eq_true]
  refine ⟨decide_eq_true hl, List.all_eq_true.mpr fun n hm => ?_⟩
  rw [Bool.and_eq_true]
  have := hn n hm
  exact ⟨decide_eq_true this.1, decide_eq_true (by omega)⟩
theorem sum_le {ns : List Int} (hn : ∀ n ∈ ns, 0 ≤ n ∧ n ≤ 8) : 0 ≤ ns.sum ∧ ns.sum ≤ 8 * ns.length ∧ (∀ n ∈ ns, n ≤ ns.sum) := by
  induction ns with
  | nil => simp
  | cons a l ih =>
    obtain ⟨h1, h2, h3⟩ := ih fun n hm => hn n (List.mem_cons_of_mem _ hm)
    have := hn a (by simp)
    rw [List.sum_cons, List.length_cons]
    refine ⟨by omega, by omega, fun n hm => ?_⟩
    rcases List.mem_cons.mp hm with rfl | hm
    · omega
    · have := h3 n hm; omega
end Mi
end
section
set_option Elab.async false
set_option linter.all false
set_option maxRecDepth 100000
set_option maxHeartbeats 8000000
set_option exponentiation.threshold 10000
namespace Mi
open PySem PySem.Spec L2
theorem small8000 {i : Int} (h0 : -1000000000 ≤ i) (h1 : i ≤ 1000000000) : i.natAbs < 2 ^ 8000 := Nat.lt_of_lt_of_le (show i.natAbs < 2 ^ 31 by omega) (Nat.pow_le_pow_right (by decide) (by decide))
def Sm (y : D) : Prop := ∃ q : Int × Int, y = amD q ∧ q.1.natAbs < 2 ^ 31 ∧ q.2.natAbs < 2 ^ 31
theorem Sm.th {y : D} (h : Sm y) : Th y := by
  obtain ⟨q, rfl, h1, h2⟩ := h
  refine .tup (fun d hd => ?_) (by simp)
  simp only [List.mem_cons, List.not_mem_nil, or_false] at hd
  rcases hd with rfl | rfl
  · exact .int (Nat.lt_of_lt_of_le h1 (Nat.pow_le_pow_right (by decide) (by decide)))
  · exact .int (Nat.lt_of_lt_of_le h2 (Nat.pow_le_pow_right (by decide) (by decide)))
theorem madeC_ok {ns : List Int} (hl : ns.length ≤ 20) (hn : ∀ n ∈ ns, 0 ≤ n ∧ n ≤ 8) (hs : 0 < ns.sum) : ∃ ys o', compD (tNm 1 1) eTrue (eCall 2 F_law_made [(.pk 1), (.ex (eOp (o1 wSum) [(.pk 0)]))]) (ns.map D.int) [] [some (.val (.lst (ns.map D.int))), none] = some (ys, [some (.val (.lst (ns.map D.int))), o']) ∧ ys.length = ns.length ∧ ∀ y ∈ ys, Sm y := by
  obtain ⟨h1, h2, h3⟩ := sum_le hn
  have sr := sum_run (w := .val (.lst (ns.map D.int))) rfl (by omega) hn
  obtain ⟨ys, C', o', e, l, hI, hll, r⟩ := comp_inv (I := fun C => C = [some (.val (.lst (ns.map D.int)))]) (R := fun _ y => Sm y) (n := 1) (f := eCall 2 F_law_made [(.pk 1), (.ex (eOp (o1 wSum) [(.pk 0)]))]) (ds := ns.map D.int) (acc := []) (C := [some (.val (.lst (ns.map D.int)))]) (o := none) rfl rfl (by simp; exact size_big (by omega)) fun C d hd _ hC => by
    subst hC
    obtain ⟨i, hi, rfl⟩ := List.mem_map.mp hd
    have hb := hn i hi
    have m := made_ok (t := i) hs (small8000 (by omega) (by omega))
    refine ⟨.val (amD (lowP i ns.sum)), [some (.val (.lst (ns.map D.int)))], by simp [sr, m], rfl, rfl, _, rfl, Nat.lt_of_le_of_lt (ediv_abs _ _) (by omega), Nat.lt_of_le_of_lt (ediv_abs _ _) (by omega)⟩
  subst hI
  have all2 : ∀ {xs ys : List D}, Paired (fun _ y => Sm y) xs ys → ∀ y ∈ ys, Sm y := by
    intro xs ys r
    induction r with
    | nil => intro y hy; simp at hy
    | cons h _ ih =>
      intro y hy
      rcases List.mem_cons.mp hy with rfl | hy
      · exact h
      · exact ih y hy
  exact ⟨ys, o', by simpa using e, by rw [hll, List.length_map], all2 r⟩
theorem whole_drawn {ds : List D} (h : Pen ds) {n : Int} (h1 : 1 ≤ n) (h2 : n ≤ 20) : ∃ ys ds', F_law_whole [.own ds, .val (.int n)] = some (.val (.tup ys), [.own ds', .val (.int n)]) ∧ (ys.length : Int) = n ∧ (∀ y ∈ ys, Sm y) ∧ Pen ds' := by
  obtain ⟨ws, d1, o1', e1, p1, l1, i1⟩ := weights_ok (n := n.toNat) h (by omega)
  obtain ⟨ns, rfl, hn⟩ := ints_of i1
  have ln : ns.length = n.toNat := by simpa using l1
  have r1 : -4611686018427387904 ≤ n := by omega
  have r2 : n < 4611686018427387904 := by omega
  have sr := sum_run (w := .own (ns.map D.int)) rfl (by omega) hn
  obtain ⟨s1, s2, s3⟩ := sum_le hn
  by_cases hz : ns.sum = 0
  · obtain ⟨r, d2, e2, a2, b2, p2⟩ := draw_ok p1 (n := n) (by omega) (by omega)
    have ix : ixN (ns.map D.int).length r = some r.toNat := by
      have := ixN_lit (n := (ns.map D.int).length) (k := r.toNat) (by simp; omega)
      rwa [Int.toNat_of_nonneg a2] at this
    have hn' : ∀ x ∈ ns.set r.toNat 1, 0 ≤ x ∧ x ≤ 8 := fun x hx => by
      rcases List.mem_or_eq_of_mem_set hx with hx | rfl
      · exact hn x hx
      · exact ⟨by decide, by decide⟩
    have hs' : 0 < (ns.set r.toNat 1).sum := by
      have := (sum_le hn').2.2 1 (List.mem_set (by omega) 1)
      omega
    obtain ⟨ys, o2, e3, l3, t3⟩ := madeC_ok (ns := ns.set r.toNat 1) (by simp; omega) hn' hs'
    refine ⟨ys, d2, ?_, by rw [l3, List.length_set, ln]; omega, t3, p2⟩
    rw [List.length_map] at ix
    rw [List.map_set] at e3
    simp [F_law_whole, b_law_whole, r1, r2, e1, isLb, sr, hz, e2, ix, e3]
  · have hz' : (ns.sum == 0) = false := by simpa using hz
    obtain ⟨ys, o2, e3, l3, t3⟩ := madeC_ok (ns := ns) (by omega) hn (by omega)
    refine ⟨ys, d1, ?_, by rw [l3, ln]; omega, t3, p1⟩
    simp [F_law_whole, b_law_whole, r1, r2, e1, isLb, sr, hz', e3]
theorem train_drawn {ds : List D} (h : Pen ds) : ∃ p k r ds', F_law_train [.own ds] = some (.val (trD p k r), [.own ds']) ∧ 1 ≤ p ∧ p ≤ 4 ∧ 1 ≤ k ∧ k ≤ 5 ∧ Pen ds' := by
  obtain ⟨r1, d1, e1, a1, b1, p1⟩ := draw_ok h (n := 4) (by decide) (by decide)
  obtain ⟨r2, d2, e2, a2, b2, p2⟩ := draw_ok p1 (n := 5) (by decide) (by decide)
  obtain ⟨r3, d3, e3, a3, b3, p3⟩ := draw_ok p2 (n := 3) (by decide) (by decide)
  obtain ⟨r4, d4, e4, a4, b4, p4⟩ := draw_ok p3 (n := 20) (by decide) (by decide)
  obtain ⟨r5, d5, e5, a5, b5, p5⟩ := draw_ok p4 (n := 2) (by decide) (by decide)
  obtain ⟨x, ex, hx⟩ := pick (xs := [.int (1 + r3), .int (1 + r4)]) (r := r5) a5 (by simpa using b5)
  obtain ⟨ys, d6, e6, _, _, p6⟩ := whole_drawn p5 (n := 1 + r1) (by omega) (by omega)
  obtain ⟨r7, d7, e7, a7, b7, p7⟩ := draw_ok p6 (n := 10) (by decide) (by decide)
  obtain ⟨r8, d8, e8, a8, b8, p8⟩ := draw_ok p7 (n := 10) (by decide) (by decide)
  exact ⟨1 + r1, 1 + r2, [x, .tup ys, .int r7, .int r8], d8, by simp [F_law_train, b_law_train, e1, e2, e3, e4, e5, ex, e6, e7, e8, isLb, trD], by omega, by omega, by omega, by omega, p8⟩
theorem share_drawn {ds : List D} (h : Pen ds) : ∃ t b ds', F_law_share [.own ds] = some (.val (.tup [.int t, .int b]), [.own ds']) ∧ t.natAbs < 2 ^ 31 ∧ b.natAbs < 2 ^ 31 ∧ Pen ds' := by
  obtain ⟨r1, d1, e1, a1, b1, p1⟩ := draw_ok h (n := 12) (by decide) (by decide)
  obtain ⟨r2, d2, e2, a2, b2, p2⟩ := draw_ok p1 (n := 1 + r1) (by omega) (by omega)
  have m := made_ok (t := 1 + r2) (b := 1 + r1) (by omega) (small8000 (by omega) (by omega))
  refine ⟨(lowP (1 + r2) (1 + r1)).1, (lowP (1 + r2) (1 + r1)).2, d2, by simp [F_law_share, b_law_share, e1, e2, isLb, m, amD], ?_, ?_, p2⟩
  · exact Nat.lt_of_le_of_lt (ediv_abs _ _) (by omega)
  · exact Nat.lt_of_le_of_lt (ediv_abs _ _) (by omega)
theorem worthsC_ok {n : Nat} {ds : List D} (h : Pen ds) (hn : n ≤ 20) : ∃ ys ds' o', compD (tNm 1 1) eTrue (eOp (o2 wAdd) [(.ex (eC (.int 1))), (.ex (eOp (o2 wIx) [(.ex (eOp wLst [(.ex (eCall 2 F_law_draw [(.pk 0), (.ex (eC (.int 3)))])), (.ex (eCall 2 F_law_draw [(.pk 0), (.ex (eC (.int 99)))]))])), (.ex (eCall 2 F_law_draw [(.pk 0), (.ex (eC (.int 2)))]))]))]) (rngD 0 n) [] [some (.own ds), none] = some (ys, [some (.own ds'), o']) ∧ Pen ds' ∧ ys.length = n ∧ ∀ y ∈ ys, ∃ i : Int, y = .int i ∧ 0 ≤ i ∧ i ≤ 100 := by
  obtain ⟨ys, C', o', e, l, ⟨ds', rfl, hp⟩, hl, r⟩ := comp_inv (I := IPen) (R := fun _ y => ∃ i : Int, y = .int i ∧ 0 ≤ i ∧ i ≤ 100) (n := 1) (f := eOp (o2 wAdd) [(.ex (eC (.int 1))), (.ex (eOp (o2 wIx) [(.ex (eOp wLst [(.ex (eCall 2 F_law_draw [(.pk 0), (.ex (eC (.int 3)))])), (.ex (eCall 2 F_law_draw [(.pk 0), (.ex (eC (.int 99)))]))])), (.ex (eCall 2 F_law_draw [(.pk 0), (.ex (eC (.int 2)))]))]))])
    (ds := rngD 0 n) (acc := []) (C := [some (.own ds)]) (o := none) rfl ⟨ds, rfl, h⟩ (by simp [rng_len]; exact size_big (by omega)) fun C d hd _ hC => by
      obtain ⟨q, rfl, hq⟩ := hC
      obtain ⟨r1, d1, e1, a1, b1, p1⟩ := draw_ok hq (n := 3) (by decide) (by decide)
      obtain ⟨r2, d2, e2, a2, b2, p2⟩ := draw_ok p1 (n := 99) (by decide) (by decide)
      obtain ⟨r3, d3, e3, a3, b3, p3⟩ := draw_ok p2 (n := 2) (by decide) (by decide)
      obtain ⟨x, ex, hx⟩ := pick (xs := [.int r1, .int r2]) (r := r3) a3 (by simpa using b3)
      have hi : ∃ i : Int, x = .int i ∧ 0 ≤ i ∧ i ≤ 99 := by
        simp only [List.mem_cons, List.not_mem_nil, or_false] at hx
        rcases hx with rfl | rfl
        · exact ⟨_, rfl, a1, by omega⟩
        · exact ⟨_, rfl, a2, by omega⟩
      obtain ⟨i, rfl, hi⟩ := hi
      exact ⟨.val (.int (1 + i)), [some (.own d3)], by simp [e1, e2, e3, ex], rfl, ⟨d3, rfl, p3⟩, 1 + i, rfl, by omega, by omega⟩
  have all2 : ∀ {xs ys : List D}, Paired (fun _ y => ∃ i : Int, y = .int i ∧ 0 ≤ i ∧ i ≤ 100) xs ys → ∀ y ∈ ys, ∃ i : Int, y = .int i ∧ 0 ≤ i ∧ i ≤ 100 := by
    intro xs ys r
    induction r with
    | nil => intro y hy; simp at hy
    | cons h _ ih =>
      intro y hy
      rcases List.mem_cons.mp hy with rfl | hy
      · exact h
      · exact ih y hy
  exact ⟨ys, ds', o', by simpa using e, hp, by rw [hl, rng_len], all2 r⟩
theorem worths_drawn {ds : List D} (h : Pen ds) {n : Int} (h1 : 0 ≤ n) (h2 : n ≤ 20) : ∃ ys ds', F_law_worths [.own ds, .val (.int n)] = some (.val (.tup ys), [.own ds', .val (.int n)]) ∧ (ys.length : Int) = n ∧ (∀ y ∈ ys, ∃ i : Int, y = .int i ∧ 0 ≤ i ∧ i ≤ 100) ∧ Pen ds' := by
  obtain ⟨ys, d1, o1', e1, p1, l1, i1⟩ := worthsC_ok (n := n.toNat) h (by omega)
  have r1 : -4611686018427387904 ≤ n := by omega
  have r2 : n < 4611686018427387904 := by omega
  exact ⟨ys, d1, by simp [F_law_worths, b_law_worths, r1, r2, e1], by omega, i1, p1⟩
end Mi
end
section
set_option Elab.async false
set_option linter.all false
set_option maxRecDepth 100000
set_option maxHeartbeats 8000000
set_option exponentiation.threshold 10000
namespace Mi
open PySem PySem.Spec L2
def consts : List D := [.non, .bl true, .bl false, .int 0, .int 1, .int (-1), .int 9, .int 1000000000000000000000000000000000000000, .str "", .str "a", .tup [], .lst []]
theorem consts_th {x : D} (h : x ∈ consts) : Th x := by
  simp only [consts, List.mem_cons, List.not_mem_nil, or_false] at h
  rcases h with rfl | rfl | rfl | rfl | rfl | rfl | rfl | rfl | rfl | rfl | rfl | rfl
  · exact .non
  · exact .bl _
  · exact .bl _
  · exact .int (by decide)
  · exact .int (by decide)
  · exact .int (by decide)
  · exact .int (by decide)
  · exact .int (by decide)
  · exact .str _
  · exact .str _
  · exact .tup (fun d hd => by simp at hd) (by simp)
  · exact .lst (fun d hd => by simp at hd) (by simp)
theorem paired_all {R : D → Prop} : ∀ {xs ys : List D}, Paired (fun _ y => R y) xs ys → ∀ y ∈ ys, R y
  | _, _, .nil, y, hy => by simp at hy
  | _, _, .cons h t, y, hy => by
    rcases List.mem_cons.mp hy with rfl | hy
    · exact h
    · exact paired_all t y hy
@[simp] theorem dict_a {o0 o1 o2 : Option Wv} {ys : List D} : eDict [("a", .nam 3)] [o0, o1, o2, some (.own ys)] = some (.val (.dct [(.inr "a", .lst ys)]), [o0, o1, o2, some (.val (.lst ys))]) := rfl
theorem thing_drawn : ∀ (n deep : Nat) {ds : List D}, deep < n → n ≤ 8 → Pen ds → ∃ w ds', F_law_thing n [.own ds, .val (.int deep)] = some (w, [.own ds', .val (.int deep)]) ∧ Th (fz w) ∧ Pen ds'
  | 0, deep, ds, h, _, _ => absurd h (Nat.not_lt_zero _)
  | n + 1, deep, ds, hd, hn, h => by
    obtain ⟨r1, d1, e1, a1, b1, p1⟩ := draw_ok h (n := 12) (by decide) (by decide)
    by_cases c : r1 < 8 ∨ deep = 0
    · obtain ⟨r2, d2, e2, a2, b2, p2⟩ := draw_ok p1 (n := 12) (by decide) (by decide)
      obtain ⟨x, ex, hx⟩ := pick (xs := consts) (r := r2) a2 (by simpa [consts] using b2)
      unfold consts at ex
      refine ⟨.val x, d2, ?_, consts_th hx, p2⟩
      by_cases c1 : r1 < 8
      · simp [F_law_thing, b_law_thing, e1, isLb, c1, e2, ex]
      · have c2 : deep = 0 := c.resolve_left c1
        subst c2
        simp [F_law_thing, b_law_thing, e1, isLb, c1, e2, ex]
    · have c1 : ¬ r1 < 8 := fun z => c (.inl z)
      have c2 : (((deep : Nat) : Int) == 0) = false := beq_eq_false_iff_ne.mpr (by
        have : deep ≠ 0 := fun z => c (.inr z)
        omega)
      obtain ⟨r2, d2, e2, a2, b2, p2⟩ := draw_ok p1 (n := 4) (by decide) (by decide)
      have q1 : -4611686018427387904 ≤ r2 := by omega
      have q2 : r2 < 4611686018427387904 := by omega
      obtain ⟨ys, C', o', e, l, ⟨d3, rfl, p3⟩, hl, r⟩ := comp_inv (I := fun C => ∃ q, C = [some (.own q), some (.val (.int deep))] ∧ Pen q) (R := fun _ y => Th y) (n := 2) (f := eCall 2 (F_law_thing n) [(.pk 0), (.ex (eOp (o2 wSub) [(.pk 1), (.ex (eC (.int 1)))]))])
        (ds := rngD 0 r2.toNat) (acc := []) (C := [some (.own d2), some (.val (.int deep))]) (o := none) rfl ⟨d2, rfl, p2⟩ (by rw [List.length_nil, rng_len]; exact size_big (n := 0 + r2.toNat) (by omega)) fun C d hd' _ hC => by
          obtain ⟨q, rfl, hq⟩ := hC
          have hpos : 1 ≤ deep := by
            have : deep ≠ 0 := fun z => c (.inr z)
            omega
          obtain ⟨w, q', ew, tw, pw⟩ := thing_drawn n (deep - 1) (by omega) (by omega) hq
          have ee : (((deep - 1 : Nat) : Int)) = (deep : Int) - 1 := by omega
          rw [ee] at ew
          exact ⟨w, [some (.own q'), some (.val (.int deep))], by simp [ew], rfl, ⟨q', rfl, pw⟩, tw⟩
      have e' : compD (tNm 2 2) eTrue (eCall 2 (F_law_thing n) [(.pk 0), (.ex (eOp (o2 wSub) [(.pk 1), (.ex (eC (.int 1)))]))]) (rngD 0 r2.toNat) [] [some (.own d2), some (.val (.int deep)), none] = some (ys, [some (.own d3), some (.val (.int deep)), o']) := by simpa using e
      have ty := paired_all r
      have ly : ys.length ≤ 1000 := by rw [hl, rng_len]; omega
      by_cases k8 : r1 = 8
      · subst k8
        refine ⟨.own ys, d3, ?_, .lst ty ly, p3⟩
        simp [F_law_thing, b_law_thing, e1, isLb, c2, e2, q1, q2, e']
      · have k8' : (r1 == 8) = false := by simpa using k8
        by_cases k9 : r1 = 9
        · subst k9
          refine ⟨.val (.dct [(.inr "a", .lst ys)]), d3, ?_, .dct _, p3⟩
          simp [F_law_thing, b_law_thing, e1, isLb, c2, e2, q1, q2, e']
        · have k9' : (r1 == 9) = false := by simpa using k9
          refine ⟨.val (.tup ys), d3, ?_, .tup ty ly, p3⟩
          simp [F_law_thing, b_law_thing, e1, isLb, c1, c2, e2, q1, q2, e', k8', k9']
end Mi
end
section
set_option Elab.async false
set_option linter.all false
set_option maxRecDepth 100000
set_option maxHeartbeats 8000000
set_option exponentiation.threshold 10000
namespace Mi
open PySem PySem.Spec L2
/-- what is spoilt: numbers, texts, tuples of such -/
inductive Sd : Nat → D → Prop
  | int {n : Nat} {i : Int} (h : i.natAbs < 2 ^ 130) : Sd n (.int i)
  | str {n : Nat} {x : Str} (h : x.length ≤ 1000) (u : (Txt.upper x).length ≤ 1000) : Sd n (.str x)
  | tup {n : Nat} {ds : List D} (h : ∀ d ∈ ds, Sd n d) (l : ds.length ≤ 100) : Sd (n + 1) (.tup ds)
theorem Sd.th : ∀ {n : Nat} {d : D}, Sd n d → Th d
  | _, _, .int h => .int (Nat.lt_of_lt_of_le h (Nat.pow_le_pow_right (by decide) (by decide)))
  | _, _, .str _ _ => .str _
  | _, _, .tup h l => .tup (fun d hd => Sd.th (h d hd)) (by omega)
theorem cut_sub {α : Type} {xs : List α} {lo hi : Option Int} {x : α} (h : x ∈ cutL xs lo hi) : x ∈ xs := by
  unfold cutL at h
  exact List.mem_of_mem_drop (List.mem_of_mem_take h)
theorem cut_len {α : Type} {xs : List α} {lo hi : Option Int} : (cutL xs lo hi).length ≤ xs.length := by
  unfold cutL
  rw [List.length_take, List.length_drop]
  omega
theorem rev_sub {xs : List D} {x : D} (h : x ∈ revL xs) : x ∈ xs := by
  unfold revL at h
  obtain ⟨k, _, hk⟩ := List.mem_filterMap.mp h
  exact List.mem_of_getElem? hk
theorem rev_len {xs : List D} : (revL xs).length ≤ xs.length := by
  unfold revL
  refine Nat.le_trans (List.length_filterMap_le _ _) ?_
  rw [List.length_range]
  exact Nat.le_refl _
@[simp] theorem wAdd_tt {xs ys : List D} : wAdd (.val (.tup xs)) (.val (.tup ys)) = if xs.length + ys.length ≤ sizeLine then some (.val (.tup (xs ++ ys))) else none := rfl
@[simp] theorem wAdd_ss {x y : Str} : wAdd (.val (.str x)) (.val (.str y)) = if x.length + y.length ≤ sizeLine then some (.val (.str (x ++ y))) else none := rfl
@[simp] theorem wRev_tup {xs : List D} : wRev (.val (.tup xs)) = some (.val (.tup (revL xs))) := rfl
@[simp] theorem wUp_str {z : Str} : wUp (.val (.str z)) = if (Txt.upper z).length ≤ sizeLine then some (.val (.str (Txt.upper z))) else none := rfl
@[simp] theorem wSl_str {z : Str} {lo hi : Option Int} : wSl lo hi (.val (.str z)) = if z.length ≤ sizeLine then some (.val (.str (Txt.slice z lo hi))) else none := rfl
@[simp] theorem wStr_int {i : Int} : wStr (.val (.int i)) = if i.natAbs.log2 < 1920 then some (.val (.str (toString i))) else none := rfl
@[simp] theorem len_a : (Str.ofString "a").length = 1 := rfl
@[simp] theorem len_1 : (Str.ofString "1").length = 1 := rfl
theorem okEq_nil {ds : List D} (h : D.lays ds = true) : okEq (.tup ds) (.tup []) = true := by
  unfold okEq
  show (D.lays ds && true && decide (min (D.tup ds).py.depth (D.tup []).py.depth ≤ 60)) = true
  rw [h]
  have : (D.tup []).py.depth ≤ 60 := by decide
  rw [decide_eq_true (by omega)]
  rfl
theorem deq_nil {ds : List D} : deq (.tup ds) (.tup []) = ds.isEmpty := by
  cases ds <;> rfl
@[simp] theorem deq_nilnil : deq (.tup []) (.tup []) = true := rfl
@[simp] theorem okEq_nilnil : okEq (.tup []) (.tup []) = true := by decide
theorem log_small {i : Int} (h : i.natAbs < 2 ^ 130) : i.natAbs.log2 < 1920 := by
  by_cases h0 : i.natAbs = 0
  · rw [h0]; decide
  · exact Nat.lt_trans ((Nat.log2_lt h0).mpr h) (by decide)
theorem lt4 {r : Int} (h0 : 0 ≤ r) (h1 : r < 4) : r = 0 ∨ r = 1 ∨ r = 2 ∨ r = 3 := by omega
theorem th_app {xs ys : List D} (hx : ∀ d ∈ xs, Th d) (hy : ∀ d ∈ ys, Th d) (l : xs.length + ys.length ≤ 1000) : Th (.tup (xs ++ ys)) := .tup (fun d hd => (List.mem_append.mp hd).elim (hx d) (hy d)) (by simpa using l)
theorem lays_mem : ∀ {ds : List D} {d : D}, D.lays ds = true → d ∈ ds → D.lay d = true
  | x :: xs, d, h, hd => by
    have h' : (D.lay x && D.lays xs) = true := h
    rw [Bool.and_eq_true] at h'
    rcases List.mem_cons.mp hd with rfl | hd
    · exact h'.1
    · exact lays_mem h'.2 hd
theorem spoilt_drawn : ∀ (N k : Nat) {d : D} {ds : List D}, k < N → N ≤ 8 → Sd k d → D.lay d = true → Pen ds → ∃ w ds', F_law_spoilt N [.own ds, .val d] = some (w, [.own ds', .val d]) ∧ Th (fz w) ∧ Pen ds'
  | 0, k, d, ds, h, _, _, _, _ => absurd h (Nat.not_lt_zero _)
  | N + 1, k, d, ds, hk, hN, sd, hl, h => by
    have rest : ∀ {q : List D}, Pen q → ∃ w q', F_law_thing 8 [.own q, .val (.int 2)] = some (w, [.own q', .val (.int 2)]) ∧ Th (fz w) ∧ Pen q' := fun hq => thing_drawn 8 2 (by decide) (by decide) hq
    cases sd with
    | @int _ i hi =>
      obtain ⟨r1, d1, e1, a1, b1, p1⟩ := draw_ok h (n := 8) (by decide) (by decide)
      by_cases c : r1 < 4
      · have lg := log_small hi
        rcases lt4 a1 c with rfl | rfl | rfl | rfl
        · exact ⟨.val (.int (i + 1)), d1, by simp [F_law_spoilt, b_law_spoilt, St.Kd.isA, e1, isLb, lg], .int (Nat.lt_of_lt_of_le (show (i + 1).natAbs < 2 ^ 131 by omega) (Nat.pow_le_pow_right (by decide) (by decide))), p1⟩
        · exact ⟨.val (.int (i - 1)), d1, by simp [F_law_spoilt, b_law_spoilt, St.Kd.isA, e1, isLb, lg], .int (Nat.lt_of_lt_of_le (show (i - 1).natAbs < 2 ^ 131 by omega) (Nat.pow_le_pow_right (by decide) (by decide))), p1⟩
        · exact ⟨.val (.bl (decide (0 < i))), d1, by simp [F_law_spoilt, b_law_spoilt, St.Kd.isA, e1, isLb, lg], .bl _, p1⟩
        · exact ⟨.val (.str (toString i)), d1, by simp [F_law_spoilt, b_law_spoilt, St.Kd.isA, e1, isLb, lg], .str _, p1⟩
      · obtain ⟨w, q', ew, tw, pw⟩ := rest p1
        exact ⟨w, q', by simp [F_law_spoilt, b_law_spoilt, St.Kd.isA, e1, isLb, c, ew], tw, pw⟩
    | @str _ x hx ux =>
      obtain ⟨r1, d1, e1, a1, b1, p1⟩ := draw_ok h (n := 8) (by decide) (by decide)
      by_cases c : r1 < 4
      · have s1 : x.length + 1 ≤ sizeLine := Nat.le_trans (show x.length + 1 ≤ 1001 by omega) (by decide)
        have s2 : (Txt.upper x).length ≤ sizeLine := size_big ux
        have s3 : x.length ≤ sizeLine := size_big hx
        have s4 : 1 + x.length ≤ sizeLine := by omega
        rcases lt4 a1 c with rfl | rfl | rfl | rfl
        · exact ⟨.val (.str (x ++ (Str.ofString "a"))), d1, by simp [F_law_spoilt, b_law_spoilt, St.Kd.isA, e1, isLb, s1, s2, s3, s4], .str _, p1⟩
        · exact ⟨.val (.str (Txt.upper x)), d1, by simp [F_law_spoilt, b_law_spoilt, St.Kd.isA, e1, isLb, s1, s2, s3, s4], .str _, p1⟩
        · exact ⟨.val (.str (Txt.slice x none (some (-1)))), d1, by simp [F_law_spoilt, b_law_spoilt, St.Kd.isA, e1, isLb, s1, s2, s3, s4], .str _, p1⟩
        · exact ⟨.val (.str ((Str.ofString "1") ++ x)), d1, by simp [F_law_spoilt, b_law_spoilt, St.Kd.isA, e1, isLb, s1, s2, s3, s4], .str _, p1⟩
      · obtain ⟨w, q', ew, tw, pw⟩ := rest p1
        exact ⟨w, q', by simp [F_law_spoilt, b_law_spoilt, St.Kd.isA, e1, isLb, c, ew], tw, pw⟩
    | @tup k' xs hx lx =>
      have tx : ∀ d ∈ xs, Th d := fun d hd => (hx d hd).th
      -- its four ways, and the rest
      have ways : ∀ {q : List D} {o2 : Option Wv}, Pen q → ∃ w q' r, F_law_draw [.own q, .val (.int 8)] = some (.val (.int r), [.own q', .val (.int 8)]) ∧ Pen q' ∧ ((r < 4 ∧ Th (fz w) ∧ (∃ d, w = .val d ∧ atI [D.tup (xs ++ cutL xs (some (-1)) none), .tup (cutL xs none (some (-1))), .lst xs, .tup (revL xs)] r = some d)) ∨ (¬ r < 4 ∧ Th (fz w) ∧ ∃ q'', F_law_thing 8 [.own q', .val (.int 2)] = some (w, [.own q'', .val (.int 2)]) ∧ Pen q'')) := by
        intro q o2 hq
        obtain ⟨r1, d1, e1, a1, b1, p1⟩ := draw_ok hq (n := 8) (by decide) (by decide)
        by_cases c : r1 < 4
        · rcases lt4 a1 c with rfl | rfl | rfl | rfl
          · exact ⟨.val (.tup (xs ++ cutL xs (some (-1)) none)), d1, 0, e1, p1, .inl ⟨by decide, th_app tx (fun d hd => tx d (cut_sub hd)) (by have := cut_len (xs := xs) (lo := some (-1)) (hi := none); omega), _, rfl, rfl⟩⟩
          · exact ⟨.val (.tup (cutL xs none (some (-1)))), d1, 1, e1, p1, .inl ⟨by decide, .tup (fun d hd => tx d (cut_sub hd)) (by have := cut_len (xs := xs) (lo := none) (hi := some (-1)); omega), _, rfl, rfl⟩⟩
          · exact ⟨.val (.lst xs), d1, 2, e1, p1, .inl ⟨by decide, .lst tx (by omega), _, rfl, rfl⟩⟩
          · exact ⟨.val (.tup (revL xs)), d1, 3, e1, p1, .inl ⟨by decide, .tup (fun d hd => tx d (rev_sub hd)) (by have := rev_len (xs := xs); omega), _, rfl, rfl⟩⟩
        · obtain ⟨w, q', ew, tw, pw⟩ := rest p1
          exact ⟨w, d1, r1, e1, p1, .inr ⟨c, tw, q', ew, pw⟩⟩
      have z1 : xs.length + (cutL xs (some (-1)) none).length ≤ sizeLine := size_big (by have := cut_len (xs := xs) (lo := some (-1)) (hi := none); omega)
      have hlay : D.lays xs = true := hl
      have eo := okEq_nil hlay
      have en := deq_nil (ds := xs)
      by_cases hemp : xs.isEmpty = true
      · obtain ⟨w, q', r, e1, p1, alt⟩ := ways (o2 := none) h
        rcases alt with ⟨c, tw, d', rfl, ed⟩ | ⟨c, tw, q'', ew, pw⟩
        · exact ⟨.val d', q', by simp [F_law_spoilt, b_law_spoilt, St.Kd.isA, eo, en, hemp, e1, isLb, c, z1, ed], tw, p1⟩
        · exact ⟨w, q'', by simp [F_law_spoilt, b_law_spoilt, St.Kd.isA, eo, en, hemp, e1, isLb, c, ew], tw, pw⟩
      · have hemp : xs.isEmpty = false := by simpa using hemp
        have hpos : 0 < xs.length := by
          cases xs with
          | nil => cases hemp
          | cons a b => simp
        obtain ⟨r0, d0, e0, a0, b0, p0⟩ := draw_ok h (n := 6) (by decide) (by decide)
        by_cases c0 : 0 < r0
        · obtain ⟨r1, d1, e1, a1, b1, p1⟩ := draw_ok p0 (n := (xs.length : Int)) (by omega) (by omega)
          obtain ⟨y, ey, hy⟩ := pick (xs := xs) (r := r1) a1 b1
          have ly : D.lay y = true := lays_mem hlay hy
          obtain ⟨w, q', ew, tw, pw⟩ := spoilt_drawn N k' (by omega) (by omega) (hx y hy) ly p1
          have z2 : (cutL xs none (some r1)).length + 1 ≤ sizeLine := size_big (by have := cut_len (xs := xs) (lo := none) (hi := some r1); omega)
          have z3 : (cutL xs none (some r1)).length + 1 + (cutL xs (some (r1 + 1)) none).length ≤ sizeLine := size_big (by have := cut_len (xs := xs) (lo := none) (hi := some r1); have := cut_len (xs := xs) (lo := some (r1 + 1)) (hi := none); omega)
          refine ⟨.val (.tup (cutL xs none (some r1) ++ fz w :: cutL xs (some (r1 + 1)) none)), q', by simp [F_law_spoilt, b_law_spoilt, St.Kd.isA, eo, en, hemp, e0, c0, e1, isLb, ey, ew, z2, z3], ?_, pw⟩
          refine .tup (fun d hd => ?_) (by
            have := cut_len (xs := xs) (lo := none) (hi := some r1)
            have := cut_len (xs := xs) (lo := some (r1 + 1)) (hi := none)
            rw [List.length_append, List.length_cons]
            omega)
          rcases List.mem_append.mp hd with hd | hd
          · exact tx d (cut_sub hd)
          · rcases List.mem_cons.mp hd with rfl | hd
            · exact tw
            · exact tx d (cut_sub hd)
        · obtain ⟨w, q', r, e1, p1, alt⟩ := ways (o2 := none) p0
          rcases alt with ⟨c, tw, d', rfl, ed⟩ | ⟨c, tw, q'', ew, pw⟩
          · exact ⟨.val d', q', by simp [F_law_spoilt, b_law_spoilt, St.Kd.isA, eo, en, hemp, e0, c0, e1, isLb, c, z1, ed], tw, p1⟩
          · exact ⟨w, q'', by simp [F_law_spoilt, b_law_spoilt, St.Kd.isA, eo, en, hemp, e0, c0, e1, isLb, c, ew], tw, pw⟩
end Mi
end
section
set_option Elab.async false
set_option linter.all false
set_option maxRecDepth 100000
set_option maxHeartbeats 8000000
set_option exponentiation.threshold 10000
namespace Mi
open PySem PySem.Spec L2
inductive Ths : List D → Prop
  | nil : Ths []
  | cons {d : D} {ds : List D} (h : Th d) (t : Ths ds) : Ths (d :: ds)
theorem Ths.mem : ∀ {ds : List D}, Ths ds → ∀ d ∈ ds, Th d
  | _, .cons h t, d, hd => by
    rcases List.mem_cons.mp hd with rfl | hd
    · exact h
    · exact Ths.mem t d hd
theorem th_of {ds : List D} (h : Ths ds) (l : ds.length ≤ 1000) : Th (.tup ds) := .tup h.mem l
theorem th_rep {n : Nat} {i : Int} (h : n ≤ 100) (h0 : -1000000000 ≤ i) (h1 : i ≤ 1000000000) : Th (.tup (List.replicate n (.int i))) := .tup (fun d hd => by rw [List.eq_of_mem_replicate hd]; exact th_small h0 h1) (by simp; omega)
def boundsL (p k : Int) : List D := [.tup [.str "pool", .int 1, .int 1], .tup [.str "trade", .int 10, .int 0, .int 1, .int 0, .int 1], .tup [.str "trade", .int (-1), .int 0, .int 1, .int 0, .int 1], .tup [.str "bring", .int p, .int 0, .int 1],
  .tup [.str "bring", .int 0, .int k, .int 1], .tup [.str "bring", .int 0, .int 0, .int 0], .tup [.str "swap", .int 0, .int 0, .int 0, .int 1], .tup [.str "swap", .int 0, .int 1, .int k, .int 1],
  .tup [.str "swap", .int 0, .int 1, .int 0, .int 0], .tup [.str "swap", .int (-1), .int 1, .int 0, .int 1], .tup [.str "spoil", .int 0, .int 0], .tup [.str "sell", .int 0, .int 0, .tup [.int 1, .int 1]],
  .tup [.str "throw", .int 0, .int 1, .tup (List.replicate k.toNat (.int 1))], .tup [.str "throw", .int 0, .int 1, .tup (List.replicate (k + 1).toNat (.int 100))],
  .tup [.str "throw", .int 0, .int 1, .tup (List.replicate (k + 1).toNat (.int 99))], .tup [.str "throw", .int 0, .int 1, .tup (List.replicate (k + 1).toNat (.int 0))], .tup [.str "sing", .int 0, .int 1],
  .tup [.str "sell", .int 0, .int p, .tup [.int 1, .int 2]], .tup [.str "sell", .int 0, .int 1, .tup [.int 1, .int 13]], .tup [.str "sell", .int 0, .int 1, .tup [.int 2, .int 2]],
  .tup [.str "spoil"], .tup [], .tup [.str "bring", .int 0, .int 0]]
@[simp] theorem wMul_ti {xs : List D} {k : Int} : wMul (.val (.tup xs)) (.val (.int k)) = if (!xs.isEmpty && decide (1 ≤ k) && decide (xs.length * k.toNat ≤ sizeLine)) = true then some (.val (.tup (List.replicate k.toNat xs).flatten)) else none := rfl
@[simp] theorem wAdd_oo {xs ys : List D} : wAdd (.own xs) (.own ys) = if xs.length + ys.length ≤ sizeLine then some (.own (xs ++ ys)) else none := rfl
@[simp] theorem wAdd_ol {xs ys : List D} : wAdd (.own xs) (.val (.lst ys)) = if xs.length + ys.length ≤ sizeLine then some (.own (xs ++ ys)) else none := rfl
@[simp] theorem wAdd_lo {xs ys : List D} : wAdd (.val (.lst xs)) (.own ys) = if xs.length + ys.length ≤ sizeLine then some (.own (xs ++ ys)) else none := rfl
@[simp] theorem wAdd_ll {xs ys : List D} : wAdd (.val (.lst xs)) (.val (.lst ys)) = if xs.length + ys.length ≤ sizeLine then some (.own (xs ++ ys)) else none := rfl
theorem rep1 {n : Nat} {d : D} : (List.replicate n [d]).flatten = List.replicate n d := by
  induction n with
  | zero => rfl
  | succ n ih => simp [List.replicate_succ, ih]
theorem lit_sz {n : Nat} (h : n ≤ 1000 := by decide) : n ≤ sizeLine := size_big h
theorem bounds_th {p k : Int} (hp : 1 ≤ p ∧ p ≤ 4) (hk : 1 ≤ k ∧ k ≤ 5) : ∀ y ∈ boundsL p k, Th y := by
  apply Ths.mem
  unfold boundsL
  repeat (first | exact Ths.nil | exact Th.str _ | exact th_small (by omega) (by omega) | exact th_rep (by omega) (by omega) (by omega) | refine Ths.cons ?_ ?_ | refine th_of ?_ (by simp))
theorem bounds_ok {p k : Int} {r : List D} (hp : 1 ≤ p ∧ p ≤ 4) (hk : 1 ≤ k ∧ k ≤ 5) : F_law_bounds [.val (trD p k r)] = some (.own (boundsL p k), [.val (trD p k r)]) := by
  have k1 : 1 ≤ k := hk.1
  have k2 : 1 ≤ k + 1 := by omega
  have s1 : k.toNat ≤ sizeLine := size_big (by omega)
  have s2 : (k + 1).toNat ≤ sizeLine := size_big (by omega)
  have a1 : (13 : Nat) ≤ sizeLine := lit_sz
  have a2 : (14 : Nat) ≤ sizeLine := lit_sz
  have a3 : (17 : Nat) ≤ sizeLine := lit_sz
  have a4 : (20 : Nat) ≤ sizeLine := lit_sz
  have a5 : (23 : Nat) ≤ sizeLine := lit_sz
  have z1 : 0 ≤ k := by omega
  simp [F_law_bounds, b_law_bounds, trD, isLb, k1, k2, s1, s2, rep1, a1, a2, a3, a4, a5, boundsL, z1]
/-- what can be spoilt, and is compared -/
def Dd (d : D) : Prop := Sd 2 d ∧ D.lay d = true
end Mi
end
section
set_option Elab.async false
set_option linter.all false
set_option maxRecDepth 100000
set_option maxHeartbeats 8000000
set_option exponentiation.threshold 10000
namespace Mi
open PySem PySem.Spec L2
inductive Sds (n : Nat) : List D → Prop
  | nil : Sds n []
  | cons {d : D} {ds : List D} (h : Sd n d) (t : Sds n ds) : Sds n (d :: ds)
theorem Sds.mem {n : Nat} : ∀ {ds : List D}, Sds n ds → ∀ d ∈ ds, Sd n d
  | _, .cons h t, d, hd => by
    rcases List.mem_cons.mp hd with rfl | hd
    · exact h
    · exact Sds.mem t d hd
theorem sd_of {n : Nat} {ds : List D} (h : Sds n ds) (l : ds.length ≤ 100) : Sd (n + 1) (.tup ds) := .tup h.mem l
theorem sd_small {n : Nat} {i : Int} (h0 : -1000000000 ≤ i) (h1 : i ≤ 1000000000) : Sd n (.int i) := .int (Nat.lt_of_lt_of_le (show i.natAbs < 2 ^ 31 by omega) (Nat.pow_le_pow_right (by decide) (by decide)))
theorem sd_31 {n : Nat} {i : Int} (h : i.natAbs < 2 ^ 31) : Sd n (.int i) := .int (Nat.lt_of_lt_of_le h (Nat.pow_le_pow_right (by decide) (by decide)))
theorem sd_big {n : Nat} {i : Int} (h0 : 1 ≤ i) (h1 : i < 2000000000000000000000000000000) : Sd n (.int i) := .int (Nat.lt_of_lt_of_le (show i.natAbs < 2 ^ 101 by omega) (Nat.pow_le_pow_right (by decide) (by decide)))
theorem up_bring : (Txt.upper (Str.ofString "bring")).length ≤ 1000 := by decide +kernel
theorem up_pool : (Txt.upper (Str.ofString "pool")).length ≤ 1000 := by decide +kernel
theorem up_swap : (Txt.upper (Str.ofString "swap")).length ≤ 1000 := by decide +kernel
theorem up_trade : (Txt.upper (Str.ofString "trade")).length ≤ 1000 := by decide +kernel
theorem up_spoil : (Txt.upper (Str.ofString "spoil")).length ≤ 1000 := by decide +kernel
theorem up_throw : (Txt.upper (Str.ofString "throw")).length ≤ 1000 := by decide +kernel
theorem up_sell : (Txt.upper (Str.ofString "sell")).length ≤ 1000 := by decide +kernel
theorem sdw_bring {n : Nat} : Sd n (.str (Str.ofString "bring")) := .str (by decide +kernel) up_bring
theorem sdw_pool {n : Nat} : Sd n (.str (Str.ofString "pool")) := .str (by decide +kernel) up_pool
theorem sdw_swap {n : Nat} : Sd n (.str (Str.ofString "swap")) := .str (by decide +kernel) up_swap
theorem sdw_trade {n : Nat} : Sd n (.str (Str.ofString "trade")) := .str (by decide +kernel) up_trade
theorem sdw_spoil {n : Nat} : Sd n (.str (Str.ofString "spoil")) := .str (by decide +kernel) up_spoil
theorem sdw_throw {n : Nat} : Sd n (.str (Str.ofString "throw")) := .str (by decide +kernel) up_throw
theorem sdw_sell {n : Nat} : Sd n (.str (Str.ofString "sell")) := .str (by decide +kernel) up_sell
theorem lays_ints {ys : List D} (h : ∀ y ∈ ys, ∃ i : Int, y = .int i ∧ 0 ≤ i ∧ i ≤ 100) : D.lays ys = true := by
  induction ys with
  | nil => rfl
  | cons y ys ih =>
    obtain ⟨i, rfl, _⟩ := h y (by simp)
    show (true && D.lays ys) = true
    rw [ih fun z hz => h z (List.mem_cons_of_mem _ hz)]
    rfl
theorem deeds_drawn {ds : List D} (h : Pen ds) {p k : Int} {r : List D} (hp : 1 ≤ p ∧ p ≤ 4) (hk : 1 ≤ k ∧ k ≤ 5) : ∃ ys ds', F_law_deeds [.own ds, .val (trD p k r)] = some (.own ys, [.own ds', .val (trD p k r)]) ∧ Pen ds' ∧ ys.length = 9 ∧ ∀ y ∈ ys, Dd y ∧ ∃ xs, y = .tup xs ∧ xs.length ≤ 10 := by
  obtain ⟨r1, d1, e1, a1, b1, p1⟩ := draw_ok h (n := 9) (by decide) (by decide)
  obtain ⟨i2, d2, e2, a2, b2, p2⟩ := pieces_drawn p1
  obtain ⟨r3, d3, e3, a3, b3, p3⟩ := draw_ok p2 (n := k) (by omega) (by omega)
  obtain ⟨r4, d4, e4, a4, b4, p4⟩ := draw_ok p3 (n := p) (by omega) (by omega)
  obtain ⟨r5, d5, e5, a5, b5, p5⟩ := draw_ok p4 (n := 10) (by decide) (by decide)
  obtain ⟨ws, d6, e6, l6, w6, p6⟩ := worths_drawn p5 (n := k + 1) (by omega) (by omega)
  obtain ⟨t7, u7, d7, e7, x7, y7, p7⟩ := share_drawn p6
  refine ⟨[.tup [.str "bring", .int r4, .int r3, .int i2], .tup [.str "pool", .int r1, .int (r1 + 1)], .tup [.str "swap", .int r1, .int 1, .int r3, .int i2],
    .tup [.str "trade", .int r5, .int r1, .int i2, .int r3, .int 2], .tup [.str "spoil", .int r1, .int i2], .tup [.str "throw", .int r1, .int i2, .tup ws],
    .tup [.str "sell", .int 0, .int 1, .tup [.int 12, .int 13]], .tup [.str "sell", .int 1, .int 0, .tup [.int 0, .int 1]], .tup [.str "sell", .int r4, .int ((r4 + 1) % 4), .tup [.int t7, .int u7]]], d7, ?_, p7, rfl, ?_⟩
  · simp [F_law_deeds, b_law_deeds, trD, isLb, e1, e2, e3, e4, e5, e6, e7]
  · have m4 : 0 ≤ (r4 + 1) % 4 := Int.emod_nonneg _ (by decide)
    have m5 : (r4 + 1) % 4 < 4 := Int.emod_lt_of_pos _ (by decide)
    have lw := lays_ints w6
    have sw : Sd 1 (.tup ws) := .tup (fun d hd => by
      obtain ⟨i, rfl, hi⟩ := w6 d hd
      exact sd_small (by omega) (by omega)) (by omega)
    intro y hy
    simp only [List.mem_cons, List.not_mem_nil, or_false] at hy
    rcases hy with rfl | rfl | rfl | rfl | rfl | rfl | rfl | rfl | rfl
    · exact ⟨⟨sd_of (.cons sdw_bring (.cons (sd_small (by omega) (by omega)) (.cons (sd_small (by omega) (by omega)) (.cons (sd_big (by omega) (by omega)) .nil)))) (by simp), by simp only [D.lay, D.lays, sk_bring, lw, Bool.and_true, Bool.and_self]⟩, _, rfl, by simp⟩
    · exact ⟨⟨sd_of (.cons sdw_pool (.cons (sd_small (by omega) (by omega)) (.cons (sd_small (by omega) (by omega)) .nil))) (by simp), by simp only [D.lay, D.lays, sk_pool, lw, Bool.and_true, Bool.and_self]⟩, _, rfl, by simp⟩
    · exact ⟨⟨sd_of (.cons sdw_swap (.cons (sd_small (by omega) (by omega)) (.cons (sd_small (by omega) (by omega)) (.cons (sd_small (by omega) (by omega)) (.cons (sd_big (by omega) (by omega)) .nil))))) (by simp), by simp only [D.lay, D.lays, sk_swap, lw, Bool.and_true, Bool.and_self]⟩, _, rfl, by simp⟩
    · exact ⟨⟨sd_of (.cons sdw_trade (.cons (sd_small (by omega) (by omega)) (.cons (sd_small (by omega) (by omega)) (.cons (sd_big (by omega) (by omega)) (.cons (sd_small (by omega) (by omega)) (.cons (sd_small (by omega) (by omega)) .nil)))))) (by simp), by simp only [D.lay, D.lays, sk_trade, lw, Bool.and_true, Bool.and_self]⟩, _, rfl, by simp⟩
    · exact ⟨⟨sd_of (.cons sdw_spoil (.cons (sd_small (by omega) (by omega)) (.cons (sd_big (by omega) (by omega)) .nil))) (by simp), by simp only [D.lay, D.lays, sk_spoil, lw, Bool.and_true, Bool.and_self]⟩, _, rfl, by simp⟩
    · exact ⟨⟨sd_of (.cons sdw_throw (.cons (sd_small (by omega) (by omega)) (.cons (sd_big (by omega) (by omega)) (.cons sw .nil)))) (by simp), by simp only [D.lay, D.lays, sk_throw, lw, Bool.and_true, Bool.and_self]⟩, _, rfl, by simp⟩
    · exact ⟨⟨sd_of (.cons sdw_sell (.cons (sd_small (by omega) (by omega)) (.cons (sd_small (by omega) (by omega)) (.cons (sd_of (.cons (sd_small (by omega) (by omega)) (.cons (sd_small (by omega) (by omega)) .nil)) (by simp)) .nil)))) (by simp), by simp only [D.lay, D.lays, sk_sell, lw, Bool.and_true, Bool.and_self]⟩, _, rfl, by simp⟩
    · exact ⟨⟨sd_of (.cons sdw_sell (.cons (sd_small (by omega) (by omega)) (.cons (sd_small (by omega) (by omega)) (.cons (sd_of (.cons (sd_small (by omega) (by omega)) (.cons (sd_small (by omega) (by omega)) .nil)) (by simp)) .nil)))) (by simp), by simp only [D.lay, D.lays, sk_sell, lw, Bool.and_true, Bool.and_self]⟩, _, rfl, by simp⟩
    · exact ⟨⟨sd_of (.cons sdw_sell (.cons (sd_small (by omega) (by omega)) (.cons (sd_small (by omega) (by omega)) (.cons (sd_of (.cons (sd_31 x7) (.cons (sd_31 y7) .nil)) (by simp)) .nil)))) (by simp), by simp only [D.lay, D.lays, sk_sell, lw, Bool.and_true, Bool.and_self]⟩, _, rfl, by simp⟩
end Mi
end
section
set_option Elab.async false
set_option linter.all false
set_option maxRecDepth 100000
set_option maxHeartbeats 8000000
set_option exponentiation.threshold 10000
namespace Mi
open PySem PySem.Spec L2
section
variable {p k : Int} {r : List D} {u0 u1 u2 u3 u4 u5 u6 u7 u8 : Option Wv}
theorem spoiltC_ok {n : Nat} {ds : List D} {d : D} {m : Nat} (h : Pen ds) (hn : n ≤ 20) (hm : m < 8) (hd : Sd m d) (hl : D.lay d = true) : ∃ ys ds' o', compD (tNm 2 2) eTrue (eCall 2 (F_law_spoilt 8) [(.pk 0), (.pk 1)]) (rngD 0 n) [] [some (.own ds), some (.val d), none] = some (ys, [some (.own ds'), some (.val d), o']) ∧ Pen ds' ∧ ys.length = n ∧ ∀ y ∈ ys, Th y := by
  obtain ⟨ys, C', o', e, l, ⟨ds', rfl, hp⟩, hl, rr⟩ := comp_inv (I := fun C => ∃ q, C = [some (.own q), some (.val d)] ∧ Pen q) (R := fun _ y => Th y) (n := 2) (f := eCall 2 (F_law_spoilt 8) [(.pk 0), (.pk 1)]) (ds := rngD 0 n) (acc := []) (C := [some (.own ds), some (.val d)]) (o := none) rfl ⟨ds, rfl, h⟩ (by rw [List.length_nil, rng_len]; exact size_big (n := 0 + n) (by omega)) fun C x hx _ hC => by
    obtain ⟨q, rfl, hq⟩ := hC
    obtain ⟨w, q', ew, tw, pw⟩ := spoilt_drawn 8 m hm (by decide) hd hl hq
    exact ⟨w, [some (.own q'), some (.val d)], by simp [ew], rfl, ⟨q', rfl, pw⟩, tw⟩
  exact ⟨ys, ds', o', by simpa using e, hp, by rw [hl, rng_len], paired_all rr⟩
theorem loopA : ∀ {ys ths pen : List D} {u5 : Option Wv}, Pen pen → (∀ y ∈ ys, Dd y ∧ ∃ xs, y = .tup xs ∧ xs.length ≤ 10) → (∀ y ∈ ths, Th y) → ths.length + 6 * ys.length ≤ 1000 →
    ∃ ths' pen' u5', forD (tNm 1 5) (xSeq (xAsg 1 4 (eOp (o2 wAdd) [(.pk 4), (.ex (eOp wLst [(.ex (eV 5)), (.ex (eOp (o1 wList) [(.pk 5)])), (.ex (eOp (o2 wAdd) [(.pk 5), (.ex (eOp wTup [(.ex (eC (.int 0)))]))])), (.ex (eOp (wSlN false true) [(.pk 5), (.ex (eOp (o1 wNeg) [(.ex (eC (.int 1)))]))]))]))]))
    (xAsg 1 4 (eOp (o2 wAdd) [(.pk 4), (.ex (eComp [2, 5] 1 (sRng [(.ex (eC (.int 2)))]) (tNm 2 2) eTrue (eCall 2 (F_law_spoilt 8) [(.pk 0), (.pk 1)])))]))) ys [u0, u1, some (.own pen), u3, some (.own ths), u5, u6, u7, u8] = some (.nx, [u0, u1, some (.own pen'), u3, some (.own ths'), u5', u6, u7, u8]) ∧ Pen pen' ∧ (∀ y ∈ ths', Th y) ∧ ths'.length ≤ 1000
  | [], ths, pen, u5, hp, hy, ht, hl => ⟨ths, pen, u5, rfl, hp, ht, by simpa using hl⟩
  | y :: ys, ths, pen, u5, hp, hy, ht, hl => by
    obtain ⟨dy, xs, rfl, lx⟩ := hy y (by simp)
    have hl' : ths.length + 6 * (ys.length + 1) ≤ 1000 := by simpa using hl
    obtain ⟨zs, pen1, o', e, p1, lz, tz⟩ := spoiltC_ok (n := 2) hp (by decide) (by decide) dy.1 dy.2
    have tx : ∀ d ∈ xs, Th d := fun d hd => by
      have := dy.1.th
      cases this with
      | tup h _ => exact h d hd
    have s1 : ths.length + 4 ≤ sizeLine := size_big (by omega)
    have s2 : ths.length + 4 + zs.length ≤ sizeLine := size_big (by omega)
    have s3 : xs.length + 1 ≤ sizeLine := size_big (by omega)
    obtain ⟨ths', pen', u5', e', q1, q2, q3⟩ := loopA (ys := ys) (ths := ths ++ [.tup xs, .lst xs, .tup (xs ++ [.int 0]), .tup (cutL xs none (some (-1)))] ++ zs) (pen := pen1) (u5 := some (.val (.tup xs))) p1 (fun z hz => hy z (List.mem_cons_of_mem _ hz)) (fun z hz => by
      rcases List.mem_append.mp hz with hz | hz
      · rcases List.mem_append.mp hz with hz | hz
        · exact ht z hz
        · simp only [List.mem_cons, List.not_mem_nil, or_false] at hz
          rcases hz with rfl | rfl | rfl | rfl
          · exact .tup tx (by omega)
          · exact .lst tx (by omega)
          · exact th_app tx (fun d hd => by simp at hd; subst hd; exact th_small (by decide) (by decide)) (by simp; omega)
          · exact .tup (fun d hd => tx d (cut_sub hd)) (by have := cut_len (xs := xs) (lo := none) (hi := some (-1)); omega)
      · exact tz z hz) (by simp; omega)
    refine ⟨ths', pen', u5', ?_, q1, q2, q3⟩
    rw [forD_cons]
    have e2 : rngD 0 2 = rngD 0 (2 : Int).toNat := rfl
    simp [isLb, s1, s3, e, s2, Nat.add_assoc] at e' ⊢
    have s2' : ths.length + (4 + zs.length) ≤ sizeLine := by omega
    simp [s2', e']
theorem loopB : ∀ {ths : List D} {u6 : Option Wv}, (∀ y ∈ ths, Th y) → ∃ u6', forD (tNm 1 6) (xIf (eOp (o2 wNe) [(.ex (eCall 2 F_p_is_deed [(.pk 3), (.pk 6)])), (.ex (eCall 2 F_law_is_deed [(.pk 3), (.pk 6)]))]) (xRet (eC (.bl false))) xNil) ths [u0, u1, u2, some (.val (trD p k r)), u4, u5, u6, u7, u8] = some (.nx, [u0, u1, u2, some (.val (trD p k r)), u4, u5, u6', u7, u8])
  | [], u6, _ => ⟨u6, rfl⟩
  | y :: ys, u6, h => by
    obtain ⟨u6', e⟩ := loopB (ths := ys) (u6 := some (.val y)) fun z hz => h z (List.mem_cons_of_mem _ hz)
    refine ⟨u6', ?_⟩
    have h1 := deed_ok (p := p) (k := k) (r := r) (h y (by simp))
    have h2 := ldeed_ok (p := p) (k := k) (r := r) (h y (by simp))
    have h3 : okEq (.bl (deedB p k y)) (.bl (deedB p k y)) = true := rfl
    have h4 : deq (.bl (deedB p k y)) (.bl (deedB p k y)) = true := by cases deedB p k y <;> rfl
    rw [forD_cons]
    simp [isLb, h1, h2, h3, h4, e]
theorem loopC (hp : p ≤ 20) : ∀ {ths : List D} {u6 : Option Wv}, (∀ y ∈ ths, Th y) → ∃ u6', forD (tNm 1 6) (xIf (eOp (o2 wNe) [(.ex (eCall 2 F_p_is_load [(.pk 3), (.pk 6)])), (.ex (eCall 2 F_law_is_load [(.pk 3), (.pk 6)]))]) (xRet (eC (.bl false))) xNil) ths [u0, u1, u2, some (.val (trD p k r)), u4, u5, u6, u7, u8] = some (.nx, [u0, u1, u2, some (.val (trD p k r)), u4, u5, u6', u7, u8])
  | [], u6, _ => ⟨u6, rfl⟩
  | y :: ys, u6, h => by
    obtain ⟨u6', e⟩ := loopC hp (ths := ys) (u6 := some (.val y)) fun z hz => h z (List.mem_cons_of_mem _ hz)
    refine ⟨u6', ?_⟩
    have h1 := load_ok (p := p) (k := k) (r := r) (h y (by simp)) hp
    have h2 := lload_ok (p := p) (k := k) (r := r) (h y (by simp)) hp
    have h3 : okEq (.bl (loadB p k y)) (.bl (loadB p k y)) = true := rfl
    have h4 : deq (.bl (loadB p k y)) (.bl (loadB p k y)) = true := by cases loadB p k y <;> rfl
    rw [forD_cons]
    simp [isLb, h1, h2, h3, h4, e]
end
end Mi
end
section
set_option Elab.async false
set_option linter.all false
set_option maxRecDepth 100000
set_option maxHeartbeats 16000000
set_option exponentiation.threshold 10000
namespace Mi
open PySem PySem.Spec L2
@[simp] theorem cut3_01 {a b c : D} : cutL [a, b, c] none (some 1) = [a] := rfl
@[simp] theorem cut3_02 {a b c : D} : cutL [a, b, c] none (some 2) = [a, b] := rfl
@[simp] theorem cut3_20 {a b c : D} : cutL [a, b, c] (some 2) none = [c] := rfl
theorem sm_sd {y : D} (h : Sm y) : Sd 1 y ∧ D.lay y = true := by
  obtain ⟨q, rfl, h1, h2⟩ := h
  exact ⟨sd_of (.cons (sd_31 h1) (.cons (sd_31 h2) .nil)) (by simp), rfl⟩
theorem sms_lay {ys : List D} (h : ∀ y ∈ ys, Sm y) : D.lays ys = true := by
  induction ys with
  | nil => rfl
  | cons y ys ih =>
    show (D.lay y && D.lays ys) = true
    rw [(sm_sd (h y (by simp))).2, ih fun z hz => h z (List.mem_cons_of_mem _ hz)]
    rfl
/-- a load that is drawn -/
structure Ld (d : D) : Prop where
  ex : ∃ (a b : Int) (zs : List D), d = .tup [.int a, .int b, .tup zs] ∧ Th (.int a) ∧ Th (.int b) ∧ Th (.tup zs)
  sd : Sd 3 d
  lay : D.lay d = true
theorem wholesC_ok {a b : Int} {zs ds : List D} (ta : Th (.int a)) (tb : Th (.int b)) (h : Pen ds) : ∃ ys ds' o', compD (tNm 2 2) eTrue (eOp (o2 wAdd) [(.ex (eOp (wSlN false true) [(.pk 1), (.ex (eC (.int 2)))])), (.ex (eOp wTup [(.ex (eCall 2 F_law_whole [(.pk 0), (.pk 2)]))]))]) [.int 1, .int 2, .int 3, .int 4] [] [some (.own ds), some (.val (.tup [.int a, .int b, .tup zs])), none] = some (ys, [some (.own ds'), some (.val (.tup [.int a, .int b, .tup zs])), o']) ∧ Pen ds' ∧ ys.length = 4 ∧ ∀ y ∈ ys, Th y := by
  obtain ⟨ys, C', o', e, l, ⟨ds', rfl, hp⟩, hl, rr⟩ := comp_inv (I := fun C => ∃ q, C = [some (.own q), some (.val (.tup [.int a, .int b, .tup zs]))] ∧ Pen q) (R := fun _ y => Th y) (n := 2) (f := eOp (o2 wAdd) [(.ex (eOp (wSlN false true) [(.pk 1), (.ex (eC (.int 2)))])), (.ex (eOp wTup [(.ex (eCall 2 F_law_whole [(.pk 0), (.pk 2)]))]))]) (ds := [.int 1, .int 2, .int 3, .int 4]) (acc := []) (C := [some (.own ds), some (.val (.tup [.int a, .int b, .tup zs]))]) (o := none) rfl ⟨ds, rfl, h⟩ (by simp) fun C x hx _ hC => by
    obtain ⟨q, rfl, hq⟩ := hC
    have hx' : ∃ i : Int, x = .int i ∧ 1 ≤ i ∧ i ≤ 4 := by
      simp only [List.mem_cons, List.not_mem_nil, or_false] at hx
      rcases hx with rfl | rfl | rfl | rfl <;> exact ⟨_, rfl, by decide, by decide⟩
    obtain ⟨i, rfl, hi1, hi2⟩ := hx'
    obtain ⟨ws, q', ew, lw, sw, pw⟩ := whole_drawn hq (n := i) hi1 (by omega)
    exact ⟨.val (.tup [.int a, .int b, .tup ws]), [some (.own q'), some (.val (.tup [.int a, .int b, .tup zs]))], by simp [ew], rfl, ⟨q', rfl, pw⟩, th_of (.cons ta (.cons tb (.cons (.tup (fun d hd => (sw d hd).th) (by omega)) .nil))) (by simp)⟩
  exact ⟨ys, ds', o', by simpa using e, hp, by rw [hl]; rfl, paired_all rr⟩
end Mi
end
section
set_option Elab.async false
set_option linter.all false
set_option maxRecDepth 100000
set_option maxHeartbeats 16000000
set_option exponentiation.threshold 10000
namespace Mi
open PySem PySem.Spec L2
def bodyL : Ex := (xSeq (xAsg 1 2 (eCall 1 F_law_pen [(.ex (eCall 2 F_law_cell_at [(.pk 0), (.pk 1)]))]))
    (xSeq (xAsg 1 3 (eCall 1 F_law_train [(.pk 2)]))
    (xSeq (xAsg 1 4 (eOp (o2 wAdd) [(.ex (eCall 1 F_law_bounds [(.pk 3)])), (.ex (eOp wLst [(.ex (eCall 2 (F_law_thing 8) [(.pk 2), (.ex (eC (.int 2)))]))]))]))
    (xSeq (xFor (sAny (eCall 2 F_law_deeds [(.pk 2), (.pk 3)])) (tNm 1 5) (xSeq (xAsg 1 4 (eOp (o2 wAdd) [(.pk 4), (.ex (eOp wLst [(.ex (eV 5)), (.ex (eOp (o1 wList) [(.pk 5)])), (.ex (eOp (o2 wAdd) [(.pk 5), (.ex (eOp wTup [(.ex (eC (.int 0)))]))])), (.ex (eOp (wSlN false true) [(.pk 5), (.ex (eOp (o1 wNeg) [(.ex (eC (.int 1)))]))]))]))]))
    (xAsg 1 4 (eOp (o2 wAdd) [(.pk 4), (.ex (eComp [2, 5] 1 (sRng [(.ex (eC (.int 2)))]) (tNm 2 2) eTrue (eCall 2 (F_law_spoilt 8) [(.pk 0), (.pk 1)])))]))))
    (xSeq (xFor (sAny (eV 4)) (tNm 1 6) (xIf (eOp (o2 wNe) [(.ex (eCall 2 F_p_is_deed [(.pk 3), (.pk 6)])), (.ex (eCall 2 F_law_is_deed [(.pk 3), (.pk 6)]))]) (xRet (eC (.bl false))) xNil))
    (xSeq (xAsg 1 7 (eOp wTup [(.ex (eCall 2 F_law_draw [(.pk 2), (.ex (eOp (o2 wIx) [(.pk 3), (.ex (eC (.int 1)))]))])), (.ex (eCall 1 F_law_pieces [(.pk 2)])), (.ex (eCall 2 F_law_whole [(.pk 2), (.ex (eOp (o2 wIx) [(.pk 3), (.ex (eC (.int 0)))]))]))]))
    (xSeq (xAsg 1 8 (eOp wLst [(.ex (eV 7)), (.ex (eOp (o2 wAdd) [(.ex (eOp wTup [(.ex (eOp (o2 wIx) [(.pk 3), (.ex (eC (.int 1)))]))])), (.ex (eOp (wSlN true false) [(.pk 7), (.ex (eC (.int 1)))]))])), (.ex (eOp (o2 wAdd) [(.ex (eOp (o2 wAdd) [(.ex (eOp (wSlN false true) [(.pk 7), (.ex (eC (.int 1)))])), (.ex (eOp wTup [(.ex (eC (.int 0)))]))])), (.ex (eOp (wSlN true false) [(.pk 7), (.ex (eC (.int 2)))]))])), (.ex (eOp (o2 wAdd) [(.ex (eOp (o2 wAdd) [(.ex (eOp (wSlN false true) [(.pk 7), (.ex (eC (.int 1)))])), (.ex (eOp wTup [(.ex (eOp (o1 wNeg) [(.ex (eC (.int 1)))]))]))])), (.ex (eOp (wSlN true false) [(.pk 7), (.ex (eC (.int 2)))]))])), (.ex (eOp (wSlN false true) [(.pk 7), (.ex (eC (.int 2)))]))]))
    (xSeq (xAsg 1 8 (eOp (o2 wAdd) [(.ex (eOp (o2 wAdd) [(.pk 8), (.ex (eComp [2, 7] 1 (sAny (eOp wTup [(.ex (eC (.int 1))), (.ex (eC (.int 2))), (.ex (eC (.int 3))), (.ex (eC (.int 4)))])) (tNm 2 2) eTrue (eOp (o2 wAdd) [(.ex (eOp (wSlN false true) [(.pk 1), (.ex (eC (.int 2)))])), (.ex (eOp wTup [(.ex (eCall 2 F_law_whole [(.pk 0), (.pk 2)]))]))])))])), (.ex (eOp wLst [(.ex (eOp (o1 wList) [(.pk 7)]))]))]))
    (xFor (sAny (eOp (o2 wAdd) [(.ex (eOp (o2 wAdd) [(.pk 8), (.ex (eOp wLst [(.ex (eCall 2 (F_law_thing 8) [(.pk 2), (.ex (eC (.int 2)))]))]))])), (.ex (eComp [2, 7] 1 (sRng [(.ex (eC (.int 8)))]) (tNm 2 2) eTrue (eCall 2 (F_law_spoilt 8) [(.pk 0), (.pk 1)])))])) (tNm 1 6) (xIf (eOp (o2 wNe) [(.ex (eCall 2 F_p_is_load [(.pk 3), (.pk 6)])), (.ex (eCall 2 F_law_is_load [(.pk 3), (.pk 6)]))]) (xRet (eC (.bl false))) xNil))))))))))
@[simp] theorem boundsL_len {p k : Int} : (boundsL p k).length = 23 := rfl
theorem turn_ok {ns : List Int} {i : Int} (hi : 0 ≤ i) {u2 u3 u4 u5 u6 u7 u8 : Option Wv} : ∃ v2 v3 v4 v5 v6 v7 v8, bodyL [some (.val (.scr ns)), some (.val (.int i)), u2, u3, u4, u5, u6, u7, u8] = some (.nx, [some (.val (.scr ns)), some (.val (.int i)), v2, v3, v4, v5, v6, v7, v8]) := by
  obtain ⟨c, ec⟩ := cell_ok (ns := ns) hi
  obtain ⟨q0, e0, P0⟩ := pen_ok c
  obtain ⟨p, k, r, q1, e1, hp1, hp2, hk1, hk2, P1⟩ := train_drawn P0
  have eb := bounds_ok (p := p) (k := k) (r := r) ⟨hp1, hp2⟩ ⟨hk1, hk2⟩
  have thg : ∀ {q : List D}, Pen q → ∃ w q', F_law_thing 8 [.own q, .val (.int 2)] = some (w, [.own q', .val (.int 2)]) ∧ Th (fz w) ∧ Pen q' := fun hq => thing_drawn 8 2 (by decide) (by decide) hq
  obtain ⟨w, q2, e2, tw, P2⟩ := thg P1
  obtain ⟨ys, q3, e3, P3, l3, hy⟩ := deeds_drawn P2 (p := p) (k := k) (r := r) ⟨hp1, hp2⟩ ⟨hk1, hk2⟩
  obtain ⟨ths, q4, v5, e4, P4, t4, l4⟩ := loopA (u0 := some (.val (.scr ns))) (u1 := some (.val (.int i))) (u3 := some (.val (trD p k r))) (u5 := u5) (u6 := u6) (u7 := u7) (u8 := u8) (ths := boundsL p k ++ [fz w]) P3 hy (fun y hy => by
    rcases List.mem_append.mp hy with hy | hy
    · exact bounds_th ⟨hp1, hp2⟩ ⟨hk1, hk2⟩ y hy
    · simp only [List.mem_cons, List.not_mem_nil, or_false] at hy
      subst hy; exact tw) (by simp [l3])
  obtain ⟨v6, e5⟩ := loopB (p := p) (k := k) (r := r) (u0 := some (.val (.scr ns))) (u1 := some (.val (.int i))) (u2 := some (.own q4)) (u4 := some (.val (.lst ths))) (u5 := v5) (u6 := u6) (u7 := u7) (u8 := u8) t4
  obtain ⟨r6, q6, e6, a6, b6, P6⟩ := draw_ok P4 (n := k) (by omega) (by omega)
  obtain ⟨i7, q7, e7, a7, b7, P7⟩ := pieces_drawn P6
  obtain ⟨zs, q8, e8, l8, s8, P8⟩ := whole_drawn P7 (n := p) (by omega) (by omega)
  have t6 : Th (.int r6) := th_small (by omega) (by omega)
  have t7 : Th (.int i7) := (sd_big (n := 0) a7 b7).th
  have t8 : Th (.tup zs) := .tup (fun d hd => (s8 d hd).th) (by omega)
  obtain ⟨ws, q9, o9, e9, P9, l9, t9⟩ := wholesC_ok (a := r6) (b := i7) (zs := zs) t6 t7 P8
  obtain ⟨w10, q10, e10, t10, P10⟩ := thg P9
  have sL : Sd 3 (.tup [.int r6, .int i7, .tup zs]) := sd_of (.cons (sd_small (by omega) (by omega)) (.cons (sd_big a7 b7) (.cons (.tup (fun d hd => (sm_sd (s8 d hd)).1) (by omega)) .nil))) (by simp)
  have lL : D.lay (.tup [.int r6, .int i7, .tup zs]) = true := by
    show (true && (true && (D.lays zs && true))) = true
    rw [sms_lay s8]; rfl
  obtain ⟨sp, q11, o11, e11, P11, l11, t11⟩ := spoiltC_ok (n := 8) (m := 3) P10 (by decide) (by decide) sL lL
  obtain ⟨v6', e12⟩ := loopC (p := p) (k := k) (r := r) (by omega) (u0 := some (.val (.scr ns))) (u1 := some (.val (.int i))) (u2 := some (.own q11)) (u4 := some (.val (.lst ths))) (u5 := v5) (u6 := v6) (u7 := some (.val (.tup [.int r6, .int i7, .tup zs]))) (u8 := some (.own ([.tup [.int r6, .int i7, .tup zs], .tup [.int k, .int i7, .tup zs], .tup [.int r6, .int 0, .tup zs], .tup [.int r6, .int (-1), .tup zs], .tup [.int r6, .int i7]] ++ ws ++ [.lst [.int r6, .int i7, .tup zs]])))
    (ths := [.tup [.int r6, .int i7, .tup zs], .tup [.int k, .int i7, .tup zs], .tup [.int r6, .int 0, .tup zs], .tup [.int r6, .int (-1), .tup zs], .tup [.int r6, .int i7]] ++ ws ++ [.lst [.int r6, .int i7, .tup zs]] ++ [fz w10] ++ sp) (fun y hy => by
      rcases List.mem_append.mp hy with hy | hy
      · rcases List.mem_append.mp hy with hy | hy
        · rcases List.mem_append.mp hy with hy | hy
          · rcases List.mem_append.mp hy with hy | hy
            · have : Ths [.tup [.int r6, .int i7, .tup zs], .tup [.int k, .int i7, .tup zs], .tup [.int r6, .int 0, .tup zs], .tup [.int r6, .int (-1), .tup zs], .tup [.int r6, .int i7]] :=
                .cons (th_of (.cons t6 (.cons t7 (.cons t8 .nil))) (by simp)) (.cons (th_of (.cons (th_small (by omega) (by omega)) (.cons t7 (.cons t8 .nil))) (by simp)) (.cons (th_of (.cons t6 (.cons (th_small (by omega) (by omega)) (.cons t8 .nil))) (by simp))
                  (.cons (th_of (.cons t6 (.cons (th_small (by omega) (by omega)) (.cons t8 .nil))) (by simp)) (.cons (th_of (.cons t6 (.cons t7 .nil)) (by simp)) .nil))))
              exact this.mem y hy
            · exact t9 y hy
          · simp only [List.mem_cons, List.not_mem_nil, or_false] at hy
            subst hy
            exact .lst (Ths.mem (.cons t6 (.cons t7 (.cons t8 .nil)))) (by simp)
        · simp only [List.mem_cons, List.not_mem_nil, or_false] at hy
          subst hy; exact t10
      · exact t11 y hy)
  refine ⟨some (.own q11), some (.val (trD p k r)), some (.val (.lst ths)), v5, v6', some (.val (.tup [.int r6, .int i7, .tup zs])), some (.own ([.tup [.int r6, .int i7, .tup zs], .tup [.int k, .int i7, .tup zs], .tup [.int r6, .int 0, .tup zs], .tup [.int r6, .int (-1), .tup zs], .tup [.int r6, .int i7]] ++ ws ++ [.lst [.int r6, .int i7, .tup zs]])), ?_⟩
  have z1 : (24 : Nat) ≤ sizeLine := lit_sz
  have ix0 : asS (.val (trD p k r)) = some (.int p :: .int k :: r) := rfl
  simp [l9, l11] at e4 e5 e9 e11 e12
  simp [bodyL, isLb, ec, e0, e1, eb, e2, z1, e3, e4, e5, ix0, e6, e7, e8, e9, l9, e10, l11, e11, e12, lit_sz]
end Mi
end
section
set_option Elab.async false
set_option linter.all false
set_option maxRecDepth 100000
set_option maxHeartbeats 16000000
set_option exponentiation.threshold 10000
namespace Mi
open PySem PySem.Spec L2
theorem rng_nonneg {n : Nat} {d : D} (h : d ∈ rngD 0 n) : ∃ i : Int, d = .int i ∧ 0 ≤ i := by
  unfold rngD at h
  obtain ⟨j, _, rfl⟩ := List.mem_map.mp h
  exact ⟨_, rfl, by omega⟩
theorem loopL {ns : List Int} : ∀ {ds : List D} {u1 u2 u3 u4 u5 u6 u7 u8 : Option Wv}, (∀ d ∈ ds, ∃ i : Int, d = .int i ∧ 0 ≤ i) → ∃ v1 v2 v3 v4 v5 v6 v7 v8, forD (tNm 1 1) bodyL ds [some (.val (.scr ns)), u1, u2, u3, u4, u5, u6, u7, u8] = some (.nx, [some (.val (.scr ns)), v1, v2, v3, v4, v5, v6, v7, v8])
  | [], u1, u2, u3, u4, u5, u6, u7, u8, _ => ⟨u1, u2, u3, u4, u5, u6, u7, u8, rfl⟩
  | d :: ds, u1, u2, u3, u4, u5, u6, u7, u8, h => by
    obtain ⟨i, rfl, hi⟩ := h d (by simp)
    obtain ⟨v2, v3, v4, v5, v6, v7, v8, e⟩ := turn_ok (ns := ns) hi (u2 := u2) (u3 := u3) (u4 := u4) (u5 := u5) (u6 := u6) (u7 := u7) (u8 := u8)
    obtain ⟨x1, x2, x3, x4, x5, x6, x7, x8, e'⟩ := loopL (ns := ns) (ds := ds) (u1 := some (.val (.int i))) (u2 := v2) (u3 := v3) (u4 := v4) (u5 := v5) (u6 := v6) (u7 := v7) (u8 := v8) fun z hz => h z (List.mem_cons_of_mem _ hz)
    refine ⟨x1, x2, x3, x4, x5, x6, x7, x8, ?_⟩
    rw [forD_cons]
    simp [e, e']
theorem law_ok (ns : List Int) : F_p_law [.val (.scr ns)] = some (.val (.bl true), [.val (.scr ns)]) := by
  obtain ⟨m, hm, m0, m1⟩ : ∃ m : Int, m = (if (if (3 : Int) < (ns.length : Int) then (3 : Int) else (ns.length : Int)) > 1 then (if (3 : Int) < (ns.length : Int) then (3 : Int) else (ns.length : Int)) else 1) ∧ 0 ≤ m ∧ m ≤ 3 := ⟨_, rfl, by split <;> split <;> omega, by split <;> split <;> omega⟩
  obtain ⟨x1, x2, x3, x4, x5, x6, x7, x8, e⟩ := loopL (ns := ns) (ds := rngD 0 m.toNat) (u1 := none) (u2 := none) (u3 := none) (u4 := none) (u5 := none) (u6 := none) (u7 := none) (u8 := none) fun d hd => rng_nonneg hd
  have b : b_p_law = xSeq (xFor (sRng [(.ex (eOp (o2 wMax) [(.ex (eC (.int 1))), (.ex (eOp (o2 wMin) [(.ex (eOp (o1 wLen) [(.pk 0)])), (.ex (eC (.int 3)))]))]))]) (tNm 1 1) bodyL) (xRet (eC (.bl true))) := rfl
  have q1 : -4611686018427387904 ≤ m := by omega
  have q2 : m < 4611686018427387904 := by omega
  unfold F_p_law
  rw [b]
  have s : sRng [(.ex (eOp (o2 wMax) [(.ex (eC (.int 1))), (.ex (eOp (o2 wMin) [(.ex (eOp (o1 wLen) [(.pk 0)])), (.ex (eC (.int 3)))]))]))] [some (.val (.scr ns)), none, none, none, none, none, none, none, none] = some (rngD 0 m.toNat, [some (.val (.scr ns)), none, none, none, none, none, none, none, none]) := by
    simp only [sRng_run, evs_ex1, evs_pk1, evs_nil, eOp_run, eC_run, at_z, Option.bind_some, Option.map_some, o1_run, o2_run, wLen_scr, fz_val, wMin_run, wMax_run, ← hm]
    rw [if_pos]
    rw [Bool.and_eq_true]
    exact ⟨decide_eq_true (by omega), decide_eq_true (by omega)⟩
  show Option.map _ (Option.bind (Option.bind (sRng _ [some (.val (.scr ns)), none, none, none, none, none, none, none, none]) _) _) = _
  rw [s]
  simp [e]
end Mi
end
section
set_option Elab.async false
set_option linter.all false
set_option maxRecDepth 100000
set_option maxHeartbeats 4000000
namespace Mi
open PySem PySem.Spec L2
open PyProof.Rows (boot_isinstance boot_int boot_bool boot_tuple boot_str boot_list boot_abs boot_all boot_any boot_sum boot_max boot_min boot_range boot_enumerate boot_zip boot_sorted boot_set boot_divmod)
structure All (w : World) (K : PySem.W.Frag) (mg : Str → Option Value) : Prop where
  bt : Bts mg
  c_ALL : CstD K mg "ALL" k_ALL
  c_NOTHING : CstD K mg "NOTHING" k_NOTHING
  c_UNLIKE : CstD K mg "UNLIKE" k_UNLIKE
  c_FORMS : TopT K w mg "FORMS" k_FORMS
  r_PARTS : TopR w K mg "PARTS" [("partner", "is_partner"), ("kind", "is_kind"), ("load", "is_load_number"), ("number", "is_trade_number"), ("pieces", "are_pieces"), ("worths", "are_worths"), ("share", "is_sold_share")]
  s_p_is_whole : St.Src K mg "is_whole" s_p_is_whole
  s_p_is_from : St.Src K mg "is_from" s_p_is_from
  s_p_is_within : St.Src K mg "is_within" s_p_is_within
  s_p_greatest_divisor : St.Src K mg "greatest_divisor" s_p_greatest_divisor
  s_p_is_amount : St.Src K mg "is_amount" s_p_is_amount
  s_p_lowest : St.Src K mg "lowest" s_p_lowest
  s_p_plus : St.Src K mg "plus" s_p_plus
  s_p_total : St.Src K mg "total" s_p_total
  s_p_is_tuple_of : St.Src K mg "is_tuple_of" s_p_is_tuple_of
  s_p_is_share : St.Src K mg "is_share" s_p_is_share
  s_p_are_owners : St.Src K mg "are_owners" s_p_are_owners
  s_p_is_partner : St.Src K mg "is_partner" s_p_is_partner
  s_p_is_kind : St.Src K mg "is_kind" s_p_is_kind
  s_p_is_load_number : St.Src K mg "is_load_number" s_p_is_load_number
  s_p_is_trade_number : St.Src K mg "is_trade_number" s_p_is_trade_number
  s_p_are_pieces : St.Src K mg "are_pieces" s_p_are_pieces
  s_p_are_values : St.Src K mg "are_values" s_p_are_values
  s_p_are_worths : St.Src K mg "are_worths" s_p_are_worths
  s_p_is_sold_share : St.Src K mg "is_sold_share" s_p_is_sold_share
  s_p_is_part : St.Src K mg "is_part" s_p_is_part
  s_p_is_load : St.Src K mg "is_load" s_p_is_load
  s_p_is_deed : St.Src K mg "is_deed" s_p_is_deed
  s_law_cell_at : St.Src K mg "_law_cell_at" s_law_cell_at
  s_law_pen : St.Src K mg "_law_pen" s_law_pen
  s_law_draw : St.Src K mg "_law_draw" s_law_draw
  s_law_common : St.Src K mg "_law_common" s_law_common
  s_law_made : St.Src K mg "_law_made" s_law_made
  s_law_plus : St.Src K mg "_law_plus" s_law_plus
  s_law_sum : St.Src K mg "_law_sum" s_law_sum
  s_law_whole : St.Src K mg "_law_whole" s_law_whole
  s_law_pieces : St.Src K mg "_law_pieces" s_law_pieces
  s_law_train : St.Src K mg "_law_train" s_law_train
  s_law_share : St.Src K mg "_law_share" s_law_share
  s_law_worths : St.Src K mg "_law_worths" s_law_worths
  s_law_thing : St.Src K mg "_law_thing" s_law_thing
  s_law_spoilt : St.Src K mg "_law_spoilt" s_law_spoilt
  s_law_in : St.Src K mg "_law_in" s_law_in
  s_law_is_amount : St.Src K mg "_law_is_amount" s_law_is_amount
  s_law_is_share : St.Src K mg "_law_is_share" s_law_is_share
  s_law_are_shares : St.Src K mg "_law_are_shares" s_law_are_shares
  s_law_is_load : St.Src K mg "_law_is_load" s_law_is_load
  s_law_are_worths : St.Src K mg "_law_are_worths" s_law_are_worths
  s_law_is_sale : St.Src K mg "_law_is_sale" s_law_is_sale
  s_law_is_deed : St.Src K mg "_law_is_deed" s_law_is_deed
  s_law_deeds : St.Src K mg "_law_deeds" s_law_deeds
  s_law_bounds : St.Src K mg "_law_bounds" s_law_bounds
  s_p_law : St.Src K mg "law" s_p_law
section
variable {P : Program} {w : World} {K : PySem.W.Frag} {mg : Str → Option Value} {base : Heap}
theorem dF_p_law {f : Addr} {fd : FuncData} (F : Fun K "law" "law" s_p_law f fd) (B : Bts mg) (d_p_is_load : St.Dfn P w K mg base "is_load" 6 ["train", "thing"] (spD K 2 F_p_is_load)) (d_p_is_deed : St.Dfn P w K mg base "is_deed" 7 ["train", "thing"] (spD K 2 F_p_is_deed)) (d_law_cell_at : St.Dfn P w K mg base "_law_cell_at" 1 ["_law_script", "_law_k"] (spD K 2 F_law_cell_at)) (d_law_pen : St.Dfn P w K mg base "_law_pen" 1 ["_law_cell"] (spD K 1 F_law_pen)) (d_law_draw : St.Dfn P w K mg base "_law_draw" 1 ["_law_pen_here", "_law_bound"] (spD K 2 F_law_draw)) (d_law_whole : St.Dfn P w K mg base "_law_whole" 3 ["_law_pen_here", "_law_many"] (spD K 2 F_law_whole)) (d_law_pieces : St.Dfn P w K mg base "_law_pieces" 2 ["_law_pen_here"] (spD K 1 F_law_pieces)) (d_law_train : St.Dfn P w K mg base "_law_train" 4 ["_law_pen_here"] (spD K 1 F_law_train)) (d_law_thing : St.Dfn P w K mg base "_law_thing" 10 ["_law_pen_here", "_law_deep"] (spD K 2 (F_law_thing 8))) (d_law_spoilt : St.Dfn P w K mg base "_law_spoilt" 19 ["_law_pen_here", "_law_thing_here"] (spD K 2 (F_law_spoilt 8))) (d_law_is_load : St.Dfn P w K mg base "_law_is_load" 6 ["_law_train_here", "_law_thing_here"] (spD K 2 F_law_is_load)) (d_law_is_deed : St.Dfn P w K mg base "_law_is_deed" 5 ["_law_train_here", "_law_thing_here"] (spD K 2 F_law_is_deed)) (d_law_deeds : St.Dfn P w K mg base "_law_deeds" 4 ["_law_pen_here", "_law_train_here"] (spD K 2 F_law_deeds)) (d_law_bounds : St.Dfn P w K mg base "_law_bounds" 1 ["_law_train_here"] (spD K 1 F_law_bounds)) : FnOk P w K mg base CX0 20 f fd ["_law_script"] (spD K 1 F_p_law) := by
  refine fn_ok (k := 19) F sc_p_law rfl fun cdv A outer s H E hr => ?_
  have hu := hu_room hr
  exact (dss_cons (ds_for PassesOwn.never rfl (di_rng1 rfl B.range (dos_cons (DE.opd (de_callB (call_maxD rfl) rfl B.max boot_max (dos_cons (DE.opd de_int) (dos_cons (DE.opd (de_callB (call_minD rfl) rfl B.min boot_min (dos_cons (DE.opd (de_callB call_lenD rfl B.len boot_len (dos_cons (do_pk 0) dos_nil))) (dos_cons (DE.opd de_int) dos_nil)))) dos_nil)))) dos_nil)) (dg_nm 1 sc_p_law.nd) (dss_cons (ds_set 2 (de_call d_law_pen (hr.mono (by decide)) rfl (dos_cons (DE.opd (de_call d_law_cell_at (hr.mono (by decide)) rfl (dos_cons (do_pk 0) (dos_cons (do_pk 1) dos_nil)))) dos_nil)) sc_p_law.nd)
        (dss_cons (ds_set 3 (de_call d_law_train (hr.mono (by decide)) rfl (dos_cons (do_pk 2) dos_nil)) sc_p_law.nd)
        (dss_cons (ds_set 4 (de_op op_addD (DE.opd (de_call d_law_bounds (hr.mono (by decide)) rfl (dos_cons (do_pk 3) dos_nil))) (DE.opd (de_lst (dos_cons (DE.opd (de_call d_law_thing (hr.mono (by decide)) rfl (dos_cons (do_pk 2) (dos_cons (DE.opd de_int) dos_nil)))) dos_nil)))) sc_p_law.nd)
        (dss_cons (ds_for PassesOwn.never rfl (di_any (de_call d_law_deeds (hr.mono (by decide)) rfl (dos_cons (do_pk 2) (dos_cons (do_pk 3) dos_nil)))) (dg_nm 5 sc_p_law.nd) (dss_cons (ds_set 4 (de_op op_addD (do_pk 4) (DE.opd (de_lst (dos_cons (DE.opd (de_var 5)) (dos_cons (DE.opd (de_callTy call_listD rfl B.list boot_list (dos_cons (do_pk 5) dos_nil))) (dos_cons (DE.opd (de_op op_addD (do_pk 5) (DE.opd (de_tup (dos_cons (DE.opd de_int) dos_nil))))) (dos_cons (DE.opd (de_sl01 (do_pk 5) (DE.opd (de_un un_negD (DE.opd de_int))))) dos_nil))))))) sc_p_law.nd)
        (dss_one (ds_set 4 (de_op op_addD (do_pk 4) (DE.opd (de_comp [2, 5] 1 ["_law_pen_here", "_law_deed", "_law_turn"] rfl cs_p_law_0 (di_rng1 rfl B.range (dos_cons (DE.opd de_int) dos_nil)) (fun s H fp => ⟨(dg_nm 2 nd_p_law_0), dts_nil, (de_call d_law_spoilt (hr.mono (by decide)) rfl (dos_cons (do_pk 0) (dos_cons (do_pk 1) dos_nil)))⟩)))) sc_p_law.nd))))
        (dss_cons (ds_for PassesOwn.never rfl (di_any (de_var 4)) (dg_nm 6 sc_p_law.nd) (dss_one (ds_if (dt_cmp (op_neD hu) (DE.opd (de_call d_p_is_deed (hr.mono (by decide)) rfl (dos_cons (do_pk 3) (dos_cons (do_pk 6) dos_nil)))) (DE.opd (de_call d_law_is_deed (hr.mono (by decide)) rfl (dos_cons (do_pk 3) (dos_cons (do_pk 6) dos_nil))))) (dss_one (ds_ret de_bl)) dss_nil)))
        (dss_cons (ds_set 7 (de_tup (dos_cons (DE.opd (de_call d_law_draw (hr.mono (by decide)) rfl (dos_cons (do_pk 2) (dos_cons (DE.opd (de_ix ix_D (do_pk 3) (DE.opd de_int))) dos_nil)))) (dos_cons (DE.opd (de_call d_law_pieces (hr.mono (by decide)) rfl (dos_cons (do_pk 2) dos_nil))) (dos_cons (DE.opd (de_call d_law_whole (hr.mono (by decide)) rfl (dos_cons (do_pk 2) (dos_cons (DE.opd (de_ix ix_D (do_pk 3) (DE.opd de_int))) dos_nil)))) dos_nil)))) sc_p_law.nd)
        (dss_cons (ds_set 8 (de_lst (dos_cons (DE.opd (de_var 7)) (dos_cons (DE.opd (de_op op_addD (DE.opd (de_tup (dos_cons (DE.opd (de_ix ix_D (do_pk 3) (DE.opd de_int))) dos_nil))) (DE.opd (de_sl10 (do_pk 7) (DE.opd de_int))))) (dos_cons (DE.opd (de_op op_addD (DE.opd (de_op op_addD (DE.opd (de_sl01 (do_pk 7) (DE.opd de_int))) (DE.opd (de_tup (dos_cons (DE.opd de_int) dos_nil))))) (DE.opd (de_sl10 (do_pk 7) (DE.opd de_int))))) (dos_cons (DE.opd (de_op op_addD (DE.opd (de_op op_addD (DE.opd (de_sl01 (do_pk 7) (DE.opd de_int))) (DE.opd (de_tup (dos_cons (DE.opd (de_un un_negD (DE.opd de_int))) dos_nil))))) (DE.opd (de_sl10 (do_pk 7) (DE.opd de_int))))) (dos_cons (DE.opd (de_sl01 (do_pk 7) (DE.opd de_int))) dos_nil)))))) sc_p_law.nd)
        (dss_cons (ds_set 8 (de_op op_addD (DE.opd (de_op op_addD (do_pk 8) (DE.opd (de_comp [2, 7] 1 ["_law_pen_here", "_law_load", "_law_many"] rfl cs_p_law_1 (di_any (de_tup (dos_cons (DE.opd de_int) (dos_cons (DE.opd de_int) (dos_cons (DE.opd de_int) (dos_cons (DE.opd de_int) dos_nil)))))) (fun s H fp => ⟨(dg_nm 2 nd_p_law_1), dts_nil, (de_op op_addD (DE.opd (de_sl01 (do_pk 1) (DE.opd de_int))) (DE.opd (de_tup (dos_cons (DE.opd (de_call d_law_whole (hr.mono (by decide)) rfl (dos_cons (do_pk 0) (dos_cons (do_pk 2) dos_nil)))) dos_nil))))⟩))))) (DE.opd (de_lst (dos_cons (DE.opd (de_callTy call_listD rfl B.list boot_list (dos_cons (do_pk 7) dos_nil))) dos_nil)))) sc_p_law.nd)
        (dss_one (ds_for PassesOwn.never rfl (di_any (de_op op_addD (DE.opd (de_op op_addD (do_pk 8) (DE.opd (de_lst (dos_cons (DE.opd (de_call d_law_thing (hr.mono (by decide)) rfl (dos_cons (do_pk 2) (dos_cons (DE.opd de_int) dos_nil)))) dos_nil))))) (DE.opd (de_comp [2, 7] 1 ["_law_pen_here", "_law_load", "_law_turn"] rfl cs_p_law_2 (di_rng1 rfl B.range (dos_cons (DE.opd de_int) dos_nil)) (fun s H fp => ⟨(dg_nm 2 nd_p_law_2), dts_nil, (de_call d_law_spoilt (hr.mono (by decide)) rfl (dos_cons (do_pk 0) (dos_cons (do_pk 1) dos_nil)))⟩))))) (dg_nm 6 sc_p_law.nd) (dss_one (ds_if (dt_cmp (op_neD hu) (DE.opd (de_call d_p_is_load (hr.mono (by decide)) rfl (dos_cons (do_pk 3) (dos_cons (do_pk 6) dos_nil)))) (DE.opd (de_call d_law_is_load (hr.mono (by decide)) rfl (dos_cons (do_pk 3) (dos_cons (do_pk 6) dos_nil))))) (dss_one (ds_ret de_bl)) dss_nil)))))))))))))
        (dss_one (ds_ret de_bl)))
theorem law_of {f : Addr} {fd : FuncData} (F : Fun K "law" "law" s_p_law f fd) (T : All w K mg) : FnOk P w K mg base CX0 20 f fd ["_law_script"] (spD K 1 F_p_law) := by
  have B := T.bt
  have c_ALL := T.c_ALL
  have c_NOTHING := T.c_NOTHING
  have c_UNLIKE := T.c_UNLIKE
  have c_FORMS := T.c_FORMS
  have d_p_is_whole := d_p_is_whole (P := P) (w := w) (base := base) T.s_p_is_whole B
  have d_p_is_from := d_p_is_from (P := P) (w := w) (base := base) T.s_p_is_from d_p_is_whole
  have d_p_is_within := d_p_is_within (P := P) (w := w) (base := base) T.s_p_is_within d_p_is_from
  have d_p_greatest_divisor := d_p_greatest_divisor (P := P) (w := w) (base := base) T.s_p_greatest_divisor B
  have d_p_is_amount := d_p_is_amount (P := P) (w := w) (base := base) T.s_p_is_amount B d_p_is_whole d_p_is_from d_p_greatest_divisor
  have d_p_lowest := d_p_lowest (P := P) (w := w) (base := base) T.s_p_lowest d_p_greatest_divisor
  have d_p_plus := d_p_plus (P := P) (w := w) (base := base) T.s_p_plus d_p_lowest
  have d_p_total := d_p_total (P := P) (w := w) (base := base) T.s_p_total c_NOTHING d_p_plus
  have d_p_is_tuple_of := d_p_is_tuple_of (P := P) (w := w) (base := base) T.s_p_is_tuple_of B
  have d_p_is_share := d_p_is_share (P := P) (w := w) (base := base) T.s_p_is_share d_p_is_amount
  have d_p_are_owners := d_p_are_owners (P := P) (w := w) (base := base) T.s_p_are_owners B c_ALL d_p_total d_p_is_tuple_of d_p_is_share
  have d_p_is_partner := d_p_is_partner (P := P) (w := w) (base := base) T.s_p_is_partner d_p_is_within
  have d_p_is_kind := d_p_is_kind (P := P) (w := w) (base := base) T.s_p_is_kind d_p_is_within
  have d_p_is_load_number := d_p_is_load_number (P := P) (w := w) (base := base) T.s_p_is_load_number d_p_is_from
  have d_p_is_trade_number := d_p_is_trade_number (P := P) (w := w) (base := base) T.s_p_is_trade_number d_p_is_within
  have d_p_are_pieces := d_p_are_pieces (P := P) (w := w) (base := base) T.s_p_are_pieces d_p_is_from
  have d_p_are_values := d_p_are_values (P := P) (w := w) (base := base) T.s_p_are_values B d_p_is_within d_p_is_tuple_of
  have d_p_are_worths := d_p_are_worths (P := P) (w := w) (base := base) T.s_p_are_worths d_p_are_values
  have d_p_is_sold_share := d_p_is_sold_share (P := P) (w := w) (base := base) T.s_p_is_sold_share d_p_is_share
  have T_PARTS : TopF P w K mg base "PARTS" 5 2 tb_PARTS := topF_mk T.r_PARTS (.cons ⟨rfl, _, _, (by decide), d_p_is_partner⟩ (.cons ⟨rfl, _, _, (by decide), d_p_is_kind⟩ (.cons ⟨rfl, _, _, (by decide), d_p_is_load_number⟩ (.cons ⟨rfl, _, _, (by decide), d_p_is_trade_number⟩ (.cons ⟨rfl, _, _, (by decide), d_p_are_pieces⟩ (.cons ⟨rfl, _, _, (by decide), d_p_are_worths⟩ (.cons ⟨rfl, _, _, (by decide), d_p_is_sold_share⟩ Paired.nil)))))))
  have d_p_is_part := d_p_is_part (P := P) (w := w) (base := base) T.s_p_is_part T_PARTS
  have d_p_is_load := d_p_is_load (P := P) (w := w) (base := base) T.s_p_is_load d_p_is_from d_p_is_tuple_of d_p_are_owners d_p_is_kind
  have d_p_is_deed := d_p_is_deed (P := P) (w := w) (base := base) T.s_p_is_deed B c_UNLIKE c_FORMS d_p_is_part
  have d_law_cell_at := d_law_cell_at (P := P) (w := w) (base := base) T.s_law_cell_at B
  have d_law_pen := d_law_pen (P := P) (w := w) (base := base) T.s_law_pen B
  have d_law_draw := d_law_draw (P := P) (w := w) (base := base) T.s_law_draw
  have d_law_common := d_law_common (P := P) (w := w) (base := base) T.s_law_common
  have d_law_made := d_law_made (P := P) (w := w) (base := base) T.s_law_made B d_law_common
  have d_law_plus := d_law_plus (P := P) (w := w) (base := base) T.s_law_plus d_law_made
  have d_law_sum := d_law_sum (P := P) (w := w) (base := base) T.s_law_sum d_law_plus
  have d_law_whole := d_law_whole (P := P) (w := w) (base := base) T.s_law_whole B d_law_draw d_law_made
  have d_law_pieces := d_law_pieces (P := P) (w := w) (base := base) T.s_law_pieces d_law_draw
  have d_law_train := d_law_train (P := P) (w := w) (base := base) T.s_law_train d_law_draw d_law_whole
  have d_law_share := d_law_share (P := P) (w := w) (base := base) T.s_law_share d_law_draw d_law_made
  have d_law_worths := d_law_worths (P := P) (w := w) (base := base) T.s_law_worths B d_law_draw
  have d_law_thing := d_law_thing (P := P) (w := w) (base := base) T.s_law_thing B d_law_draw 8 (by decide)
  have d_law_spoilt := d_law_spoilt (P := P) (w := w) (base := base) T.s_law_spoilt B d_law_draw d_law_thing 8 (by decide)
  have d_law_in := d_law_in (P := P) (w := w) (base := base) T.s_law_in B
  have d_law_is_amount := d_law_is_amount (P := P) (w := w) (base := base) T.s_law_is_amount B d_law_common d_law_in
  have d_law_is_share := d_law_is_share (P := P) (w := w) (base := base) T.s_law_is_share d_law_is_amount
  have d_law_are_shares := d_law_are_shares (P := P) (w := w) (base := base) T.s_law_are_shares B d_law_sum d_law_is_share
  have d_law_is_load := d_law_is_load (P := P) (w := w) (base := base) T.s_law_is_load B d_law_in d_law_are_shares
  have d_law_are_worths := d_law_are_worths (P := P) (w := w) (base := base) T.s_law_are_worths B d_law_in
  have d_law_is_sale := d_law_is_sale (P := P) (w := w) (base := base) T.s_law_is_sale d_law_in d_law_is_share
  have d_law_is_deed := d_law_is_deed (P := P) (w := w) (base := base) T.s_law_is_deed B d_law_in d_law_are_worths d_law_is_sale
  have d_law_deeds := d_law_deeds (P := P) (w := w) (base := base) T.s_law_deeds d_law_draw d_law_pieces d_law_share d_law_worths
  have d_law_bounds := d_law_bounds (P := P) (w := w) (base := base) T.s_law_bounds
  exact dF_p_law (P := P) (w := w) (base := base) F B d_p_is_load d_p_is_deed d_law_cell_at d_law_pen d_law_draw d_law_whole d_law_pieces d_law_train d_law_thing d_law_spoilt d_law_is_load d_law_is_deed d_law_deeds d_law_bounds
theorem law_fn {l : PySem.W.OpenLaw} {fa : Addr} (hfa : mg "law" = some (.ref fa)) (T : All w K mg) :
    ∃ fd : FuncData, (∀ (s : Shared) (v : Value), BindsTo s fd ⟨[v], []⟩ [("_law_script", v)]) ∧ ∀ base : Heap, K.In base → base.Ns mainGlobals mg → FnOk l.prog w K mg base CX0 20 fa fd ["_law_script"] (spLaw K) := by
  obtain ⟨f, fd, F, hm⟩ := T.s_p_law.ex
  have e := hfa.symm.trans hm
  cases e
  refine ⟨fd, fun s v => ?_, fun base _ _ => ?_⟩
  · obtain ⟨oc, od, kV, doc, pm, an, cdv, ct, osl, hfd, _⟩ := F.ex
    subst hfd
    exact .of_eq rfl
  · exact law_sp (law_of (P := l.prog) (w := w) (base := base) F T) fun ns hl => ⟨_, law_ok ns⟩
end
theorem walk {l : PySem.W.OpenLaw} {q : Program} {loose : List Str} {XP : (Str → Option Value) → Heap → Prop} {YP : World → Heap → Prop} {d : DefRec} {K : Params → PySem.W.Frag} (hn : l.most = some 63) (hdf : d.params.defaults = [])
    (hY : ∀ (w : World) (h : Heap), YP w h → (K w.params).In h) (hd : d.name = "law")
    (F : ∀ (w : World) (mg : Str → Option Value) (h : Heap), (K w.params).In h → h.Ns mainGlobals mg → All w (K w.params) mg) :
    PySem.W.WalkO q loose XP YP l.row.toRowW d [] (fun f vs => PySem.call f vs) :=
  L2.walk_of (n := 63) (k := 20) (x := "_law_script") (CX := fun _ => CX0) (sp := fun w => spLaw (K w.params)) hn (by decide) hdf ⟨rfl, by decide, by decide⟩ hY (fun w mg fa h KX G hmg => law_fn (by rw [← hd]; exact hmg) (F w mg h KX G)) (fun _ _ a ns hl _ hS => ⟨a, ns, rfl, hS, hl, fun _ => rfl⟩) fun _ _ _ _ _ z => z
end Mi
end
section
set_option Elab.async false
set_option linter.all false
def PySem.W.Fast.tw17156396885339149304 : Nat := 0
def PySem.W.Fast.tw16606980504858264512 : Nat := 0
def PySem.W.Fast.tw876844364308432419 : Nat := 0
def PySem.W.Fast.tw10474674416803923013 : Nat := 0
def PySem.W.Fast.tw5163827346717299264 : Nat := 0
def PySem.W.Fast.tw4576011446640954588 : Nat := 0
def PySem.W.Fast.tw10970078524656613731 : Nat := 0
def PySem.W.Fast.tw16470129958682573122 : Nat := 0
def PySem.W.Fast.tw11672858702809266281 : Nat := 0
open PySem PySem.W PyProof.Rows
set_option maxRecDepth 100000 in
set_option maxHeartbeats 0 in
theorem PySem.Challenge.cw_sharetrail_k02_loads_and_deeds_holds : PySem.Challenge.rw_sharetrail_k02_loads_and_deeds.Holds := by
  w_on; o_law; k_head; (case hw => w_witness2)
  k_fill
  refine Mi.walk (l := PySem.Challenge.rw_sharetrail_k02_loads_and_deeds) rfl rfl (fun w h Y => PySem.W.kIn_of Y) rfl ?F
  case F =>
    intro w mg h KX G
    have s_p_is_whole : St.Src (L2.KOf KX) mg "is_whole" Mi.s_p_is_whole := by
      dsimp only [L2.KOf]
      refine' Mi.src_mk KX G ?a ?l ?c ?k
      (case a => k_is); (case l => k_is); (case c => k_is); (case k => k_is)
    have s_p_is_from : St.Src (L2.KOf KX) mg "is_from" Mi.s_p_is_from := by
      dsimp only [L2.KOf]
      refine' Mi.src_mk KX G ?a ?l ?c ?k
      (case a => k_is); (case l => k_is); (case c => k_is); (case k => k_is)
    have s_p_is_within : St.Src (L2.KOf KX) mg "is_within" Mi.s_p_is_within := by
      dsimp only [L2.KOf]
      refine' Mi.src_mk KX G ?a ?l ?c ?k
      (case a => k_is); (case l => k_is); (case c => k_is); (case k => k_is)
    have s_p_greatest_divisor : St.Src (L2.KOf KX) mg "greatest_divisor" Mi.s_p_greatest_divisor := by
      dsimp only [L2.KOf]
      refine' Mi.src_mk KX G ?a ?l ?c ?k
      (case a => k_is); (case l => k_is); (case c => k_is); (case k => k_is)
    have s_p_is_amount : St.Src (L2.KOf KX) mg "is_amount" Mi.s_p_is_amount := by
      dsimp only [L2.KOf]
      refine' Mi.src_mk KX G ?a ?l ?c ?k
      (case a => k_is); (case l => k_is); (case c => k_is); (case k => k_is)
    have s_p_lowest : St.Src (L2.KOf KX) mg "lowest" Mi.s_p_lowest := by
      dsimp only [L2.KOf]
      refine' Mi.src_mk KX G ?a ?l ?c ?k
      (case a => k_is); (case l => k_is); (case c => k_is); (case k => k_is)
    have s_p_plus : St.Src (L2.KOf KX) mg "plus" Mi.s_p_plus := by
      dsimp only [L2.KOf]
      refine' Mi.src_mk KX G ?a ?l ?c ?k
      (case a => k_is); (case l => k_is); (case c => k_is); (case k => k_is)
    have s_p_total : St.Src (L2.KOf KX) mg "total" Mi.s_p_total := by
      dsimp only [L2.KOf]
      refine' Mi.src_mk KX G ?a ?l ?c ?k
      (case a => k_is); (case l => k_is); (case c => k_is); (case k => k_is)
    have s_p_is_tuple_of : St.Src (L2.KOf KX) mg "is_tuple_of" Mi.s_p_is_tuple_of := by
      dsimp only [L2.KOf]
      refine' Mi.src_mk KX G ?a ?l ?c ?k
      (case a => k_is); (case l => k_is); (case c => k_is); (case k => k_is)
    have s_p_is_share : St.Src (L2.KOf KX) mg "is_share" Mi.s_p_is_share := by
      dsimp only [L2.KOf]
      refine' Mi.src_mk KX G ?a ?l ?c ?k
      (case a => k_is); (case l => k_is); (case c => k_is); (case k => k_is)
    have s_p_are_owners : St.Src (L2.KOf KX) mg "are_owners" Mi.s_p_are_owners := by
      dsimp only [L2.KOf]
      refine' Mi.src_mk KX G ?a ?l ?c ?k
      (case a => k_is); (case l => k_is); (case c => k_is); (case k => k_is)
    have s_p_is_partner : St.Src (L2.KOf KX) mg "is_partner" Mi.s_p_is_partner := by
      dsimp only [L2.KOf]
      refine' Mi.src_mk KX G ?a ?l ?c ?k
      (case a => k_is); (case l => k_is); (case c => k_is); (case k => k_is)
    have s_p_is_kind : St.Src (L2.KOf KX) mg "is_kind" Mi.s_p_is_kind := by
      dsimp only [L2.KOf]
      refine' Mi.src_mk KX G ?a ?l ?c ?k
      (case a => k_is); (case l => k_is); (case c => k_is); (case k => k_is)
    have s_p_is_load_number : St.Src (L2.KOf KX) mg "is_load_number" Mi.s_p_is_load_number := by
      dsimp only [L2.KOf]
      refine' Mi.src_mk KX G ?a ?l ?c ?k
      (case a => k_is); (case l => k_is); (case c => k_is); (case k => k_is)
    have s_p_is_trade_number : St.Src (L2.KOf KX) mg "is_trade_number" Mi.s_p_is_trade_number := by
      dsimp only [L2.KOf]
      refine' Mi.src_mk KX G ?a ?l ?c ?k
      (case a => k_is); (case l => k_is); (case c => k_is); (case k => k_is)
    have s_p_are_pieces : St.Src (L2.KOf KX) mg "are_pieces" Mi.s_p_are_pieces := by
      dsimp only [L2.KOf]
      refine' Mi.src_mk KX G ?a ?l ?c ?k
      (case a => k_is); (case l => k_is); (case c => k_is); (case k => k_is)
    have s_p_are_values : St.Src (L2.KOf KX) mg "are_values" Mi.s_p_are_values := by
      dsimp only [L2.KOf]
      refine' Mi.src_mk KX G ?a ?l ?c ?k
      (case a => k_is); (case l => k_is); (case c => k_is); (case k => k_is)
    have s_p_are_worths : St.Src (L2.KOf KX) mg "are_worths" Mi.s_p_are_worths := by
      dsimp only [L2.KOf]
      refine' Mi.src_mk KX G ?a ?l ?c ?k
      (case a => k_is); (case l => k_is); (case c => k_is); (case k => k_is)
    have s_p_is_sold_share : St.Src (L2.KOf KX) mg "is_sold_share" Mi.s_p_is_sold_share := by
      dsimp only [L2.KOf]
      refine' Mi.src_mk KX G ?a ?l ?c ?k
      (case a => k_is); (case l => k_is); (case c => k_is); (case k => k_is)
    have s_p_is_part : St.Src (L2.KOf KX) mg "is_part" Mi.s_p_is_part := by
      dsimp only [L2.KOf]
      refine' Mi.src_mk KX G ?a ?l ?c ?k
      (case a => k_is); (case l => k_is); (case c => k_is); (case k => k_is)
    have s_p_is_load : St.Src (L2.KOf KX) mg "is_load" Mi.s_p_is_load := by
      dsimp only [L2.KOf]
      refine' Mi.src_mk KX G ?a ?l ?c ?k
      (case a => k_is); (case l => k_is); (case c => k_is); (case k => k_is)
    have s_p_is_deed : St.Src (L2.KOf KX) mg "is_deed" Mi.s_p_is_deed := by
      dsimp only [L2.KOf]
      refine' Mi.src_mk KX G ?a ?l ?c ?k
      (case a => k_is); (case l => k_is); (case c => k_is); (case k => k_is)
    have s_law_cell_at : St.Src (L2.KOf KX) mg "_law_cell_at" Mi.s_law_cell_at := by
      dsimp only [L2.KOf]
      refine' Mi.src_mk KX G ?a ?l ?c ?k
      (case a => k_is); (case l => k_is); (case c => k_is); (case k => k_is)
    have s_law_pen : St.Src (L2.KOf KX) mg "_law_pen" Mi.s_law_pen := by
      dsimp only [L2.KOf]
      refine' Mi.src_mk KX G ?a ?l ?c ?k
      (case a => k_is); (case l => k_is); (case c => k_is); (case k => k_is)
    have s_law_draw : St.Src (L2.KOf KX) mg "_law_draw" Mi.s_law_draw := by
      dsimp only [L2.KOf]
      refine' Mi.src_mk KX G ?a ?l ?c ?k
      (case a => k_is); (case l => k_is); (case c => k_is); (case k => k_is)
    have s_law_common : St.Src (L2.KOf KX) mg "_law_common" Mi.s_law_common := by
      dsimp only [L2.KOf]
      refine' Mi.src_mk KX G ?a ?l ?c ?k
      (case a => k_is); (case l => k_is); (case c => k_is); (case k => k_is)
    have s_law_made : St.Src (L2.KOf KX) mg "_law_made" Mi.s_law_made := by
      dsimp only [L2.KOf]
      refine' Mi.src_mk KX G ?a ?l ?c ?k
      (case a => k_is); (case l => k_is); (case c => k_is); (case k => k_is)
    have s_law_plus : St.Src (L2.KOf KX) mg "_law_plus" Mi.s_law_plus := by
      dsimp only [L2.KOf]
      refine' Mi.src_mk KX G ?a ?l ?c ?k
      (case a => k_is); (case l => k_is); (case c => k_is); (case k => k_is)
    have s_law_sum : St.Src (L2.KOf KX) mg "_law_sum" Mi.s_law_sum := by
      dsimp only [L2.KOf]
      refine' Mi.src_mk KX G ?a ?l ?c ?k
      (case a => k_is); (case l => k_is); (case c => k_is); (case k => k_is)
    have s_law_whole : St.Src (L2.KOf KX) mg "_law_whole" Mi.s_law_whole := by
      dsimp only [L2.KOf]
      refine' Mi.src_mk KX G ?a ?l ?c ?k
      (case a => k_is); (case l => k_is); (case c => k_is); (case k => k_is)
    have s_law_pieces : St.Src (L2.KOf KX) mg "_law_pieces" Mi.s_law_pieces := by
      dsimp only [L2.KOf]
      refine' Mi.src_mk KX G ?a ?l ?c ?k
      (case a => k_is); (case l => k_is); (case c => k_is); (case k => k_is)
    have s_law_train : St.Src (L2.KOf KX) mg "_law_train" Mi.s_law_train := by
      dsimp only [L2.KOf]
      refine' Mi.src_mk KX G ?a ?l ?c ?k
      (case a => k_is); (case l => k_is); (case c => k_is); (case k => k_is)
    have s_law_share : St.Src (L2.KOf KX) mg "_law_share" Mi.s_law_share := by
      dsimp only [L2.KOf]
      refine' Mi.src_mk KX G ?a ?l ?c ?k
      (case a => k_is); (case l => k_is); (case c => k_is); (case k => k_is)
    have s_law_worths : St.Src (L2.KOf KX) mg "_law_worths" Mi.s_law_worths := by
      dsimp only [L2.KOf]
      refine' Mi.src_mk KX G ?a ?l ?c ?k
      (case a => k_is); (case l => k_is); (case c => k_is); (case k => k_is)
    have s_law_thing : St.Src (L2.KOf KX) mg "_law_thing" Mi.s_law_thing := by
      dsimp only [L2.KOf]
      refine' Mi.src_mk KX G ?a ?l ?c ?k
      (case a => k_is); (case l => k_is); (case c => k_is); (case k => k_is)
    have s_law_spoilt : St.Src (L2.KOf KX) mg "_law_spoilt" Mi.s_law_spoilt := by
      dsimp only [L2.KOf]
      refine' Mi.src_mk KX G ?a ?l ?c ?k
      (case a => k_is); (case l => k_is); (case c => k_is); (case k => k_is)
    have s_law_in : St.Src (L2.KOf KX) mg "_law_in" Mi.s_law_in := by
      dsimp only [L2.KOf]
      refine' Mi.src_mk KX G ?a ?l ?c ?k
      (case a => k_is); (case l => k_is); (case c => k_is); (case k => k_is)
    have s_law_is_amount : St.Src (L2.KOf KX) mg "_law_is_amount" Mi.s_law_is_amount := by
      dsimp only [L2.KOf]
      refine' Mi.src_mk KX G ?a ?l ?c ?k
      (case a => k_is); (case l => k_is); (case c => k_is); (case k => k_is)
    have s_law_is_share : St.Src (L2.KOf KX) mg "_law_is_share" Mi.s_law_is_share := by
      dsimp only [L2.KOf]
      refine' Mi.src_mk KX G ?a ?l ?c ?k
      (case a => k_is); (case l => k_is); (case c => k_is); (case k => k_is)
    have s_law_are_shares : St.Src (L2.KOf KX) mg "_law_are_shares" Mi.s_law_are_shares := by
      dsimp only [L2.KOf]
      refine' Mi.src_mk KX G ?a ?l ?c ?k
      (case a => k_is); (case l => k_is); (case c => k_is); (case k => k_is)
    have s_law_is_load : St.Src (L2.KOf KX) mg "_law_is_load" Mi.s_law_is_load := by
      dsimp only [L2.KOf]
      refine' Mi.src_mk KX G ?a ?l ?c ?k
      (case a => k_is); (case l => k_is); (case c => k_is); (case k => k_is)
    have s_law_are_worths : St.Src (L2.KOf KX) mg "_law_are_worths" Mi.s_law_are_worths := by
      dsimp only [L2.KOf]
      refine' Mi.src_mk KX G ?a ?l ?c ?k
      (case a => k_is); (case l => k_is); (case c => k_is); (case k => k_is)
    have s_law_is_sale : St.Src (L2.KOf KX) mg "_law_is_sale" Mi.s_law_is_sale := by
      dsimp only [L2.KOf]
      refine' Mi.src_mk KX G ?a ?l ?c ?k
      (case a => k_is); (case l => k_is); (case c => k_is); (case k => k_is)
    have s_law_is_deed : St.Src (L2.KOf KX) mg "_law_is_deed" Mi.s_law_is_deed := by
      dsimp only [L2.KOf]
      refine' Mi.src_mk KX G ?a ?l ?c ?k
      (case a => k_is); (case l => k_is); (case c => k_is); (case k => k_is)
    have s_law_deeds : St.Src (L2.KOf KX) mg "_law_deeds" Mi.s_law_deeds := by
      dsimp only [L2.KOf]
      refine' Mi.src_mk KX G ?a ?l ?c ?k
      (case a => k_is); (case l => k_is); (case c => k_is); (case k => k_is)
    have s_law_bounds : St.Src (L2.KOf KX) mg "_law_bounds" Mi.s_law_bounds := by
      dsimp only [L2.KOf]
      refine' Mi.src_mk KX G ?a ?l ?c ?k
      (case a => k_is); (case l => k_is); (case c => k_is); (case k => k_is)
    have s_p_law : St.Src (L2.KOf KX) mg "law" Mi.s_p_law := by
      dsimp only [L2.KOf]
      refine' Mi.src_mk KX G ?a ?l ?c ?k
      (case a => k_is); (case l => k_is); (case c => k_is); (case k => k_is)
    have c_ALL : Mi.CstD (L2.KOf KX) mg "ALL" Mi.k_ALL := by
      dsimp only [L2.KOf]
      refine' Mi.cst_mk KX G ?e ?r
      (case e => k_is)
      case r =>
        refine' Mi.isd_tup ?l ?z ?r
        (case l => k_is)
        (case z => decide)
        case r =>
          refine' Paired.cons ?_ ?_
          · exact Mi.isd_int
          refine' Paired.cons ?_ ?_
          · exact Mi.isd_int
          exact Paired.nil
    have c_NOTHING : Mi.CstD (L2.KOf KX) mg "NOTHING" Mi.k_NOTHING := by
      dsimp only [L2.KOf]
      refine' Mi.cst_mk KX G ?e ?r
      (case e => k_is)
      case r =>
        refine' Mi.isd_tup ?l ?z ?r
        (case l => k_is)
        (case z => decide)
        case r =>
          refine' Paired.cons ?_ ?_
          · exact Mi.isd_int
          refine' Paired.cons ?_ ?_
          · exact Mi.isd_int
          exact Paired.nil
    have c_UNLIKE : Mi.CstD (L2.KOf KX) mg "UNLIKE" Mi.k_UNLIKE := by
      dsimp only [L2.KOf]
      refine' Mi.cst_mk KX G ?e ?r
      (case e => k_is)
      case r =>
        refine' Mi.isd_tup ?l ?z ?r
        (case l => k_is)
        (case z => decide)
        case r =>
          refine' Paired.cons ?_ ?_
          · exact Mi.isd_str
          refine' Paired.cons ?_ ?_
          · exact Mi.isd_str
          exact Paired.nil
    have c_FORMS : Mi.TopT (L2.KOf KX) w mg "FORMS" Mi.k_FORMS := by
      dsimp only [L2.KOf]
      refine' Mi.topT_mk KX G ?e ?l ?hk ?hne ?hp
      (case e => k_is)
      (case l => k_is)
      (case hk => repeat (first | exact True.intro | refine' And.intro ⟨_, _, rfl, rfl⟩ ?_))
      (case hne => decide)
      case hp =>
        refine' Paired.cons ⟨⟨_, rfl⟩, ?_⟩ ?_
        · refine' Mi.isd_tup ?l ?z ?r
          (case l => k_is)
          (case z => decide)
          case r =>
            refine' Paired.cons ?_ ?_
            · exact Mi.isd_str
            refine' Paired.cons ?_ ?_
            · exact Mi.isd_str
            refine' Paired.cons ?_ ?_
            · exact Mi.isd_str
            exact Paired.nil
        refine' Paired.cons ⟨⟨_, rfl⟩, ?_⟩ ?_
        · refine' Mi.isd_tup ?l ?z ?r
          (case l => k_is)
          (case z => decide)
          case r =>
            refine' Paired.cons ?_ ?_
            · exact Mi.isd_str
            refine' Paired.cons ?_ ?_
            · exact Mi.isd_str
            exact Paired.nil
        refine' Paired.cons ⟨⟨_, rfl⟩, ?_⟩ ?_
        · refine' Mi.isd_tup ?l ?z ?r
          (case l => k_is)
          (case z => decide)
          case r =>
            refine' Paired.cons ?_ ?_
            · exact Mi.isd_str
            refine' Paired.cons ?_ ?_
            · exact Mi.isd_str
            refine' Paired.cons ?_ ?_
            · exact Mi.isd_str
            refine' Paired.cons ?_ ?_
            · exact Mi.isd_str
            exact Paired.nil
        refine' Paired.cons ⟨⟨_, rfl⟩, ?_⟩ ?_
        · refine' Mi.isd_tup ?l ?z ?r
          (case l => k_is)
          (case z => decide)
          case r =>
            refine' Paired.cons ?_ ?_
            · exact Mi.isd_str
            refine' Paired.cons ?_ ?_
            · exact Mi.isd_str
            refine' Paired.cons ?_ ?_
            · exact Mi.isd_str
            refine' Paired.cons ?_ ?_
            · exact Mi.isd_str
            refine' Paired.cons ?_ ?_
            · exact Mi.isd_str
            exact Paired.nil
        refine' Paired.cons ⟨⟨_, rfl⟩, ?_⟩ ?_
        · refine' Mi.isd_tup ?l ?z ?r
          (case l => k_is)
          (case z => decide)
          case r =>
            refine' Paired.cons ?_ ?_
            · exact Mi.isd_str
            refine' Paired.cons ?_ ?_
            · exact Mi.isd_str
            exact Paired.nil
        refine' Paired.cons ⟨⟨_, rfl⟩, ?_⟩ ?_
        · refine' Mi.isd_tup ?l ?z ?r
          (case l => k_is)
          (case z => decide)
          case r =>
            refine' Paired.cons ?_ ?_
            · exact Mi.isd_str
            refine' Paired.cons ?_ ?_
            · exact Mi.isd_str
            refine' Paired.cons ?_ ?_
            · exact Mi.isd_str
            exact Paired.nil
        refine' Paired.cons ⟨⟨_, rfl⟩, ?_⟩ ?_
        · refine' Mi.isd_tup ?l ?z ?r
          (case l => k_is)
          (case z => decide)
          case r =>
            refine' Paired.cons ?_ ?_
            · exact Mi.isd_str
            refine' Paired.cons ?_ ?_
            · exact Mi.isd_str
            refine' Paired.cons ?_ ?_
            · exact Mi.isd_str
            exact Paired.nil
        exact Paired.nil
    have r_PARTS : Mi.TopR w (L2.KOf KX) mg "PARTS" [("partner", "is_partner"), ("kind", "is_kind"), ("load", "is_load_number"), ("number", "is_trade_number"), ("pieces", "are_pieces"), ("worths", "are_worths"), ("share", "is_sold_share")] := by
      dsimp only [L2.KOf]
      refine' Mi.topR_mk KX G ?e ?l ?hk ?hne ?hp
      (case e => k_is)
      (case l => k_is)
      (case hk => repeat (first | exact True.intro | refine' And.intro ⟨_, _, rfl, rfl⟩ ?_))
      (case hne => decide)
      case hp =>
        refine' Paired.cons ⟨⟨_, rfl⟩, _, rfl, ?_⟩ ?_
        · k_is
        refine' Paired.cons ⟨⟨_, rfl⟩, _, rfl, ?_⟩ ?_
        · k_is
        refine' Paired.cons ⟨⟨_, rfl⟩, _, rfl, ?_⟩ ?_
        · k_is
        refine' Paired.cons ⟨⟨_, rfl⟩, _, rfl, ?_⟩ ?_
        · k_is
        refine' Paired.cons ⟨⟨_, rfl⟩, _, rfl, ?_⟩ ?_
        · k_is
        refine' Paired.cons ⟨⟨_, rfl⟩, _, rfl, ?_⟩ ?_
        · k_is
        refine' Paired.cons ⟨⟨_, rfl⟩, _, rfl, ?_⟩ ?_
        · k_is
        exact Paired.nil
    have z_abs : mg "abs" = none := by
      refine' PySem.W.mg_none_of KX G ?z
      (case z => k_is)
    have z_all : mg "all" = none := by
      refine' PySem.W.mg_none_of KX G ?z
      (case z => k_is)
    have z_bool : mg "bool" = none := by
      refine' PySem.W.mg_none_of KX G ?z
      (case z => k_is)
    have z_enumerate : mg "enumerate" = none := by
      refine' PySem.W.mg_none_of KX G ?z
      (case z => k_is)
    have z_int : mg "int" = none := by
      refine' PySem.W.mg_none_of KX G ?z
      (case z => k_is)
    have z_isinstance : mg "isinstance" = none := by
      refine' PySem.W.mg_none_of KX G ?z
      (case z => k_is)
    have z_len : mg "len" = none := by
      refine' PySem.W.mg_none_of KX G ?z
      (case z => k_is)
    have z_list : mg "list" = none := by
      refine' PySem.W.mg_none_of KX G ?z
      (case z => k_is)
    have z_max : mg "max" = none := by
      refine' PySem.W.mg_none_of KX G ?z
      (case z => k_is)
    have z_min : mg "min" = none := by
      refine' PySem.W.mg_none_of KX G ?z
      (case z => k_is)
    have z_range : mg "range" = none := by
      refine' PySem.W.mg_none_of KX G ?z
      (case z => k_is)
    have z_str : mg "str" = none := by
      refine' PySem.W.mg_none_of KX G ?z
      (case z => k_is)
    have z_sum : mg "sum" = none := by
      refine' PySem.W.mg_none_of KX G ?z
      (case z => k_is)
    have z_tuple : mg "tuple" = none := by
      refine' PySem.W.mg_none_of KX G ?z
      (case z => k_is)
    exact ⟨⟨z_abs, z_all, z_bool, z_enumerate, z_int, z_isinstance, z_len, z_list, z_max, z_min, z_range, z_str, z_sum, z_tuple⟩, c_ALL, c_NOTHING, c_UNLIKE, c_FORMS, r_PARTS, s_p_is_whole, s_p_is_from, s_p_is_within, s_p_greatest_divisor, s_p_is_amount, s_p_lowest, s_p_plus, s_p_total, s_p_is_tuple_of, s_p_is_share, s_p_are_owners, s_p_is_partner, s_p_is_kind, s_p_is_load_number, s_p_is_trade_number, s_p_are_pieces, s_p_are_values, s_p_are_worths, s_p_is_sold_share, s_p_is_part, s_p_is_load, s_p_is_deed, s_law_cell_at, s_law_pen, s_law_draw, s_law_common, s_law_made, s_law_plus, s_law_sum, s_law_whole, s_law_pieces, s_law_train, s_law_share, s_law_worths, s_law_thing, s_law_spoilt, s_law_in, s_law_is_amount, s_law_is_share, s_law_are_shares, s_law_is_load, s_law_are_worths, s_law_is_sale, s_law_is_deed, s_law_deeds, s_law_bounds, s_p_law⟩
end
