import PyProof.Rows.All
import Wide.All
import OpenK.AllK
import Wide.FinOn
import Lean
import PyProof.EqAt
import PyProof.EqKinds
import PyProof.TupleCall
import PyProof.Draws
import PyProof.EnumMake
import PyProof.EnumFor
import PyProof.ZipIter
import PyProof.ListMulRoad
import PyProof.NeData
import PyProof.SumWalkG
import PyProof.ListRange
import PySem.Challenge.RW_sharetrail_k14_pools_and_swaps
set_option Elab.async false
set_option linter.all false
set_option maxRecDepth 100000
set_option maxHeartbeats 4000000
set_option exponentiation.threshold 10000
section
namespace L2
open PySem PySem.Spec PyProof.Rows
abbrev Key := Sum Int Str
def UR : Key -> Value -> Bool
 | .inl k, v => Value.isInt k v
 | .inr x, v => Value.isStrOf x v
def Z2 (w : World) : Key -> Int
 | .inl k => hashInt k
 | .inr x => hashStr w x
theorem Bu : ∀ {k : Key} {v : Value}, UR k v = true -> (∃ i t, k = Sum.inl i /\ v = Value.int i t) ∨ (∃ x t, k = Sum.inr x /\ v = Value.str x t)
  | .inl i, v, h => by
    obtain ⟨t, e⟩ := Value.isInt_shape (k := i) (v := v) h
    exact .inl ⟨i, t, rfl, e⟩
  | .inr x, v, h => by
    obtain ⟨t, e⟩ := Value.isStrOf_shape (x := x) (v := v) h
    exact .inr ⟨x, t, rfl, e⟩
theorem Vf (a b : Int) : decide ((Sum.inl a : Key) = Sum.inl b) = (a == b) := by
 by_cases e : a = b
 ·subst e; simp
 ·have h : ¬ (Sum.inl a : Key) = Sum.inl b := fun q => e (Sum.inl.inj q)
  rw [decide_eq_false h]
  exact (beq_eq_false_iff_ne.mpr e).symm
theorem VZ (a b : Str) : decide ((Sum.inr a : Key) = Sum.inr b) = decide (a = b) := by
 by_cases e : a = b
 ·subst e; simp
 ·have h : ¬ (Sum.inr a : Key) = Sum.inr b := fun q => e (Sum.inr.inj q)
  rw [decide_eq_false h, decide_eq_false e]
theorem U8 (a : Int) (b : Str) : decide ((Sum.inl a : Key) = Sum.inr b) = false := decide_eq_false (fun q => nomatch q)
theorem Vw (a : Str) (b : Int) : decide ((Sum.inr a : Key) = Sum.inl b) = false := decide_eq_false (fun q => nomatch q)
def PL (prog : Program) (w : World) : PySem.KeyKind prog w Key where
 is := UR
 hash := Z2 w
 inj := fun v a b ha hb => by
  rcases Bu ha with ⟨i, t, rfl, rfl⟩ | ⟨x, t, rfl, rfl⟩
  ·rcases Bu hb with ⟨j, u, rfl, e⟩ | ⟨y, u, rfl, e⟩
   ·injection e with e1 _; rw [e1]
   ·exact nomatch e
  ·rcases Bu hb with ⟨j, u, rfl, e⟩ | ⟨y, u, rfl, e⟩
   ·exact nomatch e
   ·injection e with e1 _; rw [e1]
 byValue := fun k v h => by
  rcases Bu h with ⟨i, t, rfl, rfl⟩ | ⟨x, t, rfl, rfl⟩ <;> rfl
 pyHash := fun hv h => by
  rcases Bu hv with ⟨i, t, rfl, rfl⟩ | ⟨x, t, rfl, rfl⟩
  ·exact wpAny_pyHash_int h
  ·exact wpAny_pyHash_str h
 eqBool := fun hu hv h => by
  rcases Bu hu with ⟨i, t, rfl, rfl⟩ | ⟨x, t, rfl, rfl⟩
  ·rcases Bu hv with ⟨j, u, rfl, rfl⟩ | ⟨y, u, rfl, rfl⟩
   ·rw [Vf] at h; exact wpAny_eqBool_int h
   ·rw [U8] at h; exact SeqAt.EqAt.int_str i t y u _ _ _ _ h
  ·rcases Bu hv with ⟨j, u, rfl, rfl⟩ | ⟨y, u, rfl, rfl⟩
   ·rw [Vw] at h; exact SeqAt.EqAt.str_int x t j u _ _ _ _ h
   ·rw [VZ] at h; exact wpAny_eqBool_str h
 «strs» := fun k x t v h => by
  rcases Bu h with ⟨i, u, rfl, e⟩ | ⟨y, u, rfl, e⟩
  ·exact nomatch e
  ·injection e with e1 _
   subst e1
   cases v <;> rfl
end L2
namespace L2
open PySem PySem.Spec PyProof.Rows
inductive V where
 | non | bl (b : Bool) | int (i : Int) | str (x : Str) | byt (b : Array UInt8) | flt (b : UInt64) | ref (a : Addr) | ty (n : String)
 deriving DecidableEq
def RelV : V -> Value -> Prop
 | .non, u => u = Value.none
 | .bl b, u => u = Value.bool b
 | .int i, u => ∃ t, u = Value.int i t
 | .str x, u => ∃ t, u = Value.str x t
 | .byt b, u => ∃ t, u = Value.bytes b t
 | .flt b, u => ∃ t, u = Value.float b t
 | .ref a, u => u = Value.ref a
 | .ty n, u => u = Value.type n
abbrev Vals : List V -> List Value -> Prop := Paired RelV
theorem Vals.length {xs : List V} {us : List Value} (r : Vals xs us) : xs.length = us.length := Paired.length r
theorem Vals.get : ∀ {xs : List V} {us : List Value} {i : Nat} {x : V}, Vals xs us -> xs[i]? = some x -> ∃ u, us[i]? = some u /\ RelV x u
  | _, _, _, _, .nil, e => by simp at e
  | _, _, 0, _, .cons r _, e => by simp at e; subst e; exact ⟨_, rfl, r⟩
  | _, _, i + 1, x, .cons _ t, e => by
    obtain ⟨u, h1, h2⟩ := Vals.get (i := i) (x := x) t (by simpa using e)
    exact ⟨u, by simpa using h1, h2⟩
theorem Vals.set {x : V} {u : Value} (r : RelV x u) : ∀ {xs : List V} {us : List Value} (i : Nat), Vals xs us -> Vals (xs.set i x) (us.set i u)
 | _, _, _, .nil => .nil
 | _, _, 0, .cons _ t => .cons r t
 | _, _, i + 1, .cons q t => .cons q (Vals.set r i t)
theorem Vals.append : ∀ {xs ys : List V} {us ws : List Value}, Vals xs us -> Vals ys ws -> Vals (xs ++ ys) (us ++ ws)
 | _, _, _, _, .nil, s => s
 | _, _, _, _, .cons r t, s => .cons r (Vals.append t s)
theorem Vals.take : ∀ {xs : List V} {us : List Value} (n : Nat), Vals xs us -> Vals (xs.take n) (us.take n)
 | _, _, 0, _ => .nil
 | _, _, _ + 1, .nil => .nil
 | _, _, n + 1, .cons r t => .cons r (Vals.take n t)
theorem Vals.drop : ∀ {xs : List V} {us : List Value} (n : Nat), Vals xs us -> Vals (xs.drop n) (us.drop n)
 | _, _, 0, r => r
 | _, _, _ + 1, .nil => .nil
 | _, _, n + 1, .cons _ t => Vals.drop n t
def W0 : Option V -> Option Value -> Prop
 | some v, some u => RelV v u
 | none, none => True
 | _, _ => False
def KV {κ : Type} : List (κ × V) -> List (κ × Value) -> Prop := Paired fun (p : κ × V) (q : κ × Value) => p.1 = q.1 /\ RelV p.2 q.2
def kV : Key -> V
 | .inl i => .int i
 | .inr x => .str x
inductive HO where
 | lst (xs : List V)
 | tup (xs : List V)
 | dK (kvs : List (Key × V)) | dT (kvs : List (List Key × V))
 | set (S : Int -> Bool) (n : Nat)
 | ins (C dx : Addr) (fs : List (Str × V))
 | own (x : Addr)
 | xd (fs : List (Str × V))
 | met (f x : Addr)
 | rng (lo hi : Int)
 | frz (o : Obj) (u : HO)
 | tbl (ps : Array Value)
 | ext (φ : Heap -> Prop)
abbrev Hp := Addr -> Option HO
def upd (H : Hp) (a : Addr) (o : HO) : Hp := fun b => if b = a then some o else H b
theorem Bb {H : Hp} {a : Addr} {o : HO} : upd H a o a = some o := by unfold upd; rw [if_pos rfl]
theorem Ak {H : Hp} {a b : Addr} {o : HO} (h : b ≠ a) : upd H a o b = H b := by unfold upd; rw [if_neg h]
theorem A7 {H : Hp} {a b : Addr} {o : HO} (h : H a = some o) (h' : H b = none) : a ≠ b := by
 intro e; subst e; rw [h] at h'; cases h'
section
variable (P : Program) (w : World)
def Eg (H : Hp) (h : Heap) (a : Addr) : HO -> Prop
 | .lst xs => xs.length ≤ sizeLine /\ ∃ (its : List Value) (n : Nat), Vals xs its /\ h.get? a = some { cls := .type "list", data := .seq its.toArray n }
 | .tup xs => xs.length ≤ sizeLine /\ ∃ its : List Value, Vals xs its /\ IsTup h a its.toArray
 | .dK kvs => kvs.length ≤ sizeLine /\ (a == sysModules) = false /\ ∃ vs, KV kvs vs /\ h.DictOf (PL P w) a vs
 | .dT kvs => kvs.length ≤ sizeLine /\ (a == sysModules) = false /\ ∃ xs : List (List Key × Addr × Value),
   Paired (fun (p : List Key × V) (q : List Key × Addr × Value) => p.1 = q.1 /\ H q.2.1 = some (.tup (p.1.map kV)) /\ RelV p.2 q.2.2) kvs xs /\
   ∃ o es ep, h.get? a = some o /\ o.ExactDict /\ o.data = .dict es ep /\ es.toList = xs.map (entryOfKey (tupleKind (PL P w))) /\ (xs.map (·.1)).Nodup
 | .set S n => h.SetOf (intKind P w) a S n
 | .ins C dx fs => H dx = some (.own a) /\ fs.length ≤ 1000 /\ dx ≠ a /\ h.get? a = some (PySem.W.instObj C dx) /\
   ∃ mA, h.Ns1 dx mA /\ (∀ f, W0 (fs.lookup f) (mA f)) /\ PySem.Within mA (fs.map (·.1))
 | .own _ => ∃ o, h.get? a = some o
 | .xd fs => ∃ mA, h.Ns1 a mA /\ ∀ f, W0 (fs.lookup f) (mA f)
 | .rng lo hi => ∃ t u v, h.get? a = some { cls := .type "range", data := .fields #[.int lo t, .int hi u, .int 1 v] }
 | .frz o u => h.get? a = some o /\ Eg H h a u
 | .tbl ps => h.get? a = some { cls := .none, data := .fields ps }
 | .met f x => h.get? a = some (PySem.W.methodObj (.ref f) (.ref x))
 | .ext φ => φ h /\ (∃ o, h.get? a = some o) /\ ∀ h1 h2 : Heap, φ h1 -> (∀ o, h1.get? a = some o -> h2.get? a = some o) -> φ h2
def HOk (H : Hp) (h : Heap) : Prop := ∀ a o, H a = some o -> Eg P w H h a o
end
section
variable {P : Program} {w : World} {H H' : Hp} {h h' : Heap} {a : Addr} {o : HO}
theorem Eg.lt (x : Eg P w H h a o) : a < h.objs.size := by
 cases o with
 | lst xs => obtain ⟨_, _, _, _, e⟩ := x; exact Heap.lt_size e
 | tup xs => obtain ⟨_, _, _, p⟩ := x; exact p.lt
 | dK kvs => obtain ⟨_, _, _, _, o, _, _, e, _⟩ := x; exact Heap.lt_size e
 | dT kvs => obtain ⟨_, _, _, _, o, _, _, e, _⟩ := x; exact Heap.lt_size e
 | set S n => obtain ⟨o, _, _, _, e, _⟩ := x; exact Heap.lt_size e
 | ins C dx fs => obtain ⟨_, _, _, e, _⟩ := x; exact Heap.lt_size e
 | own y => obtain ⟨_, e⟩ := x; exact Heap.lt_size e
 | xd fs => obtain ⟨_, ⟨_, _, _, e, _⟩, _⟩ := x; exact Heap.lt_size e
 | rng lo hi => obtain ⟨_, _, _, e⟩ := x; exact Heap.lt_size e
 | frz ob u => obtain ⟨e, _⟩ := x; exact Heap.lt_size e
 | tbl ps => exact Heap.lt_size (show h.get? a = some _ from x)
 | met f y => exact Heap.lt_size (show h.get? a = some _ from x)
 | ext φ => obtain ⟨_, ⟨_, e⟩, _⟩ := x; exact Heap.lt_size e
theorem Paired.mapP {α β : Type} {F G : α -> β -> Prop} : ∀ {l₁ : List α} {l₂ : List β}, Paired F l₁ l₂ -> (∀ a b, F a b -> G a b) -> Paired G l₁ l₂
 | _, _, .nil, _ => .nil
 | _, _, .cons r t, f => .cons (f _ _ r) (Paired.mapP t f)
theorem Eg.stay (x : Eg P w H h a o) (k : ∀ b u, (b = a ∨ H b = some (.own a)) -> h.get? b = some u -> h'.get? b = some u)
    (ho : ∀ b, H b = some (.own a) -> H' b = some (.own a)) (ht : ∀ b xs, H b = some (.tup xs) -> H' b = some (.tup xs)) : Eg P w H' h' a o := by
  induction o with
  | lst xs => obtain ⟨z, its, n, r, e⟩ := x; exact ⟨z, its, n, r, k _ _ (.inl rfl) e⟩
  | tup xs => obtain ⟨z, its, r, ob, e, c⟩ := x; exact ⟨z, its, r, ob, k _ _ (.inl rfl) e, c⟩
  | dK kvs => obtain ⟨z, y, vs, r, ob, es, ep, e, c⟩ := x; exact ⟨z, y, vs, r, ob, es, ep, k _ _ (.inl rfl) e, c⟩
  | dT kvs =>
    obtain ⟨z, y, xs, r, ob, es, ep, e, c⟩ := x
    exact ⟨z, y, xs, Paired.mapP r fun p q z => ⟨z.1, ht _ _ z.2.1, z.2.2⟩, ob, es, ep, k _ _ (.inl rfl) e, c⟩
  | set S n => obtain ⟨ob, es, ep, t, e, c⟩ := x; exact ⟨ob, es, ep, t, k _ _ (.inl rfl) e, c⟩
  | ins C dx fs =>
    obtain ⟨d, z, ne, e, mA, ⟨od, es, ep, e2, c⟩, r⟩ := x
    exact ⟨ho _ d, z, ne, k _ _ (.inl rfl) e, mA, ⟨od, es, ep, k _ _ (.inr d) e2, c⟩, r⟩
  | own y => obtain ⟨ob, e⟩ := x; exact ⟨ob, k _ _ (.inl rfl) e⟩
  | xd fs => obtain ⟨mA, ⟨od, es, ep, e, c⟩, r⟩ := x; exact ⟨mA, ⟨od, es, ep, k _ _ (.inl rfl) e, c⟩, r⟩
  | rng lo hi => obtain ⟨t, u, v, e⟩ := x; exact ⟨t, u, v, k _ _ (.inl rfl) e⟩
  | frz ob u ih => obtain ⟨e, q⟩ := x; exact ⟨k _ _ (.inl rfl) e, ih q⟩
  | tbl ps =>
    have e : h.get? a = some { cls := .none, data := .fields ps } := x
    show h'.get? a = some { cls := .none, data := .fields ps }
    exact k a _ (.inl rfl) e
  | met f y =>
    have e : h.get? a = some (PySem.W.methodObj (.ref f) (.ref y)) := x
    show h'.get? a = some (PySem.W.methodObj (.ref f) (.ref y))
    exact k a _ (.inl rfl) e
  | ext φ => obtain ⟨p, ⟨o, e⟩, st⟩ := x; exact ⟨st _ _ p fun o q => k _ _ (.inl rfl) q, ⟨o, k _ _ (.inl rfl) e⟩, st⟩
theorem HOk.lt (x : HOk P w H h) (e : H a = some o) : a < h.objs.size := (x a o e).lt
theorem HOk.fresh (x : HOk P w H h) (e : h.objs.size ≤ a) : H a = none := by
 cases q : H a with
 | none => rfl
 | some u => exact absurd (Nat.lt_of_lt_of_le (x.lt q) e) (Nat.lt_irrefl _)
theorem HOk.kept (x : HOk P w H h) (k : ∀ b u, h.get? b = some u -> h'.get? b = some u) : HOk P w H h' := fun a o e =>
 (x a o e).stay (fun b u _ q => k b u q) (fun _ q => q) fun _ _ q => q
theorem HOk.laid (x : HOk P w H h) (k : ∀ b u, h.get? b = some u -> h'.get? b = some u) (hp : h.objs.size ≤ a) (new : Eg P w (upd H a o) h' a o) : HOk P w (upd H a o) h' := fun b u e => by
 have hn := x.fresh hp
 by_cases hb : b = a
 ·subst hb; rw [Bb] at e; cases e; exact new
 ·rw [Ak hb] at e
  exact (x b u e).stay (fun c v _ q => k c v q) (fun c q => by rw [Ak (A7 q hn)]; exact q) fun c xs q => by rw [Ak (A7 q hn)]; exact q
end
def Rd (H : Hp) (a : Addr) (u : HO) : Prop := H a = some u ∨ ∃ o, H a = some (.frz o u)
theorem Rd.ok {P : Program} {w : World} {H : Hp} {h : Heap} {a : Addr} {u : HO} (r : Rd H a u) (x : HOk P w H h) : Eg P w H h a u := by
 rcases r with r | ⟨o, r⟩
 ·exact x a u r
 ·obtain ⟨_, q⟩ := x a _ r
  exact q
def Mut : Option HO -> Prop
 | some (.lst _) => True
 | some (.dK _) => True
 | some (.dT _) => True
 | some (.set _ _) => True
 | some (.ins _ _ _) => True
 | some (.ext _) => True
 | _ => False
section
variable {P : Program} {w : World} {H : Hp} {h h' : Heap} {x e : Addr} {o' : HO}
theorem HOk.write (ok : HOk P w H h) (mu : Mut (H x)) (he : e = x ∨ H e = some (.own x)) (k : ∀ b u, b ≠ e -> h.get? b = some u -> h'.get? b = some u) (heo : ∃ u, h'.get? e = some u)
  (new : Eg P w (upd H x o') h' x o') : HOk P w (upd H x o') h' := fun b u q => by
 have nown : ∀ c y, H c = some (.own y) -> c ≠ x := fun c y r z => by subst z; rw [r] at mu; exact mu
 have ntup : ∀ c xs, H c = some (.tup xs) -> c ≠ x := fun c xs r z => by subst z; rw [r] at mu; exact mu
 by_cases hb : b = x
 ·subst hb; rw [Bb] at q; cases q; exact new
 ·rw [Ak hb] at q
  by_cases hbe : b = e
  ·have q' : H b = some (.own x) := by
    rcases he with z | z
    ·exact absurd (hbe.trans z) hb
    ·rw [hbe]; exact z
   rw [q] at q'; cases q'
   obtain ⟨v, hv⟩ := heo
   exact ⟨v, by rw [hbe]; exact hv⟩
  ·refine (ok b u q).stay (fun c v hc r => k c v ?_ r) (fun c r => by rw [Ak (nown c b r)]; exact r) fun c xs r => by rw [Ak (ntup c xs r)]; exact r
   rcases hc with rfl | hc
   ·exact hbe
   ·rintro rfl
    rcases he with z | z
    ·exact nown c b hc z
    ·rw [hc] at z; cases z; exact hb rfl
end
structure Un (fs ex : List Addr) (H H' : Hp) (h h' : Heap) : Prop where
 keep : ∀ b o, h.get? b = some o -> H b = none -> b ∉ fs -> b ∉ ex -> h'.get? b = some o
 slot : ∀ b o, h.get? b = some o -> H b = none -> b ∈ fs -> b ∉ ex -> ∃ sl, h'.get? b = some { o with slots := sl }
 free : ∀ b o, h.get? b = some o -> H b = none -> b ∉ ex -> H' b = none
 there : ∀ b o, h.get? b = some o -> b ∉ ex -> ∃ o', h'.get? b = some o'
 tups : ∀ b xs, H b = some (.tup xs) -> H' b = some (.tup xs)
 frzs : ∀ b o u, H b = some (.frz o u) -> H' b = some (.frz o u)
 tbls : ∀ b ps, H b = some (.tbl ps) -> ∃ more, H' b = some (.tbl (ps ++ more))
section
variable {fs fs' ex ex' : List Addr} {H H1 H2 : Hp} {h h1 h2 h' : Heap} {a x e : Addr} {o : HO}
theorem Un.any (u : Un fs ex H H1 h h1) {b : Addr} {ob : Obj} (q : h.get? b = some ob) (n : H b = none) (hx : b ∉ ex) : ∃ sl, h1.get? b = some { ob with slots := sl } := by
 by_cases hb : b ∈ fs
 ·exact u.slot b ob q n hb hx
 ·exact ⟨ob.slots, u.keep b ob q n hb hx⟩
theorem Un.kept (k : ∀ b u, h.get? b = some u -> h'.get? b = some u) : Un fs ex H H h h' :=
 ⟨fun b ob q _ _ _ => k b ob q, fun b ob q _ _ _ => ⟨ob.slots, k b ob q⟩, fun _ _ _ n _ => n, fun b ob q _ => ⟨ob, k b ob q⟩, fun _ _ q => q, fun _ _ _ q => q, fun _ ps q => ⟨#[], by rw [q]; simp⟩⟩
theorem Un.refl : Un fs ex H H h h := Un.kept fun _ _ q => q
theorem Un.laid (k : ∀ b u, h.get? b = some u -> h'.get? b = some u) (hp : h.objs.size ≤ a) (hn : H a = none) : Un fs ex H (upd H a o) h h' where
 keep := fun b u q _ _ _ => k b u q
 slot := fun b u q _ _ _ => ⟨u.slots, k b u q⟩
 free := fun b u q n _ => by rw [Ak (Nat.ne_of_lt (Nat.lt_of_lt_of_le (Heap.lt_size q) hp))]; exact n
 there := fun b u q _ => ⟨u, k b u q⟩
 tups := fun b xs q => by rw [Ak (A7 q hn)]; exact q
 frzs := fun b u xs q => by rw [Ak (A7 q hn)]; exact q
 tbls := fun b ps q => ⟨#[], by rw [Ak (A7 q hn), q]; simp⟩
theorem Un.write (mu : Mut (H x)) (he : e = x ∨ H e = some (.own x)) (k : ∀ b u, b ≠ e -> h.get? b = some u -> h'.get? b = some u) (heo : ∃ u, h'.get? e = some u) : Un fs ex H (upd H x o) h h' := by
 have hx : ∀ b, H b = none -> b ≠ x := fun b n z => by subst z; rw [n] at mu; exact mu
 have hb : ∀ b, H b = none -> b ≠ e := fun b n z => by
  subst z
  rcases he with r | r
  ·exact hx b n r
  ·rw [n] at r; cases r
 have hm : ∀ b u, H b = some u -> ¬ Mut (some u) -> b ≠ x := fun b u q nm z => by subst z; rw [q] at mu; exact nm mu
 refine ⟨fun b u q n _ _ => k b u (hb b n) q, fun b u q n _ _ => ⟨u.slots, k b u (hb b n) q⟩, fun b u q n _ => by rw [Ak (hx b n)]; exact n, fun b u q _ => ?_,
  fun b xs q => by rw [Ak (hm b _ q fun z => z)]; exact q, fun b u xs q => by rw [Ak (hm b _ q fun z => z)]; exact q, fun b ps q => ⟨#[], by rw [Ak (hm b _ q fun z => z), q]; simp⟩⟩
 by_cases hbe : b = e
 ·subst hbe; exact heo
 ·exact ⟨u, k b u hbe q⟩
end
def trk (h : Heap) (H : Hp) : List Addr := (List.range h.objs.size).filter fun a => (H a).isSome
def QS (h : Heap) (H : Hp) : Heap := PySem.W.hideAll h (trk h H)
theorem Og (h : Heap) (H : Hp) : (QS h H).objs.size = h.objs.size := PySem.W.hideAll_size _ _
theorem Qx {h : Heap} {H : Hp} {b : Addr} {o : Obj} (e : h.get? b = some o) (n : H b = none) : (QS h H).get? b = some o :=
 PySem.W.hideAll_get _ e fun hm => by
  have q : (H b).isSome = true := (List.mem_filter.mp hm).2
  rw [n] at q; simp at q
theorem Sy {h : Heap} {H : Hp} {b : Addr} {o : Obj} (e : (QS h H).get? b = some o) : h.get? b = some o /\ H b = none := by
  have e' : h.get? b = some o := PySem.W.of_hideAll (trk h H) e
  refine ⟨e', ?_⟩
  cases q : H b with
  | none => rfl
  | some x =>
    have hm : b ∈ trk h H := List.mem_filter.mpr ⟨List.mem_range.mpr (Heap.lt_size e'), by simp [q]⟩
    have z : (QS h H).get? b = none := PySem.W.hideAll_none (trk h H) hm
    rw [z] at e; cases e
def UH (g h : Heap) (L : Addr) : List (Addr × Obj) := (List.range h.objs.size).filterMap fun a => if a = L ∨ (g.get? a).isSome = true then none else (h.get? a).map fun o => (a, o)
def rest (g h : Heap) (L d : Addr) : List (Addr × Obj) := (UH g h L).filter fun p => decide (p.1 ≠ d)
end L2
namespace L2
open PySem PySem.Spec PyProof.Rows
structure Mod (K : PySem.W.Frag) (mg : Str -> Option Value) (base : Heap) : Prop where
 kin : K.In base
 glob : base.Ns mainGlobals mg
 blt : ∃ mb, base.Ns builtinsNs mb /\ ∀ x : Str, x ≠ "__name__" -> mb x = bootBuiltins x
 nolimit : base.NoLimit
structure Cx where
 prog : Program
 w : World
 K : PySem.W.Frag
 mg : Str -> Option Value
 base : Heap
 A : Around
 N : List Str
 s₀ : Shared
 H₀ : Hp
 env : Env
 outer : List Env
 stack : List Env
 ex : List Addr
 fn : Str -> Bool
 calm : Bool
 pn : List (Addr × Obj)
 xe : Value -> Shared -> Prop
def frs (l : List Env) : List Addr := l.filterMap (·.frame)
abbrev Cx.fs (X : Cx) : List Addr := frs X.outer
def Vis (sc : Scope) (x : Str) : Prop := sc.names.lookup x = some .local ∨ sc.names.lookup x = some .cell ∨ sc.names.lookup x = some .free
def Loc (sc : Scope) (x : Str) : Prop := sc.names.lookup x = some .local ∨ sc.names.lookup x = some .cell
def Look (env : Env) (h : Heap) (m : Str -> Option Value) (x : Str) (u : Value) : Prop :=
 (env.kindOf x = some .local /\ m x = some u) ∨ ((env.kindOf x = some .cell ∨ env.kindOf x = some .free) /\ ∃ c, env.cells.lookup x = some c /\ h.IsCell c (some u))
structure Cx.Ok (X : Cx) : Prop where
 mod : Mod X.K X.mg X.base
 kind : X.env.scope.kind = .function
 glob : X.env.globals = mainGlobals
 blt : X.env.builtins = builtinsNs
 above : X.s₀.heap.objs.size ≤ X.env.locals
 inj : ∀ x y c, X.env.cells.lookup x = some c -> X.env.cells.lookup y = some c -> x = y
 has : ∀ x, (X.env.kindOf x = some .cell ∨ X.env.kindOf x = some .free) -> ∃ c, X.env.cells.lookup x = some c
 cab : ∀ x c, X.fn x = true -> X.env.cells.lookup x = some c -> X.s₀.heap.objs.size ≤ c
 hd : X.calm = true -> X.A.handled = none
 frames : X.A.frames = some X.stack
 stk : X.stack = X.outer ∨ (X.stack = X.env :: X.outer /\ X.env.frame = some X.env.locals)
 exf : ∀ b ∈ X.ex, b ≠ X.env.locals /\ ∀ x c, X.env.cells.lookup x = some c -> c ≠ b
 bs : ∀ b o, X.base.get? b = some o -> X.s₀.heap.get? b = some o /\ X.H₀ b = none
 bsz : X.base.objs.size ≤ X.s₀.heap.objs.size
 noex : ∀ b o, X.base.get? b = some o -> b ∉ X.ex
 exfs : ∀ b ∈ X.ex, b ∉ X.fs
 funs : X.s₀.heap.FunFrames X.base X.outer
 frf : ∀ b ∈ X.fs, X.H₀ b = none
structure Inv (X : Cx) (pins : List (Addr × Obj)) (σ : List (Option V)) (H : Hp) (s : Shared) : Prop where
 ok : X.Ok
 os : s.os = X.s₀.os
 bare : AllBare s.gens
 base : Un X.fs X.ex X.H₀ H X.s₀.heap s.heap
 loc : ∃ m, s.heap.Ns X.env.locals m /\ ∀ (i : Nat) (x : Str) (v : V), X.N[i]? = some x -> σ[i]? = some (some v) -> Vis X.env.scope x -> ∃ u, RelV v u /\ Look X.env s.heap m x u
 cell : ∀ x c, X.env.cells.lookup x = some c -> ∃ v, s.heap.IsCell c v
 free : H X.env.locals = none
 freeC : ∀ x c, X.env.cells.lookup x = some c -> H c = none
 pin : ∀ p ∈ X.pn ++ pins, s.heap.get? p.1 = some p.2 /\ H p.1 = none /\ p.1 ≠ X.env.locals /\ p.1 ∉ X.fs /\ ∀ v, p.2.data ≠ .cell v
 hok : HOk X.prog X.w H s.heap
 len : σ.length = X.N.length
section
variable {X : Cx} {pins : List (Addr × Obj)} {σ : List (Option V)} {H H' : Hp} {s : Shared} {h' : Heap}
theorem Cx.Ok.nofr (ok : X.Ok) {b : Addr} {o : Obj} (e : X.base.get? b = some o) : b ∉ X.fs := fun hb => by
 have := (ok.funs.mem hb).1
 rw [e] at this; cases this
theorem Inv.bs (I : Inv X pins σ H s) : ∀ b o, X.base.get? b = some o -> s.heap.get? b = some o /\ H b = none := fun b o e =>
 ⟨I.base.keep b o (I.ok.bs b o e).1 (I.ok.bs b o e).2 (I.ok.nofr e) (I.ok.noex b o e), I.base.free b o (I.ok.bs b o e).1 (I.ok.bs b o e).2 (I.ok.noex b o e)⟩
theorem Inv.bk (I : Inv X pins σ H s) : ∀ b o, X.base.get? b = some o -> s.heap.get? b = some o := fun b o e => (I.bs b o e).1
theorem Inv.mod (I : Inv X pins σ H s) : Mod X.K X.mg X.base := I.ok.mod
theorem Inv.kIn (I : Inv X pins σ H s) : X.K.In s.heap := I.ok.mod.kin.keeps I.bk
theorem Inv.lt (I : Inv X pins σ H s) : X.env.locals < s.heap.objs.size := let ⟨_, hn, _⟩ := I.loc; hn.lt
theorem Inv.sz (I : Inv X pins σ H s) : X.s₀.heap.objs.size ≤ s.heap.objs.size := Nat.le_trans I.ok.above (Nat.le_of_lt I.lt)
theorem Inv.nofs (I : Inv X pins σ H s) {a : Addr} (h : s.heap.objs.size ≤ a) : a ∉ X.fs := fun hb => by
 obtain ⟨_, o, ho, _⟩ := I.ok.funs.mem hb
 exact absurd (Nat.lt_of_lt_of_le (Heap.lt_size ho) (Nat.le_trans I.sz h)) (Nat.lt_irrefl _)
theorem Inv.cne (I : Inv X pins σ H s) : ∀ x c, X.env.cells.lookup x = some c -> c ≠ X.env.locals := fun x c e z => by
 obtain ⟨v, o, ho, hd⟩ := I.cell x c e
 obtain ⟨m, ⟨o', es, ep, ho', hd', _⟩, _⟩ := I.loc
 rw [z, ho'] at ho; cases ho; rw [hd'] at hd; cases hd
theorem Inv.funs (I : Inv X pins σ H s) : s.heap.FunFrames X.base X.outer := by
  have all : ∀ (l : List Env), (∀ b ∈ frs l, b ∈ X.fs) -> X.s₀.heap.FunFrames X.base l -> s.heap.FunFrames X.base l := by
    intro l
    induction l with
    | nil => intro _ _; trivial
    | cons env r ih =>
      intro hs hl
      obtain ⟨hk, ⟨L, o, hf, hn, ho, hd⟩, hr⟩ := hl
      have hL : L ∈ X.fs := hs L (by unfold frs; rw [List.filterMap_cons, hf]; exact List.mem_cons_self)
      obtain ⟨sl, e⟩ := I.base.slot L o ho (I.ok.frf L hL) hL fun z => I.ok.exfs L z hL
      exact ⟨hk, ⟨L, _, hf, hn, e, hd⟩, ih (fun b hb => hs b (by unfold frs; rw [List.filterMap_cons, hf]; exact List.mem_cons_of_mem _ hb)) hr⟩
  exact all X.outer (fun _ hb => hb) I.ok.funs
theorem Inv.stack (I : Inv X pins σ H s) : s.heap.FunFrames X.base X.stack := by
 rcases I.ok.stk with e | ⟨e, hf⟩
 ·rw [e]; exact I.funs
 ·rw [e]
  obtain ⟨m, hn, _⟩ := I.loc
  refine .cons (by rw [I.ok.kind]; decide) hf hn ?_ I.funs
  exact Heap.get?_none_of_le (Nat.le_trans I.ok.bsz I.ok.above)
theorem Inv.stkSub (I : Inv X pins σ H s) : ∀ b ∈ frs X.stack, b ∈ X.env.locals :: X.fs := fun b hb => by
 rcases I.ok.stk with e | ⟨e, hf⟩
 ·rw [e] at hb; exact List.mem_cons_of_mem _ hb
 ·rw [e] at hb
  unfold frs at hb
  rw [List.filterMap_cons, hf] at hb
  exact hb
theorem Inv.stkFree (I : Inv X pins σ H s) : ∀ b ∈ frs X.stack, H b = none := fun b hb => by
 rcases List.mem_cons.mp (I.stkSub b hb) with e | hb
 ·rw [e]; exact I.free
 ·obtain ⟨_, o, ho, _⟩ := I.ok.funs.mem hb
  exact I.base.free b o ho (I.ok.frf b hb) fun z => I.ok.exfs b z hb
theorem Inv.step {g' : Array GenState} {t' : Nat} {d' : Drawn} {ch : List Addr} (I : Inv X pins σ H s)
  (hch : ∀ b ∈ ch, (b ∈ X.ex ∨ X.s₀.heap.objs.size ≤ b) /\ b ≠ X.env.locals /\ (∀ x c, X.env.cells.lookup x = some c -> c ≠ b) /\ ∀ p ∈ X.pn ++ pins, p.1 ≠ b)
  (keep : ∀ b o, b ≠ X.env.locals -> b ∉ X.fs -> b ∉ ch -> s.heap.get? b = some o -> H b = none -> h'.get? b = some o)
  (slot : ∀ b o, b ≠ X.env.locals -> b ∈ X.fs -> b ∉ ch -> s.heap.get? b = some o -> H b = none -> ∃ sl, h'.get? b = some { o with slots := sl }) (free : ∀ b o, b ∉ ch -> s.heap.get? b = some o -> H b = none -> H' b = none)
  (there : ∀ b o, b ∉ ch -> s.heap.get? b = some o -> ∃ o', h'.get? b = some o')
  (tups : ∀ b xs, H b = some (.tup xs) -> H' b = some (.tup xs)) (frzs : ∀ b o u, H b = some (.frz o u) -> H' b = some (.frz o u)) (tbls : ∀ b ps, H b = some (.tbl ps) -> ∃ more, H' b = some (.tbl (ps ++ more)))
  (ns : ∀ m, s.heap.Ns X.env.locals m -> h'.Ns X.env.locals m) (hok : HOk X.prog X.w H' h') (hg : AllBare g') :
  Inv X pins σ H' { s with heap := h', gens := g', drawn := d', toks := t' } := by
 have neL : ∀ b o, X.s₀.heap.get? b = some o -> b ≠ X.env.locals := fun b o e => Nat.ne_of_lt (Nat.lt_of_lt_of_le (Heap.lt_size e) I.ok.above)
 have neC : ∀ b o, X.s₀.heap.get? b = some o -> b ∉ X.ex -> b ∉ ch := fun b o e hx hb => by
  rcases (hch b hb).1 with z | z
  ·exact hx z
  ·exact absurd (Nat.lt_of_lt_of_le (Heap.lt_size e) z) (Nat.lt_irrefl _)
 have cellK : ∀ x c, X.env.cells.lookup x = some c -> ∀ v, s.heap.IsCell c v -> h'.IsCell c v := fun x c e v ⟨o, ho, hd⟩ => by
  have nch : c ∉ ch := fun z => (hch c z).2.2.1 x c e rfl
  by_cases hc : c ∈ X.fs
  ·obtain ⟨sl, q⟩ := slot c o (I.cne x c e) hc nch ho (I.freeC x c e)
   exact ⟨_, q, hd⟩
  ·exact ⟨o, keep c o (I.cne x c e) hc nch ho (I.freeC x c e), hd⟩
 refine ⟨I.ok, I.os, hg, ⟨fun b o e n hb hx => ?_, fun b o e n hb hx => ?_, fun b o e n hx => ?_, fun b o e hx => ?_, fun b xs e => tups b xs (I.base.tups b xs e), fun b o xs e => frzs b o xs (I.base.frzs b o xs e), fun b ps e => ?_⟩, ?_, fun x c e => ?_, ?_, fun x c e => ?_, fun p hp => ?_, hok, I.len⟩
 ·exact keep b o (neL b o e) hb (neC b o e hx) (I.base.keep b o e n hb hx) (I.base.free b o e n hx)
 ·obtain ⟨sl, e1⟩ := I.base.slot b o e n hb hx
  obtain ⟨sl', e2⟩ := slot b _ (neL b o e) hb (neC b o e hx) e1 (I.base.free b o e n hx)
  exact ⟨sl', e2⟩
 ·obtain ⟨o', e1⟩ := I.base.there b o e hx
  exact free b o' (neC b o e hx) e1 (I.base.free b o e n hx)
 ·obtain ⟨o', e1⟩ := I.base.there b o e hx
  exact there b o' (neC b o e hx) e1
 ·obtain ⟨m1, e1⟩ := I.base.tbls b ps e
  obtain ⟨m2, e2⟩ := tbls b _ e1
  exact ⟨m1 ++ m2, by rw [e2, Array.append_assoc]⟩
 ·obtain ⟨m, hn, hl⟩ := I.loc
  refine ⟨m, ns m hn, fun i x v e1 e2 e3 => ?_⟩
  obtain ⟨u, r, l⟩ := hl i x v e1 e2 e3
  refine ⟨u, r, ?_⟩
  rcases l with l | ⟨k, c, e, z⟩
  ·exact .inl l
  ·exact .inr ⟨k, c, e, cellK x c e _ z⟩
 ·obtain ⟨v, z⟩ := I.cell x c e
  exact ⟨v, cellK x c e v z⟩
 ·obtain ⟨m, ⟨o, _, _, ho, _⟩, _⟩ := I.loc
  exact free _ o (fun z => (hch _ z).2.1 rfl) ho I.free
 ·obtain ⟨v, o, ho, hd⟩ := I.cell x c e
  exact free c o (fun z => (hch c z).2.2.1 x c e rfl) ho (I.freeC x c e)
 ·obtain ⟨e, n, ne, nf, d⟩ := I.pin p hp
  have nch : p.1 ∉ ch := fun z => (hch p.1 z).2.2.2 p hp rfl
  exact ⟨keep p.1 p.2 ne nf nch e n, free p.1 p.2 nch e n, ne, nf, d⟩
theorem Inv.un {t' : Nat} (I : Inv X pins σ H s) (u : Un X.fs [] H H' s.heap h') (hok : HOk X.prog X.w H' h') : Inv X pins σ H' { s with heap := h', toks := t' } := by
 obtain ⟨m, ⟨o, es, ep, ho, r⟩, _⟩ := id I.loc
 obtain ⟨sl, hL⟩ := u.any ho I.free (by simp)
 exact I.step (g' := s.gens) (d' := s.drawn) (ch := []) (fun _ z => nomatch z) (fun b o _ hb _ e n => u.keep b o e n hb (by simp)) (fun b o _ hb _ e n => u.slot b o e n hb (by simp)) (fun b o _ e n => u.free b o e n (by simp)) (fun b o _ e => u.there b o e (by simp)) u.tups u.frzs u.tbls (fun m' hm => by
  obtain ⟨o', es', ep', ho', r'⟩ := hm
  rw [ho] at ho'; cases ho'
  exact ⟨_, es', ep', hL, r'⟩) hok I.bare
theorem Inv.call {g' : Array GenState} {t' : Nat} {d' : Drawn} {ch : List Addr} (I : Inv X pins σ H s) (u : Un (frs X.stack) ch H H' s.heap h') (hok : HOk X.prog X.w H' h') (hg : AllBare g')
  (hch : ∀ b ∈ ch, (b ∈ X.ex ∨ X.s₀.heap.objs.size ≤ b) /\ b ≠ X.env.locals /\ (∀ x c, X.env.cells.lookup x = some c -> c ≠ b) /\ ∀ p ∈ X.pn ++ pins, p.1 ≠ b) :
  Inv X pins σ H' { s with heap := h', gens := g', drawn := d', toks := t' } := by
 obtain ⟨m, ⟨o, es, ep, ho, r⟩, _⟩ := id I.loc
 obtain ⟨sl, hL⟩ := u.any ho I.free fun z => (hch _ z).2.1 rfl
 exact I.step (ch := ch) hch (fun b o hL hb hc e n => u.keep b o e n (fun z => (List.mem_cons.mp (I.stkSub b z)).elim hL hb) hc) (fun b o _ _ hc e n => u.any e n hc) (fun b o hc e n => u.free b o e n hc) (fun b o hc e => u.there b o e hc) u.tups u.frzs u.tbls (fun m' hm => by
  obtain ⟨o', es', ep', ho', r'⟩ := hm
  rw [ho] at ho'; cases ho'
  exact ⟨_, es', ep', hL, r'⟩) hok hg
theorem Inv.turned {t' : Nat} {it : Addr} (I : Inv X pins σ H s) (k : ∀ b o, b ≠ it -> s.heap.get? b = some o -> h'.get? b = some o) (hn : H it = none) (hL : it ≠ X.env.locals)
  (h1 : it ∈ X.ex ∨ X.s₀.heap.objs.size ≤ it) (h2 : ∀ x c, X.env.cells.lookup x = some c -> c ≠ it) (h3 : ∀ p ∈ X.pn ++ pins, p.1 ≠ it) : Inv X pins σ H { s with heap := h', toks := t' } := by
 have nit : ∀ b u, H b = some u -> b ≠ it := fun b u e z => by rw [z, hn] at e; cases e
 refine I.step (g' := s.gens) (d' := s.drawn) (ch := [it]) (fun b hb => ?_) (fun b o _ _ hc e _ => k b o (fun z => hc (by simp [z])) e) (fun b o _ _ hc e _ => ⟨o.slots, k b o (fun z => hc (by simp [z])) e⟩) (fun _ _ _ _ n => n)
  (fun b o hc e => ⟨o, k b o (fun z => hc (by simp [z])) e⟩) (fun _ _ e => e) (fun _ _ _ e => e) (fun b ps e => ⟨#[], by rw [e]; simp⟩) (fun m hm => ?_) (fun b u e => ?_) I.bare
 ·have e : b = it := by simpa using hb
  subst e
  exact ⟨h1, hL, h2, h3⟩
 ·obtain ⟨o, es, ep, ho, r⟩ := hm
  exact ⟨o, es, ep, k _ o (Ne.symm hL) ho, r⟩
 ·refine (I.hok b u e).stay (fun c v hc q => k c v ?_ q) (fun _ q => q) fun _ _ q => q
  rcases hc with z | z
  ·rw [z]; exact nit b u e
  ·exact nit c _ z
theorem Inv.tok (I : Inv X pins σ H s) (t : Nat) : Inv X pins σ H { s with toks := t } := I.un (h' := s.heap) (t' := t) Un.refl I.hok
theorem Inv.kept {t' : Nat} (I : Inv X pins σ H s) (k : ∀ b u, s.heap.get? b = some u -> h'.get? b = some u) : Inv X pins σ H { s with heap := h', toks := t' } := I.un (Un.kept k) (I.hok.kept k)
theorem Inv.laid {a : Addr} {o : HO} {t' : Nat} (I : Inv X pins σ H s) (k : ∀ b u, s.heap.get? b = some u -> h'.get? b = some u) (hp : s.heap.objs.size ≤ a) (new : Eg X.prog X.w (upd H a o) h' a o) :
  Inv X pins σ (upd H a o) { s with heap := h', toks := t' } := I.un (Un.laid k hp (I.hok.fresh hp)) (I.hok.laid k hp new)
theorem Inv.write {x e : Addr} {o : HO} {t' : Nat} (I : Inv X pins σ H s) (mu : Mut (H x)) (he : e = x ∨ H e = some (.own x)) (k : ∀ b u, b ≠ e -> s.heap.get? b = some u -> h'.get? b = some u) (heo : ∃ u, h'.get? e = some u)
  (new : Eg X.prog X.w (upd H x o) h' x o) : Inv X pins σ (upd H x o) { s with heap := h', toks := t' } := I.un (Un.write mu he k heo) (I.hok.write mu he k heo new)
theorem Inv.pins_of {pins' : List (Addr × Obj)} (I : Inv X pins σ H s) (h : ∀ p ∈ pins', s.heap.get? p.1 = some p.2 /\ H p.1 = none /\ p.1 ≠ X.env.locals /\ p.1 ∉ X.fs /\ ∀ v, p.2.data ≠ .cell v) : Inv X pins' σ H s :=
 ⟨I.ok, I.os, I.bare, I.base, I.loc, I.cell, I.free, I.freeC, fun p hp => (List.mem_append.mp hp).elim (fun z => I.pin p (List.mem_append_left _ z)) (h p), I.hok, I.len⟩
theorem MY {N : List Str} (hN : N.Nodup) {i j : Nat} {x : Str} (a : N[i]? = some x) (b : N[j]? = some x) : i = j := by
 obtain ⟨h1, e1⟩ := List.getElem?_eq_some_iff.mp a
 obtain ⟨h2, e2⟩ := List.getElem?_eq_some_iff.mp b
 exact (List.getElem_inj hN).mp (e1.trans e2.symm)
theorem Kx {M : Model} {A : Around} {E : Value -> Shared -> Prop} {i : Nat} {x : Str} {v : V} {u : Value} {Q : Unit -> Shared -> Prop} (I : Inv X pins σ H s) (hN : X.N.Nodup) (hi : X.N[i]? = some x) (hx : Loc X.env.scope x) (r : RelV v u)
  (h : ∀ s', Inv X pins (σ.set i (some v)) H s' -> (∃ a, Heap.SameBut a s.heap s'.heap /\ (a = X.env.locals ∨ X.env.cells.lookup x = some a)) -> Q () s') (hf : X.fn x = true ∨ X.env.scope.names.lookup x = some .local := by first | exact .inl rfl | exact .inr rfl | assumption) : wpAny M A (storeName X.env x u) Q E s := by
 obtain ⟨m, hn, hl⟩ := id I.loc
 have hcls : (X.env.scope.kind == .class || (X.env.scope.kind == .module && X.env.locals != X.env.globals)) = false := by rw [I.ok.kind]; rfl
 have hiσ : i < σ.length := by rw [I.len]; exact (List.getElem?_eq_some_iff.mp hi).1
 have cne := I.cne
 have tracked : ∀ {a : Addr} {h' : Heap}, (∃ o, s.heap.get? a = some o /\ H a = none) -> Heap.SameBut a s.heap h' -> HOk X.prog X.w H h' := fun {a h'} ha hs b ob e => by
  obtain ⟨_, _, hfree⟩ := ha
  refine (I.hok b ob e).stay (fun c w' hc q => (hs.2 c ?_).trans q) (fun _ q => q) fun _ _ q => q
  rintro rfl
  rcases hc with rfl | hc
  ·rw [hfree] at e; cases e
  ·rw [hfree] at hc; cases hc
 rcases hx with hk | hk
 ·refine wpAny_storeName_local hk hn (fun h' hn' hs => ?_) hcls
  obtain ⟨oL, _, _, hoL, _⟩ := id hn
  refine h _ ⟨I.ok, I.os, I.bare, ⟨fun b o e n hb hx => ?_, fun b o e n hb hx => ?_, I.base.free, fun b o e hx => ?_, I.base.tups, I.base.frzs, I.base.tbls⟩, ⟨_, hn', fun j y v' e1 e2 e3 => ?_⟩, fun y c e => ?_, I.free, I.freeC, fun p hp => ?_, tracked ⟨oL, hoL, I.free⟩ hs, by simpa using I.len⟩ ⟨_, hs, .inl rfl⟩
  ·exact (hs.2 b (Nat.ne_of_lt (Nat.lt_of_lt_of_le (Heap.lt_size e) I.ok.above))).trans (I.base.keep b o e n hb hx)
  ·obtain ⟨sl, e1⟩ := I.base.slot b o e n hb hx
   exact ⟨sl, (hs.2 b (Nat.ne_of_lt (Nat.lt_of_lt_of_le (Heap.lt_size e) I.ok.above))).trans e1⟩
  ·obtain ⟨o', e1⟩ := I.base.there b o e hx
   exact ⟨o', (hs.2 b (Nat.ne_of_lt (Nat.lt_of_lt_of_le (Heap.lt_size e) I.ok.above))).trans e1⟩
  ·by_cases hj : j = i
   ·subst hj
    rw [hi] at e1; cases e1
    rw [List.getElem?_set_self hiσ] at e2
    cases e2
    exact ⟨u, r, .inl ⟨hk, by simp⟩⟩
   ·rw [List.getElem?_set_ne (Ne.symm hj)] at e2
    obtain ⟨u', r', q⟩ := hl j y v' e1 e2 e3
    refine ⟨u', r', ?_⟩
    rcases q with ⟨k, e⟩ | ⟨k, c, e, z⟩
    ·refine .inl ⟨k, ?_⟩
     have : y ≠ x := fun e => hj (MY hN e1 (e ▸ hi))
     simp [this, e]
    ·exact .inr ⟨k, c, e, z.sameBut hs (cne y c e)⟩
  ·obtain ⟨w', z⟩ := I.cell y c e
   exact ⟨w', z.sameBut hs (cne y c e)⟩
  ·obtain ⟨e, n, ne, nf, d⟩ := I.pin p hp
   exact ⟨(hs.2 p.1 ne).trans e, n, ne, nf, d⟩
 ·have hfn : X.fn x = true := by
   rcases hf with z | z
   ·exact z
   ·rw [z] at hk; cases hk
  obtain ⟨c, hc⟩ := I.ok.has x (.inl hk)
  obtain ⟨w', z⟩ := I.cell x c hc
  refine wpAny_storeName_cell I.ok.kind hk hc z (fun h' hc' hs => ?_)
  obtain ⟨oc, hoc, hocd⟩ := id z
  refine h { s with heap := h' } ⟨I.ok, I.os, I.bare, ⟨fun b o e n hb hx => ?_, fun b o e n hb hx => ?_, I.base.free, fun b o e hx => ?_, I.base.tups, I.base.frzs, I.base.tbls⟩, ⟨m, hn.sameBut hs (Ne.symm (cne x c hc)), fun j y v' e1 e2 e3 => ?_⟩, fun y c' e => ?_, I.free, I.freeC, fun p hp => ?_, tracked ⟨oc, hoc, I.freeC x c hc⟩ hs, by simpa using I.len⟩ ⟨c, hs, .inr hc⟩
  ·exact (hs.2 b (Nat.ne_of_lt (Nat.lt_of_lt_of_le (Heap.lt_size e) (I.ok.cab x c hfn hc)))).trans (I.base.keep b o e n hb hx)
  ·obtain ⟨sl, e1⟩ := I.base.slot b o e n hb hx
   exact ⟨sl, (hs.2 b (Nat.ne_of_lt (Nat.lt_of_lt_of_le (Heap.lt_size e) (I.ok.cab x c hfn hc)))).trans e1⟩
  ·obtain ⟨o', e1⟩ := I.base.there b o e hx
   exact ⟨o', (hs.2 b (Nat.ne_of_lt (Nat.lt_of_lt_of_le (Heap.lt_size e) (I.ok.cab x c hfn hc)))).trans e1⟩
  ·by_cases hj : j = i
   ·subst hj
    rw [hi] at e1; cases e1
    rw [List.getElem?_set_self hiσ] at e2
    cases e2
    exact ⟨u, r, .inr ⟨.inl hk, c, hc, hc'⟩⟩
   ·rw [List.getElem?_set_ne (Ne.symm hj)] at e2
    obtain ⟨u', r', q⟩ := hl j y v' e1 e2 e3
    refine ⟨u', r', ?_⟩
    rcases q with q | ⟨k, c', e, z'⟩
    ·exact .inl q
    ·refine .inr ⟨k, c', e, z'.sameBut hs ?_⟩
     rintro rfl
     exact hj (MY hN e1 (I.ok.inj _ _ _ e hc ▸ hi))
  ·by_cases hcc : c' = c
   ·subst hcc; exact ⟨_, hc'⟩
   ·obtain ⟨w2, z2⟩ := I.cell y c' e
    exact ⟨w2, z2.sameBut hs hcc⟩
  ·obtain ⟨e, n, ne, nf, d⟩ := I.pin p hp
   refine ⟨(hs.2 p.1 ?_).trans e, n, ne, nf, d⟩
   intro q
   rw [q, hoc] at e
   have q' : oc = p.2 := Option.some.inj e
   exact d w' (by rw [← q']; exact hocd)
theorem Hv {M : Model} {A : Around} {E : Value -> Shared -> Prop} {i : Nat} {x : Str} {v : V} {u : Value} {Q : Unit -> Shared -> Prop} (I : Inv X pins σ H s) (hN : X.N.Nodup) (hi : X.N[i]? = some x) (hx : Loc X.env.scope x) (r : RelV v u)
  (h : ∀ s', Inv X pins (σ.set i (some v)) H s' -> Q () s') (hf : X.fn x = true ∨ X.env.scope.names.lookup x = some .local := by first | exact .inl rfl | exact .inr rfl | assumption) : wpAny M A (storeName X.env x u) Q E s :=
 Kx I hN hi hx r (fun s' I' _ => h s' I') hf
theorem Inv.call' {s' : Shared} {ch : List Addr} (I : Inv X pins σ H s) (ho : s'.os = s.os) (u : Un (frs X.stack) ch H H' s.heap s'.heap) (hok : HOk X.prog X.w H' s'.heap) (hg : AllBare s'.gens)
  (hch : ∀ b ∈ ch, (b ∈ X.ex ∨ X.s₀.heap.objs.size ≤ b) /\ b ≠ X.env.locals /\ (∀ x c, X.env.cells.lookup x = some c -> c ≠ b) /\ ∀ p ∈ X.pn ++ pins, p.1 ≠ b) : Inv X pins σ H' s' := by
 obtain ⟨h', g', d', t', o'⟩ := s'
 have e : o' = s.os := ho
 subst e
 exact I.call (g' := g') (t' := t') (d' := d') u hok hg hch
end
abbrev XK := Value -> Option Addr -> Hp -> Prop
abbrev St := List (Option V)
abbrev VK := V -> Hp -> Prop
abbrev TE := St -> Hp -> VK -> Prop
abbrev TT := St -> Hp -> (Bool -> Hp -> Prop) -> Prop
abbrev TA := St -> Hp -> (List V -> Hp -> Prop) -> Prop
structure Ends where
 nx : St -> Hp -> Prop
 rt : VK
 bk : St -> Hp -> Prop := fun _ _ => False
 ct : St -> Hp -> Prop := fun _ _ => False
abbrev TS := Ends -> St -> Hp -> Prop
def EP (X : Cx) (pins : List (Addr × Obj)) (σ : St) (Q : VK) (u : Value) (s' : Shared) : Prop := ∃ v H', Inv X pins σ H' s' /\ RelV v u /\ Q v H'
def TP (X : Cx) (pins : List (Addr × Obj)) (σ : St) (Q : Bool -> Hp -> Prop) (b : Bool) (s' : Shared) : Prop := ∃ H', Inv X pins σ H' s' /\ Q b H'
def AP (X : Cx) (pins : List (Addr × Obj)) (σ : St) (Q : List V -> Hp -> Prop) (us : List Value) (s' : Shared) : Prop := ∃ vs H', Inv X pins σ H' s' /\ Vals vs us /\ Q vs H'
def SP (X : Cx) (pins : List (Addr × Obj)) (D : Ends) (f : Flow) (s' : Shared) : Prop :=
 match f with
 | .next => ∃ σ' H', Inv X pins σ' H' s' /\ D.nx σ' H'
 | .brk => ∃ σ' H', Inv X pins σ' H' s' /\ D.bk σ' H'
 | .cont => ∃ σ' H', Inv X pins σ' H' s' /\ D.ct σ' H'
 | .ret u => ∃ v σ' H', Inv X pins σ' H' s' /\ RelV v u /\ D.rt v H'
def PE (X : Cx) (e : Expr) (t : TE) : Prop :=
 ∀ (pins : List (Addr × Obj)) (s : Shared) (σ : St) (H : Hp) (Q : VK), Inv X pins σ H s -> t σ H Q -> wpAny (model X.prog X.w) X.A (eval e X.env) (EP X pins σ Q) X.xe s
def PT (X : Cx) (e : Expr) (t : TT) : Prop :=
 ∀ (pins : List (Addr × Obj)) (s : Shared) (σ : St) (H : Hp) (Q : Bool -> Hp -> Prop), Inv X pins σ H s -> t σ H Q -> wpAny (model X.prog X.w) X.A (isTrue e X.env (eval e X.env)) (TP X pins σ Q) X.xe s
def PW (X : Cx) (e : Expr) (t : TT) : Prop :=
 ∀ (whole : Sem Value) (pins : List (Addr × Obj)) (s : Shared) (σ : St) (H : Hp) (Q : Bool -> Hp -> Prop), Inv X pins σ H s -> t σ H Q -> wpAny (model X.prog X.w) X.A (isTrue e X.env whole) (TP X pins σ Q) X.xe s
theorem PW.pt {X : Cx} {e : Expr} {t : TT} (h : PW X e t) : PT X e t := h _
def PA (X : Cx) (es : List Expr) (t : TA) : Prop :=
 ∀ (pos : Pos) (pins : List (Addr × Obj)) (s : Shared) (σ : St) (H : Hp) (Q : List V -> Hp -> Prop), Inv X pins σ H s -> t σ H Q -> wpAny (model X.prog X.w) X.A (spliced (backTo pos (starEach es X.env))) (AP X pins σ Q) X.xe s
def PS (X : Cx) (st : Stmt) (t : TS) : Prop :=
 ∀ (pins : List (Addr × Obj)) (s : Shared) (σ : St) (H : Hp) (D : Ends), Inv X pins σ H s -> t D σ H -> wpAny (model X.prog X.w) X.A (exec st X.env) (SP X pins D) X.xe s
def PSs (X : Cx) (st : List Stmt) (t : TS) : Prop :=
 ∀ (pins : List (Addr × Obj)) (s : Shared) (σ : St) (H : Hp) (D : Ends), Inv X pins σ H s -> t D σ H -> wpAny (model X.prog X.w) X.A (execs st X.env) (SP X pins D) X.xe s
theorem thn {α : Type} {t : Sem α} {Q Q' : α -> Shared -> Prop} {M : Model} {A : Around} {E : Value -> Shared -> Prop} {s : Shared} (h : wpAny M A t Q E s) (hQ : ∀ a s, Q a s -> Q' a s) : wpAny M A t Q' E s := wpAny_mono h hQ fun _ _ x => x
end L2
namespace L2
open PySem PySem.Spec PyProof.Rows
section
variable {X : Cx}
def ZY (i : Nat) : TE := fun σ H Q => ∃ v, σ[i]? = some (some v) /\ Q v H
def tC (v : V) : TE := fun _ H Q => Q v H
theorem U4 {i : Nat} {x : Str} {pos : Pos} (hN : X.N[i]? = some x) (hv : Vis X.env.scope x) (hd : (x == ("__debug__" : Str)) = false := by decide) (hcd : (x == ("__classdict__" : Str)) = false := by decide) : PE X (.Name x pos) (ZY i) := by
 intro pins s σ H Q I h
 obtain ⟨v, e, h⟩ := h
 obtain ⟨m, hn, hl⟩ := I.loc
 obtain ⟨u, r, l⟩ := hl i x v hN e hv
 have fin : EP X pins σ Q u s := ⟨v, H, I, r, h⟩
 rcases l with ⟨hk, hm⟩ | ⟨hk, c, hc, hcell⟩
 ·exact wpAny_Name (wpAny_loadName_local I.ok.kind hk hn hm fin) hd
 ·rcases hk with hk | hk
  ·exact wpAny_Name (wpAny_loadName_cell I.ok.kind hk hc hcell fin) hd
  ·exact wpAny_Name (wpAny_loadName_free I.ok.kind hk hc hcell fin hcd) hd
theorem VD {i j pos} : PE X (.Constant (.int i) j pos) (tC (.int i)) := fun _ _ _ H _ I h => wpAny_Constant_int ⟨.int i, H, I.tok _, ⟨_, rfl⟩, h⟩
theorem XT {b j pos} : PE X (.Constant (.bool b) j pos) (tC (.bl b)) := fun _ _ _ H _ I h => Constant_bool ⟨.bl b, H, I, rfl, h⟩
theorem VE {j pos} : PE X (.Constant .none j pos) (tC .non) := fun _ _ _ H _ I h => Constant_none ⟨.non, H, I, rfl, h⟩
theorem Ug {x j pos} : PE X (.Constant (.str x) j pos) (tC (.str x)) := fun _ _ _ H _ I h => Calls.Constant_str ⟨.str x, H, I.tok _, ⟨_, rfl⟩, h⟩
def Gl (X : Cx) (x : Str) : Prop := X.env.kindOf x = some .globalImplicit
theorem Nz {E : Value -> Shared -> Prop} {pins : List (Addr × Obj)} {s : Shared} {σ : St} {H : Hp} {x : Str} {u : Value} {pos : Pos} {Q : Value -> Shared -> Prop} (I : Inv X pins σ H s) (hg : Gl X x) (hm : X.mg x = some u) (h : Q u s)
  (hd : (x == ("__debug__" : Str)) = false := by decide) : wpAny (model X.prog X.w) X.A (eval (.Name x pos) X.env) Q E s :=
 Calls.Name_function_global I.ok.kind hg (Calls.loadGlobal_global (by rw [I.ok.glob]; exact I.mod.glob.keeps I.bk) hm h) hd
theorem Hr {E : Value -> Shared -> Prop} {pins : List (Addr × Obj)} {s : Shared} {σ : St} {H : Hp} {x : Str} {u : Value} {pos : Pos} {Q : Value -> Shared -> Prop} (I : Inv X pins σ H s) (hg : Gl X x) (hm : X.mg x = none) (hv : bootBuiltins x = some u) (h : Q u s)
  (hn : x ≠ "__name__" := by decide) (hd : (x == ("__debug__" : Str)) = false := by decide) : wpAny (model X.prog X.w) X.A (eval (.Name x pos) X.env) Q E s := by
 obtain ⟨mb, h1, h2⟩ := I.mod.blt
 exact Calls.Name_function_global I.ok.kind hg (Calls.loadGlobal_builtin (by rw [I.ok.glob]; exact I.mod.glob.keeps I.bk) hm (by rw [I.ok.blt]; exact h1.keeps I.bk) ((h2 x hn).trans hv) h) hd
theorem TR {x : Str} {v : V} {u : Value} {pos : Pos} (hg : Gl X x) (hm : X.mg x = some u) (r : RelV v u) (hd : (x == ("__debug__" : Str)) = false := by decide) : PE X (.Name x pos) (tC v) :=
 fun _ _ _ H _ I h => Nz I hg hm ⟨v, H, I, r, h⟩ hd
theorem T5 {x : Str} {v : V} {u : Value} {pos : Pos} (hg : Gl X x) (hm : X.mg x = none) (hv : bootBuiltins x = some u) (r : RelV v u) (hn : x ≠ "__name__" := by decide) (hd : (x == ("__debug__" : Str)) = false := by decide) : PE X (.Name x pos) (tC v) :=
 fun _ _ _ H _ I h => Hr I hg hm hv ⟨v, H, I, r, h⟩ hn hd
variable {a b : Expr} {ta tb : TE} {pos : Pos}
def tB (t : TE) : TT := fun σ H Q => t σ H fun x H1 => ∃ c, x = .bl c /\ Q c H1
theorem U0 {e : Expr} {t : TE} (h : PE X e t) (he : ∀ whole, isTrue e X.env whole = (do let v ← whole; standAt e.pos; holding [v] (truthy v)) := by intro _; rfl) : PT X e (tB t) := by
 intro pins s σ H Q I hw
 refine isTrue_plain (thn (h pins s σ H _ I hw) fun v s1 ⟨x, H1, I1, r1, q1⟩ => ?_) (he _)
 obtain ⟨d, rfl, q⟩ := q1
 cases r1
 exact wpAny_truthy_bool ⟨H1, I1, q⟩
variable {tA tB' : TT} {rest : List Expr}
def Zc (t u : TT) : TT := fun σ H Q => t σ H fun c H1 => if c = true then u σ H1 Q else Q false H1
def tOr (t u : TT) : TT := fun σ H Q => t σ H fun c H1 => if c = true then Q true H1 else u σ H1 Q
def Zg (t : TT) : TT := fun σ H Q => t σ H fun c H1 => Q (!c) H1
theorem Sx (ha : PT X a tA) : PW X (.BoolOp .And [a] pos) tA := by
 intro wh pins s σ H Q I h
 refine isTrue_and (thn (ha pins s σ H Q I h) fun c s1 e => ?_)
 cases c with
 | true => exact isTrue_and_nil e
 | false => exact e
theorem Ut (ha : PT X a tA) : PW X (.BoolOp .Or [a] pos) tA := by
 intro wh pins s σ H Q I h
 refine isTrue_or (thn (ha pins s σ H Q I h) fun c s1 e => ?_)
 cases c with
 | false => exact isTrue_or_nil e
 | true => exact e
theorem Ux (ha : PT X a tA) (hb : PW X (.BoolOp .And (b :: rest) pos) tB') : PW X (.BoolOp .And (a :: b :: rest) pos) (Zc tA tB') := by
 intro wh pins s σ H Q I h
 refine isTrue_and (thn (ha pins s σ H _ I h) fun c s1 ⟨H1, I1, q1⟩ => ?_)
 cases c with
 | true => exact hb wh pins s1 σ H1 Q I1 q1
 | false => exact ⟨H1, I1, q1⟩
theorem Xg (ha : PT X a tA) (hb : PW X (.BoolOp .Or (b :: rest) pos) tB') : PW X (.BoolOp .Or (a :: b :: rest) pos) (tOr tA tB') := by
 intro wh pins s σ H Q I h
 refine isTrue_or (thn (ha pins s σ H _ I h) fun c s1 ⟨H1, I1, q1⟩ => ?_)
 cases c with
 | true => exact ⟨H1, I1, q1⟩
 | false => exact hb wh pins s1 σ H1 Q I1 q1
theorem UW (ha : PT X a tA) : PT X (.UnaryOp .Not a pos) (Zg tA) := by
 intro pins s σ H Q I h
 exact isTrue_not (ha pins s σ H (fun c H1 => Q (!c) H1) I h)
def YA (ta tb : TE) : TE := fun σ H Q => ta σ H fun x H1 => ∃ c, x = .bl c /\ if c = true then tb σ H1 Q else Q (.bl false) H1
def XS (ta : TE) : TE := fun σ H Q => ta σ H fun x H1 => ∃ c, x = .bl c /\ Q (.bl (!c)) H1
theorem Ue {op} {t : TE} (h : PE X a t) : PE X (.BoolOp op [a] pos) t := fun pins s σ H Q I hw => BoolOp_one (h pins s σ H Q I hw)
theorem V9 (ha : PE X a ta) (hb : PE X (.BoolOp .And (b :: rest) pos) tb) : PE X (.BoolOp .And (a :: b :: rest) pos) (YA ta tb) := by
 intro pins s σ H Q I h
 refine BoolOp_and (thn (ha pins s σ H _ I h) fun v s1 ⟨x, H1, I1, r1, q1⟩ => ?_)
 obtain ⟨c, rfl, q1⟩ := q1
 cases r1
 refine wpAny_truthy_bool ?_
 cases c with
 | true => exact hb pins s1 σ H1 Q I1 q1
 | false => exact ⟨.bl false, H1, I1, rfl, q1⟩
theorem VJ (ha : PE X a ta) : PE X (.UnaryOp .Not a pos) (XS ta) := by
 intro pins s σ H Q I h
 refine UnaryOp_ (thn (ha pins s σ H _ I h) fun v s1 ⟨x, H1, I1, r1, q1⟩ => ?_)
 obtain ⟨c, rfl, q1⟩ := q1
 cases r1
 exact not_of (wpAny_truthy_bool ⟨.bl (!c), H1, I1, rfl, q1⟩)
def tIf (t : TT) (ta tb : TE) : TE := fun σ H Q => t σ H fun c H1 => if c = true then ta σ H1 Q else tb σ H1 Q
theorem Qk {c : Expr} (hc : PT X c tA) (ha : PE X a ta) (hb : PE X b tb) : PE X (.IfExp c a b pos) (tIf tA ta tb) := by
 intro pins s σ H Q I h
 refine wpAny_IfExp (thn (hc pins s σ H _ I h) fun d s1 ⟨H1, I1, q1⟩ => ?_)
 cases d with
 | true => exact ha pins s1 σ H1 Q I1 q1
 | false => exact hb pins s1 σ H1 Q I1 q1
end
end L2
namespace L2
open PySem PySem.Spec PyProof.Rows
def SqL (K : PySem.W.Frag) (H : Hp) (a : Addr) (xs : List V) : Prop :=
 Rd H a (.lst xs) ∨
  ∃ (o : Obj) (its : Array Value) (n : Nat), K.lookup a = some o /\ o.cls = .type "list" /\ o.dict = none /\ o.data = .seq its n /\ its.size ≤ sizeLine /\ Vals xs its.toList
def SqT (K : PySem.W.Frag) (H : Hp) (a : Addr) (xs : List V) : Prop :=
 Rd H a (.tup xs) ∨
  ∃ (o : Obj) (its : Array Value) (n : Nat), K.lookup a = some o /\ o.cls = .type "tuple" /\ o.data = .seq its n /\ its.size ≤ sizeLine /\ Vals xs its.toList
def ZZ : Value -> Option V
 | .none => some .non
 | .bool b => some (.bl b)
 | .int i _ => some (.int i)
 | .str x _ => some (.str x)
 | .bytes b _ => some (.byt b)
 | .float b _ => some (.flt b)
 | .ref a => some (.ref a)
 | .type n => some (.ty n)
 | _ => none
theorem RelV.abs {x : V} {u : Value} (r : RelV x u) : ZZ u = some x := by
 cases x with
 | non => cases r; rfl
 | bl _ => cases r; rfl
 | int _ => obtain ⟨t, rfl⟩ := r; rfl
 | str _ => obtain ⟨t, rfl⟩ := r; rfl
 | byt _ => obtain ⟨t, rfl⟩ := r; rfl
 | flt _ => obtain ⟨t, rfl⟩ := r; rfl
 | ref _ => cases r; rfl
 | ty _ => cases r; rfl
theorem RelV.inj {x y : V} {u : Value} (r : RelV x u) (q : RelV y u) : x = y := Option.some.inj (r.abs.symm.trans q.abs)
theorem Vals.inj : ∀ {xs ys : List V} {us : List Value}, Vals xs us -> Vals ys us -> xs = ys
 | _, _, _, .nil, .nil => rfl
 | _, _, _, .cons r t, .cons r' t' => by rw [r.inj r', Vals.inj t t']
section
variable {X : Cx} {pins : List (Addr × Obj)} {σ : St} {H : Hp} {s : Shared} {a : Addr} {xs ys : List V}
theorem SqL.of {K : PySem.W.Frag} (h : H a = some (.lst xs)) : SqL K H a xs := .inl (.inl h)
theorem SqT.of {K : PySem.W.Frag} (h : H a = some (.tup xs)) : SqT K H a xs := .inl (.inl h)
theorem Inv.list (I : Inv X pins σ H s) (h : SqL X.K H a xs) : ∃ its : List Value, Vals xs its /\ PlainL s.heap a its.toArray /\ xs.length ≤ sizeLine := by
 rcases h with h | ⟨o, its, n, hk, hc, hd, hs, hz, r⟩
 ·obtain ⟨z, its, n, r, e⟩ := h.ok I.hok
  exact ⟨its, r, ⟨_, n, e, rfl, rfl, rfl⟩, z⟩
 ·refine ⟨its.toList, r, ⟨o, n, I.kIn a o hk, hc, hd, by simpa using hs⟩, ?_⟩
  have e := r.length
  simp only [Array.length_toList] at e
  omega
theorem Inv.tuple (I : Inv X pins σ H s) (h : SqT X.K H a xs) : ∃ its : List Value, Vals xs its /\ IsTup s.heap a its.toArray /\ xs.length ≤ sizeLine := by
 rcases h with h | ⟨o, its, n, hk, hc, hs, hz, r⟩
 ·obtain ⟨z, its, r, p⟩ := h.ok I.hok
  exact ⟨its, r, p, z⟩
 ·refine ⟨its.toList, r, ⟨o, I.kIn a o hk, hc, n, by simpa using hs⟩, ?_⟩
  have e := r.length
  simp only [Array.length_toList] at e
  omega
theorem Inv.list_inj (I : Inv X pins σ H s) (h : SqL X.K H a xs) (h' : SqL X.K H a ys) : xs = ys := by
 obtain ⟨its, r, ⟨o, n, e, _, _, d⟩, _⟩ := I.list h
 obtain ⟨its', r', ⟨o', n', e', _, _, d'⟩, _⟩ := I.list h'
 rw [e] at e'; cases e'
 rw [d] at d'
 injection d' with d1 _
 have : its = its' := by simpa using congrArg Array.toList d1
 subst this
 exact r.inj r'
theorem Inv.tuple_inj (I : Inv X pins σ H s) (h : SqT X.K H a xs) (h' : SqT X.K H a ys) : xs = ys := by
 obtain ⟨its, r, ⟨o, e, _, n, d⟩, _⟩ := I.tuple h
 obtain ⟨its', r', ⟨o', e', _, n', d'⟩, _⟩ := I.tuple h'
 rw [e] at e'; cases e'
 rw [d] at d'
 injection d' with d1 _
 have : its = its' := by simpa using congrArg Array.toList d1
 subst this
 exact r.inj r'
end
abbrev Cx.wish (X : Cx) (E : Value -> Shared -> Prop) : Cx := { X with xe := E }
abbrev Cx.nox (X : Cx) : Cx := X.wish fun _ _ => False
theorem Cx.Ok.wish {X : Cx} (ok : X.Ok) (E : Value -> Shared -> Prop) : (X.wish E).Ok :=
 ⟨ok.mod, ok.kind, ok.glob, ok.blt, ok.above, ok.inj, ok.has, ok.cab, ok.hd, ok.frames, ok.stk, ok.exf, ok.bs, ok.bsz, ok.noex, ok.exfs, ok.funs, ok.frf⟩
theorem Cx.Ok.unwish {X : Cx} {E : Value -> Shared -> Prop} (ok : (X.wish E).Ok) : X.Ok :=
 ⟨ok.mod, ok.kind, ok.glob, ok.blt, ok.above, ok.inj, ok.has, ok.cab, ok.hd, ok.frames, ok.stk, ok.exf, ok.bs, ok.bsz, ok.noex, ok.exfs, ok.funs, ok.frf⟩
section
variable {X : Cx} {pins : List (Addr × Obj)} {σ : St} {H : Hp} {s : Shared} {E : Value -> Shared -> Prop}
theorem Inv.wish (I : Inv X pins σ H s) (E : Value -> Shared -> Prop) : Inv (X.wish E) pins σ H s := ⟨I.ok.wish E, I.os, I.bare, I.base, I.loc, I.cell, I.free, I.freeC, I.pin, I.hok, I.len⟩
theorem Inv.unwish (I : Inv (X.wish E) pins σ H s) : Inv X pins σ H s := ⟨I.ok.unwish, I.os, I.bare, I.base, I.loc, I.cell, I.free, I.freeC, I.pin, I.hok, I.len⟩
theorem SP.unwish {D : Ends} {f : Flow} {s' : Shared} (h : SP (X.wish E) pins D f s') : SP X pins D f s' := by
 cases f with
 | next => obtain ⟨σ', H', I, q⟩ := h; exact ⟨σ', H', I.unwish, q⟩
 | brk => obtain ⟨σ', H', I, q⟩ := h; exact ⟨σ', H', I.unwish, q⟩
 | cont => obtain ⟨σ', H', I, q⟩ := h; exact ⟨σ', H', I.unwish, q⟩
 | ret u => obtain ⟨v, σ', H', I, r, q⟩ := h; exact ⟨v, σ', H', I.unwish, r, q⟩
theorem PSs.nox {st : List Stmt} {t : TS} (h : PSs X.nox st t) : PSs X st t := fun pins s σ H D I hw =>
 wpAny_mono (h pins s σ H D (I.wish _) hw) (fun _ _ q => q.unwish) fun _ _ z => False.elim z
end
section
variable {X : Cx} {st : Stmt} {rest : List Stmt} {t u : TS} {e : Expr} {te : TE} {pos : Pos}
def Yf : TS := fun D σ H => D.nx σ H
def Zr (t u : TS) : TS := fun D σ H => t { D with nx := u D } σ H
theorem Sq : PSs X [] Yf := fun _ _ σ H _ I h => wpAny_execs_nil ⟨σ, H, I, h⟩
theorem Qo (h1 : PS X st t) (h2 : PSs X rest u) : PSs X (st :: rest) (Zr t u) := by
  intro pins s σ H D I h
  refine wpAny_execs_cons (thn (h1 pins s σ H { D with nx := u D } I h) fun f s1 q => ?_)
  cases f with
  | next =>
    obtain ⟨σ', H', I', q⟩ := q
    exact h2 pins s1 σ' H' D I' q
  | ret v => exact q
  | brk => exact q
  | cont => exact q
theorem S9 (h1 : PS X st t) : PSs X [st] t := by
 intro pins s σ H D I h
 refine wpAny_execs_cons (thn (h1 pins s σ H D I h) fun f s1 q => ?_)
 cases f with
 | next => exact wpAny_execs_nil q
 | ret v => exact q
 | brk => exact q
 | cont => exact q
theorem Inv.quiet {pins : List (Addr × Obj)} {σ : St} {H : Hp} {s : Shared} (I : Inv X pins σ H s) : interactive X.env = false := by simp [interactive, I.ok.kind]
def XF (te : TE) : TS := fun D σ H => te σ H fun _ H1 => D.nx σ H1
theorem Td (he : PE X e te) (hs : swapsWith e none pos.line X.env = pure false := by rfl) : PS X (.Expr e pos) (XF te) := by
 intro pins s σ H D I h
 exact wpAny_Expr_any (thn (he pins s σ H _ I h) fun v s1 ⟨x, H1, I1, r1, q1⟩ => ⟨σ, H1, I1, q1⟩) I.quiet hs
def Ze (te : TE) : TS := fun D σ H => te σ H D.rt
theorem VH (he : PE X e te) : PS X (.Return (some e) pos) (Ze te) := by
 intro pins s σ H D I h
 exact wpAny_Return_some (thn (he pins s σ H _ I h) fun v s1 ⟨x, H1, I1, r1, q1⟩ => ⟨x, σ, H1, I1, r1, q1⟩)
def Z5 (c : TT) (t u : TS) : TS := fun D σ H => c σ H fun b H1 => if b = true then t D σ H1 else u D σ H1
theorem YO {c : Expr} {a b : List Stmt} {tc : TT} (hc : PT X c tc) (ha : PSs X a t) (hb : PSs X b u) : PS X (.If c a b pos) (Z5 tc t u) := by
 intro pins s σ H D I h
 refine wpAny_If (thn (hc pins s σ H _ I h) fun d s1 ⟨H1, I1, q1⟩ => ?_)
 cases d with
 | true => exact ha pins s1 σ H1 D I1 q1
 | false => exact hb pins s1 σ H1 D I1 q1
end
abbrev TG := V -> St -> Hp -> (St -> Hp -> Prop) -> Prop
abbrev TGs := List V -> St -> Hp -> (St -> Hp -> Prop) -> Prop
def PG (X : Cx) (target : Expr) (t : TG) : Prop :=
 ∀ (pins : List (Addr × Obj)) (s : Shared) (σ : St) (H : Hp) (v : V) (u : Value) (Q : St -> Hp -> Prop), Inv X pins σ H s -> RelV v u -> t v σ H Q ->
  wpAny (model X.prog X.w) X.A (assign target X.env u) (fun _ s' => ∃ σ' H', Inv X pins σ' H' s' /\ Q σ' H') X.xe s
def PGs (X : Cx) (ts : List Expr) (t : TGs) : Prop :=
 ∀ (pins : List (Addr × Obj)) (s : Shared) (σ : St) (H : Hp) (vs : List V) (us : List Value) (Q : St -> Hp -> Prop), Inv X pins σ H s -> Vals vs us -> t vs σ H Q ->
  wpAny (model X.prog X.w) X.A (assignInOrder ((assignEach ts X.env).map (·.2)) us) (fun _ s' => ∃ σ' H', Inv X pins σ' H' s' /\ Q σ' H') X.xe s
abbrev XN := V -> V -> V -> Hp -> (Hp -> Prop) -> Prop
def Yv (X : Cx) (t : XN) : Prop :=
 ∀ (pins : List (Addr × Obj)) (s : Shared) (σ : St) (H : Hp) (o i v : V) (ov iv u : Value) (Q : Hp -> Prop), Inv X pins σ H s -> RelV o ov -> RelV i iv -> RelV v u -> t o i v H Q ->
  wpAny (model X.prog X.w) X.A (setItem ov iv u) (fun _ s' => ∃ H', Inv X pins σ H' s' /\ Q H') X.xe s
section
variable {X : Cx} {pos : Pos}
def Sn (i : Nat) : TG := fun v σ H Q => Q (σ.set i (some v)) H
theorem Te {i : Nat} {x : Str} (hN : X.N.Nodup) (hi : X.N[i]? = some x) (hx : Loc X.env.scope x) (hf : X.fn x = true ∨ X.env.scope.names.lookup x = some .local := by first | exact .inl rfl | exact .inr rfl | assumption) : PG X (.Name x pos) (Sn i) := by
 intro pins s σ H v u Q I r h
 exact wpAny_assign_Name (Hv I hN hi hx r (fun s' I' => ⟨_, H, I', h⟩) hf)
def Yu : TGs := fun vs σ H Q => vs = [] /\ Q σ H
def Uz (t : TG) (u : TGs) : TGs := fun vs σ H Q => ∃ v r, vs = v :: r /\ t v σ H fun σ' H' => u r σ' H' Q
theorem So : PGs X [] Yu := by
 intro pins s σ H vs us Q I r h
 obtain ⟨e, h⟩ := h
 subst e
 cases r
 exact assignInOrder_nil ⟨σ, H, I, h⟩
theorem Rh {e : Expr} {es : List Expr} {t : TG} {u : TGs} (h1 : PG X e t) (h2 : PGs X es u)
    (hs : (assignEach (e :: es) X.env).map (·.2) = assign e X.env :: (assignEach es X.env).map (·.2) := by rfl) : PGs X (e :: es) (Uz t u) := by
  intro pins s σ H vs us Q I r h
  obtain ⟨v, vr, e1, h⟩ := h
  subst e1
  cases r with
  | cons r rr =>
    rw [hs]
    refine assignInOrder_cons (thn (h1 pins s σ H _ _ _ I r h) fun _ s1 ⟨σ1, H1, I1, q1⟩ => ?_)
    exact h2 pins s1 σ1 H1 _ _ Q I1 rr q1
def ZP (K : PySem.W.Frag) (n : Nat) (t : TGs) : TG := fun v σ H Q => ∃ a xs, v = .ref a /\ SqT K H a xs /\ xs.length = n /\ t xs σ H Q
theorem Vi {es : List Expr} {k : Nat} {t : TGs} {n : Nat} (hc : X.calm = true) (h : PGs X es t)
  (hn : (assignEach es X.env).length = n := by rfl) (hst : (assignEach es X.env).findIdx? (·.1) = none := by rfl) : PG X (.Tuple es k pos) (ZP X.K n t) := by
 intro pins s σ H v u Q I r hw
 obtain ⟨a, xs, e1, hq, hl, hw⟩ := hw
 subst e1
 cases r
 obtain ⟨its, rv, ht, hz⟩ := I.tuple hq
 refine assign_Tuple_tuple (I.ok.hd hc) ht (by simp [hn, ← hl, rv.length]) hst fun h' hx => ?_
 have I1 : Inv X pins σ H { s with heap := h' } := I.kept (t' := s.toks) fun b o e => hx b o (Nat.ne_of_lt (Heap.lt_size e)) e
 exact h pins _ σ H xs _ Q I1 (by simpa using rv) hw
def Zy (to ti : TE) (t : XN) : TG := fun v σ H Q => to σ H fun o H1 => ti σ H1 fun i H2 => t o i v H2 fun H3 => Q σ H3
theorem VS {o i : Expr} {to ti : TE} {t : XN} (ho : PE X o to) (hi : PE X i ti) (hs : Yv X t)
  (ha : ∀ v, assign (.Subscript o i pos) X.env v = (do
   let ov ← holding [v] (eval o X.env)
   let iv ← holding [v, ov] (eval i X.env)
   standAt pos
   holding [v, ov, iv] (setItem ov iv v)
   release [v, ov, iv] []) := by intro _; rfl) : PG X (.Subscript o i pos) (Zy to ti t) := by
 intro pins s σ H v u Q I r h
 rw [ha]
 refine wpAny_bind (wpAny_holding (thn (ho pins s σ H _ I h) fun ov s1 ⟨x, H1, I1, r1, q1⟩ => ?_))
 refine wpAny_bind (wpAny_holding (thn (hi pins s1 σ H1 _ I1 q1) fun iv s2 ⟨y, H2, I2, r2, q2⟩ => ?_))
 refine wpAny_bind (wpAny_standAt (wpAny_bind (wpAny_holding (thn (hs pins s2 σ H2 x y v ov iv u _ I2 r1 r2 r q2) fun _ s3 ⟨H3, I3, q3⟩ => ?_))))
 exact wpAny_release ⟨σ, H3, I3, q3⟩
def X4 (te : TE) (g : TG) : TS := fun D σ H => te σ H fun x H1 => g x σ H1 D.nx
theorem R7 {tg e : Expr} {te : TE} {g : TG} (he : PE X e te) (hg : PG X tg g) (hs : swapsWithSole [tg] e pos.line X.env = pure false := by rfl) (hw : swappedStores [tg] e X.env = pure none := by rfl)
  (h1 : (assignEach [tg] X.env).map (·.2) = [assign tg X.env] := by rfl) : PS X (.Assign [tg] e pos) (X4 te g) := by
 intro pins s σ H D I h
 refine wpAny_Assign_stores (thn (he pins s σ H _ I h) fun v s1 ⟨x, H1, I1, r1, q1⟩ => ?_) hs hw
 rw [h1]
 exact thn (hg pins s1 σ H1 x v _ I1 r1 q1) fun _ s2 q => q
theorem VF {i : Nat} {x : Str} {e : Expr} {te : TE} {pos' : Pos} (hN : X.N.Nodup) (hi : X.N[i]? = some x) (hx : Loc X.env.scope x) (he : PE X e te) (hs : swapsWith e (some (.Name x pos')) pos.line X.env = pure false := by rfl) (hf : X.fn x = true ∨ X.env.scope.names.lookup x = some .local := by first | exact .inl rfl | exact .inr rfl | assumption) :
  PS X (.Assign [.Name x pos'] e pos) (X4 te (Sn i)) := by
 intro pins s σ H D I h
 refine wpAny_Assign_Name (thn (he pins s σ H _ I h) fun v s1 ⟨y, H1, I1, r1, q1⟩ => ?_) hs
 exact Hv I1 hN hi hx r1 (fun s2 I2 => ⟨_, H1, I2, q1⟩) hf
def ZV (i j : Nat) (ta : TA) : TS := fun D σ H => ta σ H fun vs H1 => ∃ v w, vs = [v, w] /\ D.nx ((σ.set i (some v)).set j (some w)) H1
theorem V7 {i j : Nat} {x y : Str} {a b : Expr} {ta : TA} {px py pt : Pos} {kt k2 pt2} (hc : X.calm = true) (hN : X.N.Nodup) (hi : X.N[i]? = some x) (hj : X.N[j]? = some y) (hij : i ≠ j)
    (hx : X.env.scope.names.lookup x = some .local) (hy : X.env.scope.names.lookup y = some .local) (ha : PA X [a, b] ta)
    (hw : swappedStores [.Tuple [.Name x px, .Name y py] kt pt] (.Tuple [a, b] k2 pt2) X.env = pure (some [x, y]))
    (hs : swapsWithSole [.Tuple [.Name x px, .Name y py] kt pt] (.Tuple [a, b] k2 pt2) pos.line X.env = pure false := by rfl) :
    PS X (.Assign [.Tuple [.Name x px, .Name y py] kt pt] (.Tuple [a, b] k2 pt2) pos) (ZV i j ta) := by
  intro pins s σ H D I h
  rw [exec_Assign_arm]
  refine wpAny_bind (wpAny_standAt ?_)
  rw [hs]
  refine wpAny_bind (wpAny_pure ?_)
  rw [if_neg (by decide)]
  refine wpAny_bind (Tuple_ (thn (ha _ pins s σ H _ I h) fun us s1 ⟨vs, H1, I1, r1, q1⟩ => ?_))
  obtain ⟨v, w, e1, q1⟩ := q1
  subst e1
  obtain ⟨u1, u2, rfl, rv, rw'⟩ : ∃ u1 u2, us = [u1, u2] /\ RelV v u1 /\ RelV w u2 := by
    cases r1 with
    | cons p q =>
      cases q with
      | cons p' q' =>
        cases q'
        exact ⟨_, _, rfl, p, p'⟩
  refine wpAny_newObj_type ?_ (by show 2 ≤ sizeLine; decide)
  have I2 : Inv X pins σ H1 { s1 with heap := s1.heap.push { cls := .type "tuple", data := .seq [u1, u2].toArray } } := I1.kept (t' := s1.toks) fun b o e => Heap.get?_push_of_some _ e
  rw [hw]
  refine wpAny_bind (wpAny_pure ?_)
  show wpAny (model X.prog X.w) X.A (do rule "assign.swapped-stores"; let items ← unpackItems (.ref s1.heap.objs.size) 2 none; assignInOrder [fun v => bindName X.env y v, fun v => bindName X.env x v] items.reverse; pure Flow.next) _ _ _
  refine wpAny_bind (wpAny_rule (wpAny_bind (unpackItems_tuple (items := #[u1, u2]) (I.ok.hd hc) (IsTup.new s1.heap _) fun h' hx' => ?_)))
  have I3 := I2.kept (h' := h') (t' := s1.toks) fun b o e => hx' b o (Nat.ne_of_lt (Heap.lt_size e)) e
  show wpAny _ _ (assignInOrder [fun v => bindName X.env y v, fun v => bindName X.env x v] [u2, u1] >>= fun _ => pure Flow.next) _ _ _
  refine wpAny_bind (assignInOrder_cons (wpAny_bindName (Hv I3 hN hj (.inl hy) rw' (fun s2 I4 => ?_) (.inr hy))))
  refine assignInOrder_cons (wpAny_bindName (Hv I4 hN hi (.inl hx) rv (fun s3 I5 => assignInOrder_nil (wpAny_pure ?_)) (.inr hx)))
  rw [List.set_comm _ _ (Ne.symm hij)] at I5
  exact ⟨_, H1, I5, q1⟩
end
section
variable {X : Cx} {pos : Pos}
def Ve (c : TT) (tb : TS) : TS := fun D σ H => ∃ W : Nat -> St -> Hp -> Prop, (∃ m, W m σ H) /\ ∀ m σ H, W m σ H ->
 c σ H fun b H1 => if b = true then ∃ N : St -> Hp -> Prop, (∀ σ' H', N σ' H' -> ∃ m', m' < m /\ W m' σ' H') /\ tb { D with nx := N, ct := N, bk := D.nx } σ H1 else D.nx σ H1
theorem QC {c : Expr} {body : List Stmt} {tc : TT} {tb : TS} (hp : PassesOwn (model X.prog X.w) X.A X.env X.xe) (hc : PT X c tc) (hb : PSs X body tb) : PS X (.While c body [] pos) (Ve tc tb) := by
  intro pins s σ H D I h
  obtain ⟨W, ⟨m0, w0⟩, turn⟩ := h
  refine wpAny_While (codeAny_whileLoop (fun n s' => ∃ σ' H', Inv X pins σ' H' s' /\ W n σ' H') ?_ m0 ⟨σ, H, I, w0⟩)
  rintro n s1 ⟨σ1, H1, I1, w1⟩
  refine wpAny_passesOwn hp (thn (hc pins s1 σ1 H1 _ I1 (turn n σ1 H1 w1)) fun b s2 ⟨H2, I2, q2⟩ => ?_)
  cases b with
  | true =>
    obtain ⟨N, hN, q2⟩ := q2
    rw [if_pos rfl]
    refine wpAny_passesOwn hp (thn (hb pins s2 σ1 H2 _ I2 q2) fun f s3 q3 => ?_)
    cases f with
    | next =>
      obtain ⟨σ3, H3, I3, n3⟩ := q3
      obtain ⟨m', hm, w3⟩ := hN σ3 H3 n3
      exact ⟨m', hm, σ3, H3, I3, w3⟩
    | cont =>
      obtain ⟨σ3, H3, I3, n3⟩ := q3
      obtain ⟨m', hm, w3⟩ := hN σ3 H3 n3
      exact ⟨m', hm, σ3, H3, I3, w3⟩
    | brk => exact q3
    | ret v => exact q3
  | false =>
    rw [if_neg Bool.false_ne_true]
    exact wpAny_execs_nil ⟨σ1, H2, I2, q2⟩
end
structure It where
 go : Nat -> Hp -> Prop
 yld : Nat -> Hp -> V -> Hp -> Prop
 stop : Nat -> Hp -> Prop
def Ll (X : Cx) (pins : List (Addr × Obj)) (H : Hp) (b : Addr) : Prop :=
 H b = none /\ b ≠ X.env.locals /\ b ∉ X.fs /\ (b ∈ X.ex ∨ X.s₀.heap.objs.size ≤ b) /\ (∀ x c, X.env.cells.lookup x = some c -> c ≠ b) /\ ∀ p ∈ X.pn ++ pins, p.1 ≠ b
theorem Inv.fpOk {X : Cx} {pins : List (Addr × Obj)} {σ : St} {H H' : Hp} {s : Shared} {b : Addr} (I : Inv X pins σ H s) (hb : s.heap.objs.size ≤ b) (hn : H' b = none) : Ll X pins H' b := by
 refine ⟨hn, Nat.ne_of_gt (Nat.lt_of_lt_of_le I.lt hb), I.nofs hb, .inr (Nat.le_trans I.sz hb), fun x c e z => ?_, fun p hp z => ?_⟩
 ·obtain ⟨v, q⟩ := I.cell x c e
  exact absurd (Nat.lt_of_lt_of_le q.lt (by rw [z]; exact hb)) (Nat.lt_irrefl _)
 ·exact absurd (Nat.lt_of_lt_of_le (Heap.lt_size (I.pin p hp).1) (by rw [z]; exact hb)) (Nat.lt_irrefl _)
structure Turn (P : Program) (w : World) (K : PySem.W.Frag) (tg : Expr) (J : It) (fp : List Addr) (it : Addr) (tn : Nat -> Heap -> Prop) : Prop where
 mem : it ∈ fp
 obj : ∀ i h, tn i h -> ∀ b ∈ fp, ∃ o, h.get? b = some o /\ ∀ v, o.data ≠ .cell v
 keep : ∀ i h h', tn i h -> (∀ b ∈ fp, ∀ o, h.get? b = some o -> h'.get? b = some o) -> tn i h'
 item : ∀ (X : Cx), X.prog = P -> X.w = w -> X.K = K -> X.calm = true -> ∀ (i : Nat) (pins : List (Addr × Obj)) (s : Shared) (σ : St) (H : Hp) (E : Value -> Shared -> Prop), Inv X pins σ H s -> (∀ b ∈ fp, Ll X pins H b) -> tn i s.heap -> J.go i H ->
  wpAny (model P w) X.A (pyNext (.ref it)) (fun r s1 => ∃ u, r = some u /\
   wpAny (model P w) X.A (letOwnedTupleGo tg (.ref it) u) (fun _ s2 => ∃ x H', Inv X pins σ H' s2 /\ RelV x u /\ J.yld i H x H' /\ tn (i + 1) s2.heap /\ ∀ b ∈ fp, H' b = none) E s1) E s
 done : ∀ (X : Cx), X.prog = P -> X.w = w -> X.K = K -> X.calm = true -> ∀ (i : Nat) (pins : List (Addr × Obj)) (s : Shared) (σ : St) (H : Hp) (E : Value -> Shared -> Prop), Inv X pins σ H s -> (∀ b ∈ fp, Ll X pins H b) -> tn i s.heap -> J.stop i H ->
  wpAny (model P w) X.A (pyNext (.ref it)) (fun r s1 => r = none /\ Inv X pins σ H s1) E s
 self : ∀ (A : Around) (i : Nat) (s : Shared) (Q : Value -> Shared -> Prop) (E : Value -> Shared -> Prop), tn i s.heap -> Q (.ref it) s -> wpAny (model P w) A (pyIter (.ref it)) Q E s
abbrev TI := St -> Hp -> (It -> Hp -> Prop) -> Prop
def PIE (X : Cx) (pins : List (Addr × Obj)) (σ : St) (tg : Expr) (R : It -> Hp -> Prop) (itv : Value) (s2 : Shared) : Prop :=
 ∃ (it : Addr) (fp : List Addr) (tn : Nat -> Heap -> Prop) (J : It) (H' : Hp), itv = .ref it /\ Inv X pins σ H' s2 /\ Turn X.prog X.w X.K tg J fp it tn /\ tn 0 s2.heap /\ (∀ b ∈ fp, Ll X pins H' b) /\ R J H'
def PI (X : Cx) (tg iter : Expr) (wi : TI) : Prop :=
 ∀ (pins : List (Addr × Obj)) (s : Shared) (σ : St) (H : Hp) (R : It -> Hp -> Prop), Inv X pins σ H s -> wi σ H R ->
  wpAny (model X.prog X.w) X.A (eval iter X.env) (fun v s1 => wpAny (model X.prog X.w) X.A (pyIter v) (PIE X pins σ tg R) X.xe s1) X.xe s
theorem Sb {M : Model} {A : Around} {E : Value -> Shared -> Prop} {s : Shared} {tg : Expr} {it : Addr} {u : Value} {o : Obj} {n : String} {vs : Array Value} {Q : Unit -> Shared -> Prop} (ho : s.heap.get? it = some o) (hc : o.cls = .type n) (hd : o.data = .fields vs)
    (hn : ["enumerate", "zip", "dict_itemiterator", "dict_reverseitemiterator", "odict_iterator", "itertools.zip_longest", "itertools.pairwise"].contains n = false) (hQ : Q () s) : wpAny M A (letOwnedTupleGo tg (.ref it) u) Q E s := by
  unfold letOwnedTupleGo
  cases tg <;> first
    | exact wpAny_pure hQ
    | (cases u <;> first
        | exact wpAny_pure hQ
        | (refine wpAny_bind (wpAny_load ho ?_)
           rw [hc, hd]
           show wpAny M A (if (["enumerate", "zip", "dict_itemiterator", "dict_reverseitemiterator", "odict_iterator", "itertools.zip_longest", "itertools.pairwise"].contains n && vs[0]? == some (rawInt _)) = true then _ else _) Q E s
           rw [if_neg (by intro h; rw [hn, Bool.false_and] at h; cases h)]
           exact wpAny_pure hQ))
def Itl (K : PySem.W.Frag) (a : Addr) : It :=
 ⟨fun i H => ∃ xs x, SqL K H a xs /\ xs[i]? = some x, fun i H x H' => H' = H /\ ∀ xs, SqL K H a xs -> xs[i]? = some x, fun i H => ∃ xs, SqL K H a xs /\ xs.length ≤ i⟩
def Itt (K : PySem.W.Frag) (a : Addr) : It :=
 ⟨fun i H => ∃ xs x, SqT K H a xs /\ xs[i]? = some x, fun i H x H' => H' = H /\ ∀ xs, SqT K H a xs -> xs[i]? = some x, fun i H => ∃ xs, SqT K H a xs /\ xs.length ≤ i⟩
def Itr (lo : Int) (n : Nat) : It := ⟨fun i _ => i < n, fun i H x H' => H' = H /\ x = .int (lo + i), fun i _ => n ≤ i⟩
theorem O9 {P : Program} {w : World} {K : PySem.W.Frag} {tg : Expr} (a it : Addr) : Turn P w K tg (Itl K a) [it] it (fun i h => h.IsListIter it a i) where
 mem := by simp
 obj := fun i h st b hb => by
  have e : b = it := by simpa using hb
  subst e
  obtain ⟨o, e, c, d⟩ := st
  exact ⟨o, e, fun v z => by rw [d] at z; cases z⟩
 keep := fun i h h' st k => st.at fun o e => k it (by simp) o e
 item := by
  intro X hP hw hK hc i pins s σ H E I hf st hg
  subst hP hw hK
  obtain ⟨xs, x, hq, hx⟩ := hg
  obtain ⟨its, rv, p, hz⟩ := I.list hq
  obtain ⟨u, hu, ru⟩ := rv.get hx
  obtain ⟨f0, f1, f2, f3, f4, f5⟩ := hf it (by simp)
  refine wpAny_pyNext_list_item st p.isList (x := u) (by simpa using hu) fun h' st' sb => ?_
  have I1 : Inv X pins σ H { s with heap := h' } := I.turned (t' := s.toks) (fun b o hb e => (sb.2 b hb).trans e) f0 f1 f3 f4 f5
  obtain ⟨o, e, c, d⟩ := id st'
  exact ⟨u, rfl, Sb (s := { s with heap := h' }) e c d (by decide) ⟨x, H, I1, ru, ⟨rfl, fun ys hy => by rw [I.list_inj hy hq]; exact hx⟩, st', fun b hb => (hf b hb).1⟩⟩
 done := by
  intro X hP hw hK hc i pins s σ H E I hf st hg
  subst hP hw hK
  obtain ⟨xs, hq, hx⟩ := hg
  obtain ⟨its, rv, p, hz⟩ := I.list hq
  obtain ⟨f0, f1, f2, f3, f4, f5⟩ := hf it (by simp)
  have hl := rv.length
  exact wpAny_pyNext_list_end (I.ok.hd hc) st p.isList (by simp; omega) fun h' eb => ⟨rfl, I.turned (t' := s.toks) (fun b o hb e => eb b o hb e) f0 f1 f3 f4 f5⟩
 self := fun _ _ _ _ _ st h => wpAny_pyIter_listiter st h
theorem NX {P : Program} {w : World} {K : PySem.W.Frag} {tg : Expr} (a it : Addr) : Turn P w K tg (Itt K a) [it] it (fun i h => h.IsTupleIter it a i) where
 mem := by simp
 obj := fun i h st b hb => by
  have e : b = it := by simpa using hb
  subst e
  obtain ⟨o, e, c, d⟩ := st
  exact ⟨o, e, fun v z => by rw [d] at z; cases z⟩
 keep := fun i h h' st k => st.at fun o e => k it (by simp) o e
 item := by
  intro X hP hw hK hc i pins s σ H E I hf st hg
  subst hP hw hK
  obtain ⟨xs, x, hq, hx⟩ := hg
  obtain ⟨its, rv, p, hz⟩ := I.tuple hq
  obtain ⟨u, hu, ru⟩ := rv.get hx
  obtain ⟨f0, f1, f2, f3, f4, f5⟩ := hf it (by simp)
  refine wpAny_pyNext_tuple_item st (show s.heap.IsTuple a its.toArray from p) (x := u) (by simpa using hu) fun h' st' sb => ?_
  have I1 : Inv X pins σ H { s with heap := h' } := I.turned (t' := s.toks) (fun b o hb e => (sb.2 b hb).trans e) f0 f1 f3 f4 f5
  obtain ⟨o, e, c, d⟩ := id st'
  exact ⟨u, rfl, Sb (s := { s with heap := h' }) e c d (by decide) ⟨x, H, I1, ru, ⟨rfl, fun ys hy => by rw [I.tuple_inj hy hq]; exact hx⟩, st', fun b hb => (hf b hb).1⟩⟩
 done := by
  intro X hP hw hK hc i pins s σ H E I hf st hg
  subst hP hw hK
  obtain ⟨xs, hq, hx⟩ := hg
  obtain ⟨its, rv, p, hz⟩ := I.tuple hq
  obtain ⟨f0, f1, f2, f3, f4, f5⟩ := hf it (by simp)
  have hl := rv.length
  exact wpAny_pyNext_tuple_end (I.ok.hd hc) st (show s.heap.IsTuple a its.toArray from p) (by simp; omega) fun h' eb => ⟨rfl, I.turned (t' := s.toks) (fun b o hb e => eb b o hb e) f0 f1 f3 f4 f5⟩
 self := fun _ _ _ _ _ st h => wpAny_pyIter_tupleiter st h
theorem Mg {P : Program} {w : World} {K : PySem.W.Frag} {tg : Expr} (it : Addr) (lo : Int) (n : Nat) : Turn P w K tg (Itr lo n) [it] it (fun i h => IsRangeIter h it (lo + (i : Nat) * 1) ((n : Int) - (i : Nat)) 1) where
 mem := by simp
 obj := fun i h st b hb => by
  have e : b = it := by simpa using hb
  subst e
  exact ⟨_, st, fun v z => by
   have z' : Data.fields _ = Data.cell v := z
   cases z'⟩
 keep := fun i h h' st k => k it (by simp) _ st
 item := by
  intro X hP hw hK hc i pins s σ H E I hf st hg
  subst hP hw hK
  obtain ⟨f0, f1, f2, f3, f4, f5⟩ := hf it (by simp)
  have W := Walks.range (prog := X.prog) (w := X.w) (I.ok.hd hc) it lo 1 n
  refine W.item i s _ _ hg st fun v h' tk hv st' kk => ?_
  obtain ⟨t, rfl⟩ := hv
  have I1 : Inv X pins σ H { s with heap := h', toks := tk } := I.turned (fun b o hb e => kk b o (by simpa using hb) e) f0 f1 f3 f4 f5
  refine ⟨_, rfl, Sb (s := { s with heap := h', toks := tk }) (n := "range_iterator") st' rfl rfl (by decide) ⟨.int (lo + i), H, I1, ⟨t, ?_⟩, ⟨rfl, rfl⟩, st', fun b hb => (hf b hb).1⟩⟩
  rw [Int.mul_one]
 done := by
  intro X hP hw hK hc i pins s σ H E I hf st hg
  subst hP hw hK
  obtain ⟨f0, f1, f2, f3, f4, f5⟩ := hf it (by simp)
  exact wpAny_pyNext_range_end (I.ok.hd hc) st (by have : n ≤ i := hg; omega) fun h' eb => ⟨rfl, I.turned (t' := s.toks) (fun b o hb e => eb b o hb e) f0 f1 f3 f4 f5⟩
 self := fun _ _ _ _ _ st h => wpAny_pyIter_rangeiter st h
end L2
namespace L2
open PySem PySem.Spec PyProof.Rows
section
variable {X : Cx} {tg : Expr}
theorem Rb {pins : List (Addr × Obj)} {σ : St} {H : Hp} {s : Shared} {R : It -> Hp -> Prop} {E : Value -> Shared -> Prop} {lo hi : Int} {t u v : Tok} {tk : Nat} (I : Inv X pins σ H s) (h1 : -(2 ^ 62) ≤ lo) (h2 : lo < 2 ^ 62) (h3 : -(2 ^ 62) ≤ hi) (h4 : hi < 2 ^ 62)
  (q : R (Itr lo (hi - lo).toNat) H) : wpAny (model X.prog X.w) X.A (pyIter (.ref s.heap.objs.size)) (PIE X pins σ tg R) E { s with heap := s.heap.push { cls := .type "range", data := .fields #[.int lo t, .int hi u, .int 1 v] }, toks := tk } := by
 refine wpAny_pyIter_range (IsRange.new ..) (small_one h1 h2 h3 h4) ?_
 have I1 : Inv X pins σ H { s with heap := s.heap.push { cls := .type "range", data := .fields #[.int lo t, .int hi u, .int 1 v] }, toks := tk } := I.kept fun b o e => Heap.get?_push_of_some _ e
 refine ⟨(s.heap.push { cls := .type "range", data := .fields #[.int lo t, .int hi u, .int 1 v] }).objs.size, [(s.heap.push { cls := .type "range", data := .fields #[.int lo t, .int hi u, .int 1 v] }).objs.size], _, _, H, rfl,
  I1.kept (t' := tk) fun b o e => Heap.get?_push_of_some _ e, Mg _ lo (hi - lo).toNat, ?_, fun b hb => ?_, q⟩
 ·have e1 : lo + ((0 : Nat) : Int) * 1 = lo := by simp
  have e2 : (((hi - lo).toNat : Nat) : Int) - ((0 : Nat) : Int) = Builtin.Range.rangeSize lo hi 1 := by rw [rangeSize_one]; split <;> omega
  show IsRangeIter _ _ (lo + ((0 : Nat) : Int) * 1) ((((hi - lo).toNat : Nat) : Int) - ((0 : Nat) : Int)) 1
  rw [e1, e2]
  exact Heap.get?_push_size _ rfl
 ·have e : b = (s.heap.push { cls := .type "range", data := .fields #[.int lo t, .int hi u, .int 1 v] }).objs.size := by simpa using hb
  subst e
  exact I1.fpOk (Nat.le_refl _) (I1.hok.fresh (Nat.le_refl _))
def YX (ta : TA) : TI := fun σ H R => ta σ H fun vs H1 => ∃ j : Int, vs = [.int j] /\ -(2 ^ 62) ≤ j /\ j < 2 ^ 62 /\ R (Itr 0 j.toNat) H1
theorem OE {a : Expr} {ta : TA} {p pos : Pos} (hg : Gl X "range") (hm : X.mg "range" = none) (ha : PA X [a] ta) (hs : starEach [a] X.env = [(false, eval a X.env)] := by rfl) : PI X tg (.Call (.Name "range" p) [a] [] pos) (YX ta) := by
  intro pins s σ H R I h
  refine Call_ (Hr I hg hm boot_range (PyProof.Rows.callWith_type1 (thn (ha pos pins s σ H _ I h) fun us s1 ⟨vs, H1, I1, r1, q1⟩ => ?_) hs rfl))
  obtain ⟨j, e, q1, q2, q⟩ := q1
  subst e
  cases r1 with
  | cons r rr =>
    cases rr
    obtain ⟨t, rfl⟩ := r
    exact call_range_1 (Rb I1 (by omega) (by omega) q1 q2 (by simpa using q))
def Zh (wi : TI) (g : TG) (tb : TS) : TS := fun D σ H => wi σ H fun J H1 => ∃ W : Nat -> Nat -> St -> Hp -> Prop, (∃ m, W 0 m σ H1) /\ ∀ i m σ H, W i m σ H ->
 (J.stop i H /\ D.nx σ H) ∨ (J.go i H /\ ∃ N : St -> Hp -> Prop, (∀ σ' H', N σ' H' -> ∃ m', m' < m /\ W (i + 1) m' σ' H') /\ ∀ x H', J.yld i H x H' -> g x σ H' fun σ2 H2 => tb { D with nx := N, ct := N, bk := D.nx } σ2 H2)
def LQ (fp : List Addr) (h : Heap) : List (Addr × Obj) := fp.filterMap fun b => (h.get? b).map fun o => (b, o)
theorem Ft {fp : List Addr} {h : Heap} {b : Addr} {o : Obj} (hb : b ∈ fp) (e : h.get? b = some o) : (b, o) ∈ LQ fp h := List.mem_filterMap.mpr ⟨b, hb, by rw [e]; rfl⟩
theorem N0 {fp : List Addr} {h : Heap} {p : Addr × Obj} (hp : p ∈ LQ fp h) : p.1 ∈ fp /\ h.get? p.1 = some p.2 := by
  obtain ⟨b, hb, e⟩ := List.mem_filterMap.mp hp
  cases q : h.get? b with
  | none => rw [q] at e; cases e
  | some o =>
    rw [q] at e
    have e' : (b, o) = p := Option.some.inj e
    subst e'
    exact ⟨hb, q⟩
theorem Inv.pinned {pins : List (Addr × Obj)} {σ : St} {H : Hp} {s : Shared} {fp : List Addr} (I : Inv X pins σ H s) (hf : ∀ b ∈ fp, Ll X pins H b) (ho : ∀ b ∈ fp, ∃ o, s.heap.get? b = some o /\ ∀ v, o.data ≠ .cell v) : Inv X (pins ++ LQ fp s.heap) σ H s :=
 I.pins_of fun p hp => (List.mem_append.mp hp).elim (fun z => I.pin p (List.mem_append_right _ z)) fun z => by
  obtain ⟨hb, e⟩ := N0 z
  obtain ⟨f0, f1, f2, _⟩ := hf p.1 hb
  obtain ⟨o, e', d⟩ := ho p.1 hb
  rw [e] at e'; cases e'
  exact ⟨e, f0, f1, f2, d⟩
theorem Inv.unpinned {pins pl : List (Addr × Obj)} {σ : St} {H : Hp} {s : Shared} (I : Inv X (pins ++ pl) σ H s) : Inv X pins σ H s := I.pins_of fun p hp => I.pin p (List.mem_append_right _ (List.mem_append_left _ hp))
theorem VC {iter : Expr} {body : List Stmt} {wi : TI} {g : TG} {tb : TS} {pos : Pos} (hp : PassesOwn (model X.prog X.w) X.A X.env X.xe) (hc : X.calm = true) (hi : PI X tg iter wi) (hg : PG X tg g) (hb : PSs X body tb)
  (hs : ∀ x, foldedSetIterable iter X.env x = pure x := by intro _; rfl) : PS X (.For tg iter body [] pos) (Zh wi g tb) := by
 intro pins s σ H D I h
 refine wpAny_For (thn (hi pins s σ H _ I h) fun v s1 h1 => thn h1 fun itv s2 h2 => ?_) hs
 obtain ⟨it, fp, tn, J, H2, e, I2, T, st2, f2, W, ⟨m0, w0⟩, turn⟩ := h2
 subst e
 have stat : ∀ {H' : Hp}, (∀ b ∈ fp, H' b = none) -> ∀ b ∈ fp, Ll X pins H' b := fun hn b hb => ⟨hn b hb, (f2 b hb).2⟩
 refine codeAny_forLoop_any (fun n s' => ∃ i σ' H', Inv X pins σ' H' s' /\ tn i s'.heap /\ (∀ b ∈ fp, H' b = none) /\ W i n σ' H') ?_ m0 ⟨0, σ, H2, I2, st2, fun b hb => (f2 b hb).1, w0⟩
 rintro n s3 ⟨i, σ3, H3, I3, st3, fr3, w3⟩
 rcases turn i n σ3 H3 w3 with ⟨stop, qn⟩ | ⟨go, N, hN, step⟩
 ·refine wpAny_passesOwn hp (thn (T.done X rfl rfl rfl hc i pins s3 σ3 H3 X.xe I3 (stat fr3) st3 stop) fun r s4 ⟨hr, I4⟩ => ?_)
  subst hr
  exact wpAny_execs_nil ⟨σ3, H3, I4, qn⟩
 ·refine wpAny_passesOwn hp (thn (T.item X rfl rfl rfl hc i pins s3 σ3 H3 X.xe I3 (stat fr3) st3 go) fun r s4 ⟨u, hr, h4⟩ => ?_)
  subst hr
  refine wpAny_passesOwn hp (thn h4 fun _ s5 ⟨x, H5, I5, r5, y5, st5, fr5⟩ => ?_)
  have I5' := I5.pinned (stat fr5) (T.obj _ _ st5)
  refine wpAny_passesOwn hp (thn (hg _ s5 σ3 H5 x u _ I5' r5 (step x H5 y5)) fun _ s6 ⟨σ6, H6, I6, q6⟩ => ?_)
  refine wpAny_passesOwn hp (thn (hb _ s6 σ6 H6 _ I6 q6) fun f s7 q7 => ?_)
  have again : ∀ {σ7 : St} {H7 : Hp}, Inv X (pins ++ LQ fp s5.heap) σ7 H7 s7 -> N σ7 H7 -> ∃ m, m < n /\ ∃ i σ' H', Inv X pins σ' H' s7 /\ tn i s7.heap /\ (∀ b ∈ fp, H' b = none) /\ W i m σ' H' := fun {σ7 H7} I7 n7 => by
   obtain ⟨m', hm, w7⟩ := hN σ7 H7 n7
   refine ⟨m', hm, i + 1, σ7, H7, I7.unpinned, T.keep _ _ _ st5 fun b hb o e => (I7.pin (b, o) (List.mem_append_right _ (List.mem_append_right _ (Ft hb e)))).1, fun b hb => ?_, w7⟩
   obtain ⟨o, e, d⟩ := T.obj _ _ st5 b hb
   exact (I7.pin (b, o) (List.mem_append_right _ (List.mem_append_right _ (Ft hb e)))).2.1
  cases f with
  | next => obtain ⟨σ7, H7, I7, n7⟩ := q7; exact again I7 n7
  | cont => obtain ⟨σ7, H7, I7, n7⟩ := q7; exact again I7 n7
  | brk => obtain ⟨σ7, H7, I7, q7⟩ := q7; exact ⟨σ7, H7, I7.unpinned, q7⟩
  | ret v => obtain ⟨x7, σ7, H7, I7, r7, q7⟩ := q7; exact ⟨x7, σ7, H7, I7.unpinned, r7, q7⟩
end
end L2
namespace L2
open PySem PySem.Spec PyProof.Rows
abbrev R2 := V -> V -> Hp -> VK -> Prop
def OpR (X : Cx) (f : Value -> Value -> Sem Value) (r : R2) : Prop :=
 ∀ (pins : List (Addr × Obj)) (s : Shared) (σ : St) (H : Hp) (x y : V) (v u : Value) (Q : VK), Inv X pins σ H s -> RelV x v -> RelV y u -> r x y H Q ->
  wpAny (model X.prog X.w) X.A (f v u) (EP X pins σ Q) X.xe s
def UnR (X : Cx) (f : Value -> Sem Value) (r : V -> Hp -> VK -> Prop) : Prop :=
 ∀ (pins : List (Addr × Obj)) (s : Shared) (σ : St) (H : Hp) (x : V) (v : Value) (Q : VK), Inv X pins σ H s -> RelV x v -> r x H Q ->
  wpAny (model X.prog X.w) X.A (f v) (EP X pins σ Q) X.xe s
def Dh (X : Cx) (f : Value) (r : List V -> Hp -> VK -> Prop) : Prop :=
 ∀ (pins : List (Addr × Obj)) (s : Shared) (σ : St) (H : Hp) (xs : List V) (us : List Value) (Q : VK), Inv X pins σ H s -> Vals xs us -> r xs H Q ->
  wpAny (model X.prog X.w) X.A (call f us) (EP X pins σ Q) X.xe s
def tOp (r : R2) (ta tb : TE) : TE := fun σ H Q => ta σ H fun x H1 => tb σ H1 fun y H2 => r x y H2 Q
def tUn (r : V -> Hp -> VK -> Prop) (ta : TE) : TE := fun σ H Q => ta σ H fun x H1 => r x H1 Q
def rI (C : Int -> Int -> Prop) (g : Int -> Int -> V) : R2 := fun x y H Q => ∃ i j, x = .int i /\ y = .int j /\ C i j /\ Q (g i j) H
def rI0 (g : Int -> Int -> V) : R2 := fun x y H Q => ∃ i j, x = .int i /\ y = .int j /\ Q (g i j) H
def rU (g : Int -> V) : V -> Hp -> VK -> Prop := fun x H Q => ∃ i, x = .int i /\ Q (g i) H
section
variable {X : Cx} {a b c : Expr} {ta tb tc : TE} {pos : Pos}
theorem Xq (ha : PE X a ta) (hb : PE X b tb) {pins : List (Addr × Obj)} {s : Shared} {σ : St} {H : Hp} {R : V -> V -> Hp -> Prop} (I : Inv X pins σ H s)
  (h : ta σ H fun x H1 => tb σ H1 fun y H2 => R x y H2) {Q : Value -> Shared -> Prop} {f : Value -> Value -> Sem Value}
  (hf : ∀ v u s2 x y H2, Inv X pins σ H2 s2 -> RelV x v -> RelV y u -> R x y H2 -> wpAny (model X.prog X.w) X.A (f v u) Q X.xe s2) :
  wpAny (model X.prog X.w) X.A (eval a X.env) (fun v s₁ => wpAny (model X.prog X.w) X.A (eval b X.env) (fun u s₂ => wpAny (model X.prog X.w) X.A (f v u) Q X.xe s₂) X.xe s₁) X.xe s := by
 refine thn (ha pins s σ H _ I h) fun v s1 ⟨x, H1, I1, r1, q1⟩ => ?_
 refine thn (hb pins s1 σ H1 _ I1 q1) fun u s2 ⟨y, H2, I2, r2, q2⟩ => ?_
 exact hf v u s2 x y H2 I2 r1 r2 q2
theorem XO {op : Operator} {r : R2} (ho : OpR X (binaryOp op) r) (ha : PE X a ta) (hb : PE X b tb) : PE X (.BinOp a op b pos) (tOp r ta tb) := by
 intro pins s σ H Q I h
 exact wpAny_BinOp (Xq ha hb I h fun v u s2 x y H2 I2 rx ry q => ho pins s2 σ H2 x y v u Q I2 rx ry q)
theorem Xk {op : UnaryOp} {r : V -> Hp -> VK -> Prop} (ho : UnR X (unaryOp op) r) (ha : PE X a ta) : PE X (.UnaryOp op a pos) (tUn r ta) := by
 intro pins s σ H Q I h
 exact UnaryOp_ (thn (ha pins s σ H _ I h) fun v s1 ⟨x, H1, I1, r1, q1⟩ => ho pins s1 σ H1 x v Q I1 r1 q1)
theorem opI {f : Value -> Value -> Sem Value} {C : Int -> Int -> Prop} {g : Int -> Int -> Int}
  (rule : ∀ (i j : Int) (t u : Tok) (s : Shared) (Q : Value -> Shared -> Prop) (E : Value -> Shared -> Prop), C i j -> Q (.int (g i j) s.toks) { s with toks := s.toks + 1 } -> wpAny (model X.prog X.w) X.A (f (.int i t) (.int j u)) Q E s) :
  OpR X f (rI C fun i j => .int (g i j)) := by
 intro pins s σ H x y v u Q I rx ry h
 obtain ⟨i, j, rfl, rfl, hc, q⟩ := h
 obtain ⟨t, rfl⟩ := rx
 obtain ⟨t', rfl⟩ := ry
 exact rule i j t t' s _ _ hc ⟨.int (g i j), H, I.tok _, ⟨_, rfl⟩, q⟩
theorem Y1 {f : Value -> Value -> Sem Value} {g : Int -> Int -> Int}
  (rule : ∀ (i j : Int) (t u : Tok) (s : Shared) (Q : Value -> Shared -> Prop) (E : Value -> Shared -> Prop), Q (.int (g i j) s.toks) { s with toks := s.toks + 1 } -> wpAny (model X.prog X.w) X.A (f (.int i t) (.int j u)) Q E s) :
  OpR X f (rI0 fun i j => .int (g i j)) := by
 intro pins s σ H x y v u Q I rx ry h
 obtain ⟨i, j, rfl, rfl, q⟩ := h
 obtain ⟨t, rfl⟩ := rx
 obtain ⟨t', rfl⟩ := ry
 exact rule i j t t' s _ _ ⟨.int (g i j), H, I.tok _, ⟨_, rfl⟩, q⟩
theorem Wg {f : Value -> Value -> Sem Value} {g : Int -> Int -> Bool}
  (rule : ∀ (i j : Int) (t u : Tok) (s : Shared) (Q : Value -> Shared -> Prop) (E : Value -> Shared -> Prop), Q (.bool (g i j)) s -> wpAny (model X.prog X.w) X.A (f (.int i t) (.int j u)) Q E s) :
  OpR X f (rI0 fun i j => .bl (g i j)) := by
 intro pins s σ H x y v u Q I rx ry h
 obtain ⟨i, j, rfl, rfl, q⟩ := h
 obtain ⟨t, rfl⟩ := rx
 obtain ⟨t', rfl⟩ := ry
 exact rule i j t t' s _ _ ⟨.bl (g i j), H, I, rfl, q⟩
def Z3 (i j : Int) : Prop := 0 ≤ j /\ j ≤ 1000000 /\ i.natAbs < 2 ^ 64
def Xa (i j : Int) : Prop := (-(2 ^ 64) < i /\ i < 2 ^ 64) ∨ (-(2 ^ 64) < j /\ j < 2 ^ 64)
theorem Xa.ok {i j : Int} (h : Xa i j) : IntMulOk i j := by
 rcases h with ⟨h1, h2⟩ | ⟨h1, h2⟩
 ·exact .of_left (intBits_le_64 h1 h2)
 ·exact .of_right (intBits_le_64 h1 h2)
theorem Vy : OpR X (binaryOp .Add) (rI0 fun i j => .int (i + j)) := Y1 fun _ _ _ _ _ _ _ q => add_int q
theorem VI : OpR X (binaryOp .Sub) (rI0 fun i j => .int (i - j)) := Y1 fun _ _ _ _ _ _ _ q => sub_int q
theorem SD : OpR X (binaryOp .Mult) (rI Xa fun i j => .int (i * j)) := opI fun _ _ _ _ _ _ _ hc q => mul_int q hc.ok
theorem Vt : OpR X (binaryOp .Mod) (rI (fun _ j => 0 < j) fun i j => .int (i % j)) := opI fun i j _ _ _ _ _ hc q => by
 have h1 : (0 : Int) < j := hc
 exact mod_int' (by omega) (by rw [Int.fmod_eq_emod_of_nonneg i (by omega)]; exact q)
theorem Ua : OpR X (binaryOp .Pow) (rI Z3 fun i j => .int (i ^ j.toNat)) := opI fun _ _ _ _ _ _ _ hc q => pow_int_small hc.1 hc.2.1 hc.2.2 q
theorem unI {f : Value -> Sem Value} {g : Int -> Int}
  (rule : ∀ (i : Int) (t : Tok) (s : Shared) (Q : Value -> Shared -> Prop) (E : Value -> Shared -> Prop), Q (.int (g i) s.toks) { s with toks := s.toks + 1 } -> wpAny (model X.prog X.w) X.A (f (.int i t)) Q E s) :
  UnR X f (rU fun i => .int (g i)) := by
 intro pins s σ H x v Q I rx h
 obtain ⟨i, rfl, q⟩ := h
 obtain ⟨t, rfl⟩ := rx
 exact rule i t s _ _ ⟨.int (g i), H, I.tok _, ⟨_, rfl⟩, q⟩
theorem U5 : UnR X (unaryOp .USub) (rU fun i => .int (-i)) := unI fun _ _ _ _ _ q => neg_int q
end
section
variable {X : Cx} {a b c : Expr} {ta tb tc : TE} {pos : Pos}
theorem Vl {pins : List (Addr × Obj)} {σ : St} {H : Hp} {s : Shared} {Q : VK} {k k' : Bool} (I : Inv X pins σ H s) (q : Q (.bl k) H) (e : k = k') : EP X pins σ Q (.bool k') s := by
 subst e
 exact ⟨.bl k, H, I, rfl, q⟩
theorem XC : OpR X (compareOp .Lt) (rI0 fun i j => .bl (decide (i < j))) := Wg fun _ _ _ _ _ _ _ q => lt_int q
theorem Xw : OpR X (compareOp .LtE) (rI0 fun i j => .bl (decide (i ≤ j))) := Wg fun _ _ _ _ _ _ _ q => le_int q
theorem Xn : OpR X (compareOp .Gt) (rI0 fun i j => .bl (decide (j < i))) := Wg fun _ _ _ _ _ _ _ q => gt_int q
theorem Yd : OpR X (compareOp .GtE) (rI0 fun i j => .bl (decide (j ≤ i))) := Wg fun _ _ _ _ _ _ _ q => ge_int q
theorem TM : OpR X (compareOp .IsNot) (fun x y H Q => y = .non /\ Q (.bl (!decide (x = .non))) H) := by
 intro pins s σ H x y v u Q I rx ry h
 obtain ⟨rfl, q⟩ := h
 cases ry
 refine isnot_none_gen (Vl I q ?_)
 cases x <;> first
  | (cases rx; rfl)
  | (obtain ⟨t, rfl⟩ := rx; rfl)
theorem Ta {op : CmpOp} {r : R2} (ho : OpR X (compareOp op) r) (ha : PE X a ta) (hb : PE X b tb) (hm : behindInMarks op b = false) : PE X (.Compare a [op] [b] pos) (tOp r ta tb) := by
 intro pins s σ H Q I h
 exact wpAny_Compare1 (Xq ha hb I h fun v u s2 x y H2 I2 rx ry q => ho pins s2 σ H2 x y v u Q I2 rx ry q) hm
def Vz (t : TE) : TT := fun σ H Q => t σ H fun x H' => ∃ k, x = .bl k /\ Q k H'
theorem TV {op : CmpOp} {r : R2} (ho : OpR X (compareOp op) r) (ha : PE X a ta) (hb : PE X b tb) (hm : behindInMarks op b = false) : PT X (.Compare a [op] [b] pos) (Vz (tOp r ta tb)) := by
 intro pins s σ H Q I h
 refine wpAny_isTrue_Compare1 (thn (ha pins s σ H _ I h) fun v s1 ⟨x, H1, I1, r1, q1⟩ => thn (hb pins s1 σ H1 _ I1 q1) fun u s2 ⟨y, H2, I2, r2, q2⟩ =>
  thn (ho pins s2 σ H2 x y v u _ I2 r1 r2 q2) fun c s3 ⟨z, H3, I3, r3, k, e, q3⟩ => ?_) hm
 subst e
 cases r3
 exact wpAny_truthy_bool ⟨H3, I3, q3⟩
theorem Kk : (sizeLine : Nat) < 2 ^ 63 := by rw [sizeLine_eq]; decide
theorem NJ : OpR X (binaryOp .Add) (fun x y H Q => ∃ i j, x = .str i /\ y = .str j /\ i.length + j.length ≤ sizeLine /\ Q (.str (i ++ j)) H) := by
 intro pins s σ H x y v u Q I rx ry h
 obtain ⟨i, j, rfl, rfl, hz, q⟩ := h
 obtain ⟨t, rfl⟩ := rx
 obtain ⟨t', rfl⟩ := ry
 exact add_str (fun t' tk => ⟨.str (i ++ j), H, I.tok _, ⟨_, rfl⟩, q⟩) hz
theorem vals1 {x : V} {us : List Value} (r : Vals [x] us) : ∃ u, us = [u] /\ RelV x u := by
 cases r with
 | cons r1 r2 => cases r2; exact ⟨_, rfl, r1⟩
theorem vals2 {x y : V} {us : List Value} (r : Vals [x, y] us) : ∃ u w', us = [u, w'] /\ RelV x u /\ RelV y w' := by
  cases r with
  | cons r1 r2 =>
    cases r2 with
    | cons r3 r4 => cases r4; exact ⟨_, _, rfl, r1, r3⟩
theorem Qu : Dh X (.builtin "abs") (fun xs H Q => ∃ i, xs = [.int i] /\ Q (.int (if i < 0 then -i else i)) H) := by
 intro pins s σ H xs us Q I r h
 obtain ⟨i, rfl, q⟩ := h
 obtain ⟨u, rfl, t, rfl⟩ := vals1 r
 exact call_abs_int fun u tk => ⟨.int (if i < 0 then -i else i), H, I.tok _, ⟨_, rfl⟩, q⟩
theorem OO (hc : X.calm = true) : Dh X (.builtin "max") (fun xs H Q => ∃ i j, xs = [.int i, .int j] /\ Q (.int (if j > i then j else i)) H) := by
 intro pins s σ H xs us Q I r h
 obtain ⟨i, j, rfl, q⟩ := h
 obtain ⟨u, w', rfl, ⟨t, rfl⟩, ⟨t', rfl⟩⟩ := vals2 r
 refine max_two_ints (I.ok.hd hc) fun h' tk k => ⟨_, H, I.kept k, ?_, q⟩
 by_cases hj : j > i
 ·rw [if_pos hj, if_pos hj]; exact ⟨_, rfl⟩
 ·rw [if_neg hj, if_neg hj]; exact ⟨_, rfl⟩
theorem OL (hc : X.calm = true) : Dh X (.builtin "min") (fun xs H Q => ∃ i j, xs = [.int i, .int j] /\ Q (.int (if j < i then j else i)) H) := by
 intro pins s σ H xs us Q I r h
 obtain ⟨i, j, rfl, q⟩ := h
 obtain ⟨u, w', rfl, ⟨t, rfl⟩, ⟨t', rfl⟩⟩ := vals2 r
 refine min_two_ints (I.ok.hd hc) fun h' tk k => ⟨_, H, I.kept k, ?_, q⟩
 by_cases hj : j < i
 ·rw [if_pos hj, if_pos hj]; exact ⟨_, rfl⟩
 ·rw [if_neg hj, if_neg hj]; exact ⟨_, rfl⟩
theorem LM : Dh X (.type "int") (fun xs H Q => (∃ i, xs = [.int i] /\ Q (.int i) H) ∨ ∃ k, xs = [.bl k] /\ Q (.int (if k then 1 else 0)) H) := by
 intro pins s σ H xs us Q I r h
 rcases h with ⟨i, rfl, q⟩ | ⟨k, rfl, q⟩
 ·obtain ⟨u, rfl, t, rfl⟩ := vals1 r
  exact call_int_int ⟨.int i, H, I, ⟨_, rfl⟩, q⟩
 ·obtain ⟨u, rfl, r1⟩ := vals1 r
  cases r1
  exact call_int_bool ⟨.int (if k then 1 else 0), H, I.tok _, ⟨_, rfl⟩, q⟩
end
end L2
namespace L2
open PySem PySem.Spec PyProof.Rows
structure XQ (h : Heap) (x dx C : Addr) (mA : Str -> Option Value) : Prop where
 obj : h.get? x = some (PySem.W.instObj C dx)
 ns : h.Ns1 dx mA
 ne : dx ≠ x
theorem Ow {h : Heap} {dx : Addr} {mA : Str -> Option Value} (n : h.Ns1 dx mA) : ∃ od, h.get? dx = some od /\ ∀ name, PySem.W.lookIn name od = some (mA name) := by
 obtain ⟨o, es, ep, ho, hd, hk, _, hm⟩ := n
 refine ⟨o, ho, fun name => ?_⟩
 have e := hm name
 unfold nsFind findBy at e
 rw [← Array.find?_toList] at e
 unfold PySem.W.lookIn
 rw [hd]
 dsimp only
 split
 ·rename_i y q
  rw [q] at e
  exact congrArg some e
 ·rename_i q
  rw [q] at e
  have a : es.toList.any (·.refKey) = false := by
   rw [List.any_eq_false]
   intro y hy
   obtain ⟨z, t, hkey⟩ := hk y (Array.mem_toList_iff.mp hy)
   simp [DictEntry.refKey, hkey]
  have a' : ¬ es.toList.any (·.refKey) = true := by rw [a]; exact Bool.false_ne_true
  rw [if_neg a']
  exact congrArg some e
theorem XQ.look {h : Heap} {x dx C : Addr} {mA : Str -> Option Value} (I : XQ h x dx C mA) : ∃ od, PySem.W.InstAt h x (PySem.W.instObj C dx) C (some od) /\ ∀ name, PySem.W.lookIn name od = some (mA name) :=
 let ⟨od, ho, hl⟩ := Ow I.ns
 ⟨od, ⟨I.obj, rfl, rfl, ho⟩, hl⟩
section
variable {prog : Program} {w : World} {A : Around} {E : Value -> Shared -> Prop} {s : Shared} {K : PySem.W.Frag} {x dx C f : Addr} {mA : Str -> Option Value} {name : Str} {v : Value}
end
section
variable {P : Program} {w : World} {H H' : Hp} {h h' : Heap} {a C dx : Addr} {fs fs' : List (Str × V)}
theorem Ss (hok : HOk P w H h) (e : H a = some (.ins C dx fs)) : ∃ mA, XQ h a dx C mA /\ (∀ f, W0 (fs.lookup f) (mA f)) /\ PySem.Within mA (fs.map (·.1)) /\ fs.length ≤ 1000 /\ H dx = some (.own a) := by
 obtain ⟨d, z, ne, ob, mA, n, r, q⟩ := (show Eg P w H h a (.ins C dx fs) from hok a _ e)
 exact ⟨mA, ⟨ob, n, ne⟩, r, q, z, d⟩
end
structure Cls (K : PySem.W.Frag) (C : Addr) : Prop where
 pg : PySem.W.plainGet K C Str.empty = true
 hd : PySem.W.hasDictIn K C = true
 po : PySem.W.plainOver K C = true
 sa : PySem.W.findIn K (.ref C) "__setattr__" = some (some (.builtin "object.__setattr__"))
theorem Cls.get {K : PySem.W.Frag} {C : Addr} (c : Cls K C) (f : Str) : PySem.W.plainGet K C f = true := c.pg
structure Con (K : PySem.W.Frag) (C : Addr) (f : Str) (v : V) (u : Value) : Prop where
 at_ : PySem.W.findIn K (.ref C) f = some (some u)
 rel : RelV v u
 get : PySem.W.specialIn K u "__get__" = some none
 cp : PySem.W.copiedNames.contains f = false
structure Meth (K : PySem.W.Frag) (C : Addr) (m : Str) (f : Addr) : Prop where
 at_ : PySem.W.findIn K (.ref C) m = some (some (.ref f))
 fn : PySem.W.isFn K (.ref f) = true
 kp : PySem.W.keepIn K (.ref f) = true
section
variable {X : Cx} {pins : List (Addr × Obj)} {σ : St} {H : Hp} {s : Shared} {a C dx : Addr} {fs : List (Str × V)} {f : Str} {v : V} {A : Around} {E : Value -> Shared -> Prop}
end
section
variable {X : Cx} {o e value : Expr} {f : Str} {pos pos' tpos : Pos} {ta tv : TE}
end
section
variable {X : Cx} {pins : List (Addr × Obj)} {σ : St} {H : Hp} {s : Shared} {A : Around} {E : Value -> Shared -> Prop} {Q : Value -> Shared -> Prop} {c : Value} {b : Bool}
inductive Nb (K : PySem.W.Frag) (H : Hp) : V -> Value -> Prop where
 | non : Nb K H .non (.type "NoneType")
 | bl (x : Bool) : Nb K H (.bl x) (.type "bool")
 | int (i : Int) : Nb K H (.int i) (.type "int")
 | str (x : Str) : Nb K H (.str x) (.type "str")
 | flt (x : UInt64) : Nb K H (.flt x) (.type "float")
 | lst {a : Addr} {xs : List V} (e : H a = some (.lst xs)) : Nb K H (.ref a) (.type "list")
 | frz {a : Addr} {o : Obj} {xs : List V} (e : H a = some (.frz o (.lst xs))) : Nb K H (.ref a) (.type "list")
 | tup {a : Addr} {xs : List V} (e : H a = some (.tup xs)) : Nb K H (.ref a) (.type "tuple")
 | dK {a : Addr} {kvs : List (Key × V)} (e : H a = some (.dK kvs)) : Nb K H (.ref a) (.type "dict")
 | dT {a : Addr} {kvs : List (List Key × V)} (e : H a = some (.dT kvs)) : Nb K H (.ref a) (.type "dict")
 | ins {a C dx : Addr} {fs : List (Str × V)} (e : H a = some (.ins C dx fs)) (cl : Cls K C) (ha : PySem.W.findIn K (.ref C) "__class__" = some (some (.builtin "object.__class__")))
   (hn : PySem.W.specialIn K (.builtin "object.__class__") "__get__" = some (some (.builtin "getset_descriptor.__get__"))) (htk : PySem.W.takesIn K (.builtin "object.__class__") = some true)
   (hm : PySem.W.mroIn K C (.type "object") = some true) : Nb K H (.ref a) (.ref C)
theorem Dt {x : V} {u t : Value} (I : Inv X pins σ H s) (rx : RelV x u) (ty : Nb X.K H x t) (e : PySem.W.kitOne X.K t c = some b) (h : ∀ tk, Q (.bool b) { s with toks := tk }) :
    wpAny (model X.prog X.w) A (call (.builtin "isinstance") [u, c]) Q E s := by
  cases ty with
  | non => cases (show u = Value.none from rx); exact PySem.W.kia_one PySem.W.kitx_none I.kIn True.intro e (fun z => nomatch z) h
  | bl y => cases (show u = Value.bool y from rx); exact PySem.W.kia_one PySem.W.kitx_bool I.kIn True.intro e (fun z => nomatch z) h
  | int i => obtain ⟨t, q⟩ := (show ∃ t, u = Value.int i t from rx); cases q; exact PySem.W.kia_one PySem.W.kitx_int I.kIn True.intro e (fun z => nomatch z) h
  | str y => obtain ⟨t, q⟩ := (show ∃ t, u = Value.str y t from rx); cases q; exact PySem.W.kia_one PySem.W.kitx_str I.kIn True.intro e (fun z => nomatch z) h
  | flt y => obtain ⟨t, q⟩ := (show ∃ t, u = Value.float y t from rx); cases q; exact PySem.W.kia_one PySem.W.kitx_float I.kIn True.intro e (fun z => nomatch z) h
  | @lst a xs ea =>
    cases (show u = Value.ref a from rx)
    obtain ⟨_, _, n, _, h1⟩ := (show Eg X.prog X.w H s.heap a (.lst xs) from I.hok a _ ea)
    exact PySem.W.kia_one PySem.W.kitx_list I.kIn ⟨_, h1, rfl⟩ e (fun z => nomatch z) h
  | @frz a ob xs ea =>
    cases (show u = Value.ref a from rx)
    obtain ⟨_, _, _, n, _, h1⟩ := (show Eg X.prog X.w H s.heap a (.frz ob (.lst xs)) from I.hok a _ ea)
    exact PySem.W.kia_one PySem.W.kitx_list I.kIn ⟨_, h1, rfl⟩ e (fun z => nomatch z) h
  | @tup a xs ea =>
    cases (show u = Value.ref a from rx)
    obtain ⟨_, _, _, p⟩ := (show Eg X.prog X.w H s.heap a (.tup xs) from I.hok a _ ea)
    obtain ⟨o, h1, h2, _⟩ := p
    exact PySem.W.kia_one PySem.W.kitx_tuple I.kIn ⟨o, h1, h2⟩ e (fun z => nomatch z) h
  | @dK a kvs ea =>
    cases (show u = Value.ref a from rx)
    obtain ⟨_, _, vs, _, p⟩ := (show Eg X.prog X.w H s.heap a (.dK kvs) from I.hok a _ ea)
    obtain ⟨o, es, ep, h1, h2, _⟩ := p
    exact PySem.W.kia_one PySem.W.kitx_dict I.kIn ⟨o, h1, h2.1⟩ e (fun z => nomatch z) h
  | @dT a kvs ea =>
    cases (show u = Value.ref a from rx)
    obtain ⟨_, _, xs, _, o, es, ep, h1, h2, _⟩ := (show Eg X.prog X.w H s.heap a (.dT kvs) from I.hok a _ ea)
    exact PySem.W.kia_one PySem.W.kitx_dict I.kIn ⟨o, h1, h2.1⟩ e (fun z => nomatch z) h
  | @ins a C dx fs ea cl ha hn htk hm =>
    cases (show u = Value.ref a from rx)
    obtain ⟨mA, O, _⟩ := Ss I.hok ea
    obtain ⟨od, J, _⟩ := O.look
    exact PySem.W.kia_one (PySem.W.kitx_own (cl.get _) cl.hd ha hn htk hm) I.kIn J e (fun z => nomatch z) h
end
end L2
namespace L2
open PySem PySem.Spec PyProof.Rows
structure Jf (k : Nat) (A : Around) : Prop where
 hd : A.handled = none
 dp : A.depth + 3 * k + 5 < recursionLimit
 un : A.units + 16 * k + 200 < cLine
theorem Jf.mono {j k : Nat} {A : Around} (r : Jf k A) (h : j ≤ k) : Jf j A := ⟨r.hd, by have := r.dp; omega, by have := r.un; omega⟩
theorem Jf.deeper {k : Nat} {A : Around} (r : Jf (k + 1) A) (env : Env) : Jf k (A.deeper env) :=
 ⟨r.hd, by have := r.dp; show A.depth + 1 + 3 * k + 5 < _; omega, by have := r.un; show A.units + 3 + 16 * k + 200 < _; omega⟩
theorem Jf.depth {k : Nat} {A : Around} (r : Jf k A) : A.depth < recursionLimit := by have := r.dp; omega
def Y0 : TA := fun _ H Q => Q [] H
def VW (ta : TE) (tr : TA) : TA := fun σ H Q => ta σ H fun x H1 => tr σ H1 fun xs H2 => Q (x :: xs) H2
section
variable {X : Cx} {e : Expr} {es : List Expr} {te : TE} {t : TA} {pos : Pos}
theorem Nm : PA X [] Y0 := fun _ _ _ _ H Q I h => Calls.spliced_nil ⟨[], H, I, .nil, h⟩
theorem J8 (ha : PE X e te) (hr : PA X es t) (hs : starEach (e :: es) X.env = (false, eval e X.env) :: starEach es X.env := by rfl) : PA X (e :: es) (VW te t) := by
 intro pos pins s σ H Q I h
 rw [hs]
 show wpAny _ _ (spliced ((false, eval e X.env) :: backTo pos (starEach es X.env))) _ _ s
 refine Calls.spliced_cons (thn (ha pins s σ H _ I h) fun u s1 ⟨x, H1, I1, r1, q1⟩ => ?_)
 exact thn (hr pos pins s1 σ H1 _ I1 q1) fun us s2 ⟨xs, H2, I2, r2, q2⟩ => ⟨x :: xs, H2, I2, .cons r1 r2, q2⟩
def Zb (t : TA) : TE := fun σ H Q => t σ H fun xs H1 => xs.length ≤ sizeLine /\ ∀ p, H1 p = none -> Q (.ref p) (upd H1 p (.tup xs))
def Z4 (t : TA) : TE := fun σ H Q => t σ H fun xs H1 => xs.length ≤ sizeLine /\ ∀ p, H1 p = none -> Q (.ref p) (upd H1 p (.lst xs))
theorem U2 {x1} (h : PA X es t) : PE X (.Tuple es x1 pos) (Zb t) := by
 intro pins s σ H Q I hq
 refine wpAny_Tuple_spliced (thn (h pos pins s σ H _ I hq) fun us s1 ⟨xs, H1, I1, r, z, q⟩ => ⟨by rw [← r.length]; exact z, ?_⟩)
 have hf : H1 s1.heap.objs.size = none := I1.hok.fresh (Nat.le_refl _)
 refine ⟨.ref s1.heap.objs.size, upd H1 s1.heap.objs.size (.tup xs), I1.laid (t' := s1.toks) (fun b u e => Heap.get?_push_of_some _ e) (Nat.le_refl _) ?_, rfl, q _ hf⟩
 exact ⟨z, us, r, ⟨_, Heap.get?_push_size _ rfl, rfl, _, rfl⟩⟩
theorem Vc (h : PA X es t) : PE X (.List es pos) (Z4 t) := by
 intro pins s σ H Q I hq
 refine wpAny_List_spliced (thn (h pos pins s σ H _ I hq) fun us s1 ⟨xs, H1, I1, r, z, q⟩ => ⟨by rw [← r.length]; exact z, ?_⟩)
 have hf : H1 s1.heap.objs.size = none := I1.hok.fresh (Nat.le_refl _)
 refine ⟨.ref s1.heap.objs.size, upd H1 s1.heap.objs.size (.lst xs), I1.laid (t' := s1.toks) (fun b u e => Heap.get?_push_of_some _ e) (Nat.le_refl _) ?_, rfl, q _ hf⟩
 exact ⟨z, us, 0, r, Heap.get?_push_size _ rfl⟩
end
abbrev Sp := List V -> Hp -> VK -> XK -> Prop
abbrev CXT := List Env -> Hp -> Shared -> XK -> Value -> Shared -> Prop
structure Wq (P : Program) (w : World) (K : PySem.W.Frag) (mg : Str -> Option Value) (base : Heap) (A : Around) (outer : List Env) (s : Shared) (H : Hp) : Prop where
 frames : A.frames = some outer
 mod : Mod K mg base
 bs : ∀ b o, base.get? b = some o -> s.heap.get? b = some o /\ H b = none
 bsz : base.objs.size ≤ s.heap.objs.size
 funs : s.heap.FunFrames base outer
 frf : ∀ b ∈ frs outer, H b = none
 hok : HOk P w H s.heap
 bare : AllBare s.gens
def CE (outer : List Env) (P : Program) (w : World) (H : Hp) (s : Shared) (Q : VK) (u : Value) (s' : Shared) : Prop :=
 ∃ v H', s'.os = s.os /\ AllBare s'.gens /\ Un (frs outer) [] H H' s.heap s'.heap /\ HOk P w H' s'.heap /\ RelV v u /\ Q v H'
def CR (CX : CXT) (outer : List Env) (P : Program) (w : World) (H : Hp) (s : Shared) (Q : VK) (E : XK) (r : Result) (s' : Shared) : Prop :=
 match r with
 | .ok (.ret u) => CE outer P w H s Q u s'
 | .ok _ => False
 | .error e => CX outer H s E e s'
structure LH (P : Program) (w : World) (K : PySem.W.Frag) (mg : Str -> Option Value) (base : Heap) (CX : CXT) (k : Nat) (f : Addr) (fd : FuncData) (ps : List Str) (sp : Sp) : Prop where
 len : ∀ vs H Q E, sp vs H Q E -> vs.length = ps.length
 run : ∀ (A : Around) (outer : List Env) (s : Shared) (H : Hp) (args : Args) (us : List Value) (vs : List V) (Q : VK) (E : XK), Jf k A -> Wq P w K mg base A outer s H -> BindsTo s fd args (ps.zip us) -> Vals vs us -> sp vs H Q E ->
  codeAny (model P w) A (.call (.ref f) args) (CR CX outer P w H s Q E) s
theorem LH.imp {P : Program} {w : World} {K : PySem.W.Frag} {mg : Str -> Option Value} {base : Heap} {CX : CXT} {k : Nat} {f : Addr} {fd : FuncData} {ps : List Str} {sp sp' : Sp} (F : LH P w K mg base CX k f fd ps sp)
  (h : ∀ vs H Q E, sp' vs H Q E -> sp vs H Q E) : LH P w K mg base CX k f fd ps sp' :=
 ⟨fun vs H Q E q => F.len vs H Q E (h _ _ _ _ q), fun A outer s H args us vs Q E hr he hb hv hs => F.run A outer s H args us vs Q E hr he hb hv (h _ _ _ _ hs)⟩
section
variable {X : Cx} {pins : List (Addr × Obj)} {σ : St} {H : Hp} {s s' : Shared}
theorem Inv.env0 (I : Inv X pins σ H s) : Wq X.prog X.w X.K X.mg X.base X.A X.stack s H :=
 ⟨I.ok.frames, I.ok.mod, I.bs, Nat.le_trans I.ok.bsz I.sz, I.stack, I.stkFree, I.hok, I.bare⟩
theorem Inv.after {Q : VK} {u : Value} (I : Inv X pins σ H s) (h : CE X.stack X.prog X.w H s Q u s') : EP X pins σ Q u s' := by
 obtain ⟨v, H', os, bare, un, hok, r, q⟩ := h
 obtain ⟨hh, g, d, t, os'⟩ := s'
 obtain rfl : os' = s.os := os
 exact ⟨v, H', I.call (h' := hh) (g' := g) (d' := d) (t' := t) (ch := []) un hok bare (fun b z => absurd z (by simp)), r, q⟩
end
def T9 (sp : Sp) (dvs : List V) (E : XK) (t : TA) : TE := fun σ H Q => t σ H fun vs H1 => sp (vs ++ dvs) H1 Q E
def Binds (K : PySem.W.Frag) (fd : FuncData) (ps : List Str) (ds : List Value) : Prop :=
 ∀ (s : Shared) (us : List Value), K.In s.heap -> (us ++ ds).length = ps.length -> BindsTo s fd ⟨us, []⟩ (ps.zip (us ++ ds))
theorem Binds.all {K : PySem.W.Frag} {fd : FuncData} {ps : List Str} (h : ∀ us : List Value, us.length = ps.length -> bindArgs fd ⟨us, []⟩ = pure (ps.zip us)) : Binds K fd ps [] := fun s us _ hl => by
 rw [List.append_nil] at hl ⊢
 exact .of_eq (h us hl)
def Passes (CX : CXT) (X : Cx) (E : XK) : Prop := ∀ (pins : List (Addr × Obj)) (σ : St) (H : Hp) (s : Shared) (e : Value) (s' : Shared), Inv X pins σ H s -> CX X.stack H s E e s' -> X.xe e s'
section
variable {X : Cx} {CX : CXT} {k : Nat} {f C : Addr} {fd : FuncData} {ps : List Str} {sp : Sp} {dvs : List V} {ds : List Value} {E : XK} {x m : Str} {p pos apos : Pos} {e o : Expr} {es : List Expr} {ta : TE} {t : TA}
theorem Vo {pins : List (Addr × Obj)} {σ : St} {H : Hp} {s : Shared} {Q : VK} {us : List Value} {vs : List V} (F : LH X.prog X.w X.K X.mg X.base CX k f fd ps sp) (hr : Jf k X.A) (hb : Binds X.K fd ps ds) (hd : Vals dvs ds) (hx : Passes CX X E)
    (I : Inv X pins σ H s) (r : Vals vs us) (h : sp (vs ++ dvs) H Q E) : wpAny (model X.prog X.w) X.A (call (.ref f) us) (EP X pins σ Q) X.xe s := by
  have r2 : Vals (vs ++ dvs) (us ++ ds) := r.append hd
  have hl : (us ++ ds).length = ps.length := by rw [← r2.length]; exact F.len _ _ _ _ h
  refine wpAny_call (codeAny_mono (F.run X.A X.stack s H ⟨us, []⟩ (us ++ ds) (vs ++ dvs) Q E hr I.env0 (hb s us I.kIn hl) r2 h) fun r s' hq => ?_)
  cases r with
  | error e => exact hx pins σ H s e s' I hq
  | ok fl =>
    cases fl with
    | ret u => exact I.after hq
    | next => exact False.elim hq
    | brk => exact False.elim hq
    | cont => exact False.elim hq
theorem Tw (F : LH X.prog X.w X.K X.mg X.base CX k f fd ps sp) (hr : Jf k X.A) (hg : Gl X x) (hm : X.mg x = some (.ref f)) (hk : PySem.W.keepIn X.K (.ref f) = true) (hb : Binds X.K fd ps ds) (hd : Vals dvs ds) (hx : Passes CX X E)
  (ha : PA X (e :: es) t) (hdb : (x == ("__debug__" : Str)) = false := by decide) (he : starEach (e :: es) X.env = (false, eval e X.env) :: starEach es X.env := by rfl) (hpl : (backTo pos (starEach es X.env)).any (·.1) = false := by rfl) :
  PE X (.Call (.Name x p) (e :: es) [] pos) (T9 sp dvs E t) := by
 intro pins s σ H Q I h
 refine wpAny_Call_Name_kw (Nz I hg hm ?_ hdb)
 refine PySem.W.callWith_K (h₀ := X.base) I.ok.mod.kin hk (thn (ha pos pins s σ H _ I h) fun us s1 ⟨vs, H1, I1, r, q⟩ => ⟨I1.kIn, ?_⟩) he hpl
 exact Vo F hr hb hd hx I1 r q
structure Mk (K : PySem.W.Frag) (C f : Addr) : Prop where
 makes : PySem.W.makesIn K C = true
 init : PySem.W.findIn K (.ref C) "__init__" = some (some (.ref f))
 fn : PySem.W.isFn K (.ref f) = true
 kp : PySem.W.keepIn K (.ref C) = true
end
section
variable {X : Cx} {CX : CXT} {k : Nat} {f C : Addr} {fd : FuncData} {ps ks : List Str} {sp : Sp} {E : XK} {x m : Str} {p pos apos kpos : Pos} {e o : Expr} {es : List Expr} {kws : List Keyword} {te ta : TE} {t tk : TA} {nm : Option Str}
structure Y2 (K : PySem.W.Frag) (fd : FuncData) (ps ks : List Str) (g : List Value -> List Value -> List Value) (gV : List V -> List V -> List V) : Prop where
 to : ∀ (s : Shared) (us ws : List Value), K.In s.heap -> (g us ws).length = ps.length -> BindsTo s fd ⟨us, ks.zip ws⟩ (ps.zip (g us ws))
 rel : ∀ {vs : List V} {us : List Value} {zs : List V} {ws : List Value}, Vals vs us -> Vals zs ws -> Vals (gV vs zs) (g us ws)
variable {g : List Value -> List Value -> List Value} {gV : List V -> List V -> List V}
end
structure AQ (N P : List Str) (sc : Scope) : Prop where
 kind : sc.kind = .function
 co : sc.isCoroutine = false
 gen : sc.isGenerator = false
 nd : N.Nodup
 pre : N.take P.length = P
 par : ∀ x ∈ P, sc.names.lookup x = some .local ∨ sc.names.lookup x = some .cell
 nofree : ∀ y ∈ sc.names, y.2 ≠ .free
theorem Kp {kindOf : Str -> Option NameKind} {x : Str} : ∀ {binds : List (Str × Value)} {m : Str -> Option Value}, (∀ v, (x, v) ∉ binds) -> bindL kindOf binds m x = m x
  | [], _, _ => rfl
  | (n, v) :: r, m, h => by
    unfold bindL
    rw [Kp fun w hw => h w (List.mem_cons_of_mem _ hw)]
    split
    · have : x ≠ n := by rintro rfl; exact h v List.mem_cons_self
      simp [this]
    · rfl
theorem La {kindOf : Str -> Option NameKind} {x : Str} : ∀ {binds : List (Str × Value)} {m : Str -> Option Value}, (∀ v, (x, v) ∉ binds) -> bindC kindOf binds m x = m x
  | [], _, _ => rfl
  | (n, v) :: r, m, h => by
    unfold bindC
    rw [La fun w hw => h w (List.mem_cons_of_mem _ hw)]
    split
    · rfl
    · have : x ≠ n := by rintro rfl; exact h v List.mem_cons_self
      simp [this]
theorem Kr {kindOf : Str -> Option NameKind} {x : Str} {v : Value} : ∀ {P : List Str} {vs : List Value} {i : Nat} {m : Str -> Option Value}, P.Nodup -> P[i]? = some x -> vs[i]? = some v -> kindOf x = some .local ->
    bindL kindOf (P.zip vs) m x = some v
  | [], _, _, _, _, h, _, _ => by simp at h
  | _ :: _, [], _, _, _, _, h, _ => by simp at h
  | p :: P, w :: vs, 0, m, nd, h1, h2, hk => by
    simp at h1 h2; subst h1; subst h2
    show bindL kindOf ((p, w) :: P.zip vs) m p = _
    unfold bindL
    rw [Kp fun v hv => (List.nodup_cons.mp nd).1 (List.of_mem_zip hv).1, if_pos hk]
    simp
  | p :: P, w :: vs, i + 1, m, nd, h1, h2, hk => by
    show bindL kindOf ((p, w) :: P.zip vs) m x = _
    unfold bindL
    exact Kr (i := i) (List.nodup_cons.mp nd).2 (by simpa using h1) (by simpa using h2) hk
theorem Kt {kindOf : Str -> Option NameKind} {x : Str} {v : Value} : ∀ {P : List Str} {vs : List Value} {i : Nat} {m : Str -> Option Value}, P.Nodup -> P[i]? = some x -> vs[i]? = some v -> kindOf x ≠ some .local ->
    bindC kindOf (P.zip vs) m x = some v
  | [], _, _, _, _, h, _, _ => by simp at h
  | _ :: _, [], _, _, _, _, h, _ => by simp at h
  | p :: P, w :: vs, 0, m, nd, h1, h2, hk => by
    simp at h1 h2; subst h1; subst h2
    show bindC kindOf ((p, w) :: P.zip vs) m p = _
    unfold bindC
    rw [La fun v hv => (List.nodup_cons.mp nd).1 (List.of_mem_zip hv).1, if_neg hk]
    simp
  | p :: P, w :: vs, i + 1, m, nd, h1, h2, hk => by
    show bindC kindOf ((p, w) :: P.zip vs) m x = _
    unfold bindC
    exact Kt (i := i) (List.nodup_cons.mp nd).2 (by simpa using h1) (by simpa using h2) hk
def start (N : List Str) (vs : List V) : St := vs.map some ++ List.replicate (N.length - vs.length) none
def SN (CX : CXT) (P : Program) (w : World) (K : PySem.W.Frag) (mg : Str -> Option Value) (base : Heap) (N : List Str) (qual : Str) (scope : Scope) (f : Addr) (cd : Value) (A : Around) (outer : List Env) (s : Shared) (H : Hp) (E : XK) : Cx where
 prog := P
 w := w
 K := K
 mg := mg
 base := base
 A := A.deeper (envOfC qual scope s.heap.objs.size f cd)
 N := N
 s₀ := s
 H₀ := H
 env := envOfC qual scope s.heap.objs.size f cd
 outer := outer
 stack := envOfC qual scope s.heap.objs.size f cd :: outer
 ex := []
 calm := true
 fn := fun _ => true
 pn := []
 xe := fun e s' => wpAny (model P w) (A.deeper (envOfC qual scope s.heap.objs.size f cd)) (leaving (envOfC qual scope s.heap.objs.size f cd) e) (fun _ s'' => CX outer H s E e s'') (fun e' s'' => CX outer H s E e' s'') s'
theorem H0 {sc : Scope} {n : Nat} {x : Str} (h : sc.names.lookup x = some .cell) : ∃ c, (cellsFrom n sc.names []).lookup x = some c := by
 have q := PySem.W.cellsFrom_some sc.names n [] (.inl h)
 exact Option.isSome_iff_exists.mp q
theorem Nv {CX : CXT} {P : Program} {w : World} {K : PySem.W.Frag} {mg : Str -> Option Value} {base : Heap} {N ps : List Str} {qual : Str} {scope : Scope} {f : Addr} {cd : Value} {A : Around} {outer : List Env} {s s1 : Shared} {H : Hp} {E : XK} {us : List Value} {vs : List V}
  (S : AQ N ps scope) (hd : A.handled = none) (e0 : Wq P w K mg base A outer s H) (hl : vs.length = ps.length) (r : Vals vs us)
  (x : InCallC s s.heap.objs.size (bindL (envOfC qual scope s.heap.objs.size f cd).kindOf (ps.zip us) fun _ => none) (cellsFrom (s.heap.objs.size + 1) scope.names []) (bindC (envOfC qual scope s.heap.objs.size f cd).kindOf (ps.zip us) fun _ => none) s1) :
  Inv (SN CX P w K mg base N qual scope f cd A outer s H E) [] (start N vs) H s1 := by
 have hpl : ps.length ≤ N.length := by have := congrArg List.length S.pre; rw [List.length_take] at this; omega
 obtain ⟨h1, tk, rfl, hk⟩ := x.done
 have noA : ∀ b : Addr, b ∉ (SN CX P w K mg base N qual scope f cd A outer s H E).ex := fun b z => absurd (show b ∈ ([] : List Addr) from z) (by simp)
 refine ⟨⟨e0.mod, S.kind, rfl, rfl, Nat.le_refl _, fun y z c h1 h2 => ?_, fun y hy => ?_, fun y c _ h => ?_, fun _ => hd, Around.frames_deeper e0.frames, .inr ⟨rfl, rfl⟩, fun b z => absurd z (noA b), e0.bs, e0.bsz, fun b _ _ => noA b, fun b z => absurd z (noA b), e0.funs, e0.frf⟩,
  rfl, e0.bare, Un.kept hk, ⟨_, x.toInCall.ns, fun i y v h1 h2 h3 => ?_⟩, fun y c h => ⟨_, x.cell y c h⟩, e0.hok.fresh (Nat.le_refl _), fun y c h => ?_, fun p hp => absurd (show p ∈ ([] : List (Addr × Obj)) from hp) (by simp), e0.hok.kept hk, ?_⟩
 ·exact name_of_addr x.apart (PySem.mem_of_lookup h1) (PySem.mem_of_lookup h2)
 ·have hy : scope.names.lookup y = some .cell ∨ scope.names.lookup y = some .free := hy
  rcases hy with hy | hy
  ·exact H0 hy
  ·exact absurd rfl (S.nofree _ (PySem.mem_of_lookup hy))
 ·exact Nat.le_of_lt (x.above y c (PySem.mem_of_lookup h))
 ·have hi : i < vs.length := by
   unfold start at h2
   by_cases hi : i < vs.length
   ·exact hi
   ·rw [List.getElem?_append_right (by simpa using hi)] at h2
    rw [List.getElem?_replicate] at h2
    split at h2 <;> cases h2
  have ha : vs[i]? = some v := by
   unfold start at h2
   rw [List.getElem?_append_left (by simpa using hi), List.getElem?_map] at h2
   cases e : vs[i]? with
   | none => rw [e] at h2; cases h2
   | some a => rw [e] at h2; cases h2; rfl
  obtain ⟨u, hu, rv⟩ := r.get ha
  have hp : ps[i]? = some y := by
   rw [← S.pre, List.getElem?_take_of_lt (by omega)]; exact h1
  have ndP : ps.Nodup := by rw [← S.pre]; exact S.nd.sublist (List.take_sublist _ _)
  refine ⟨u, rv, ?_⟩
  rcases S.par y (List.mem_of_getElem? hp) with k | k
  ·exact .inl ⟨k, Kr ndP hp hu k⟩
  ·obtain ⟨c, e⟩ := H0 (n := s.heap.objs.size + 1) k
   refine .inr ⟨.inl k, c, e, ?_⟩
   have q := x.cell y c e
   rw [Kt ndP hp hu (by show scope.names.lookup y ≠ _; rw [k]; decide)] at q
   exact q
 ·exact e0.hok.fresh (Nat.le_of_lt (x.above y c (PySem.mem_of_lookup h)))
 ·unfold start
  show _ = N.length
  rw [List.length_append, List.length_map, List.length_replicate]
  omega
theorem X1 {CX : CXT} {P : Program} {w : World} {K : PySem.W.Frag} {mg : Str -> Option Value} {base : Heap} {k : Nat} {f : Addr} {name qual : Str} {params : Arguments} {body : List Stmt} {scope : Scope} {dV kV doc pm cdv ct oc : Value} {an od : Option Addr}
    {osl : Array (Option Value)} {N ps : List Str} {sp : Sp} (lk : K.lookup f = some ⟨oc, od, .func (PySem.W.fnOf name qual params body scope dV kV doc pm an cdv ct), osl⟩) (hcd : PySem.W.codeIn K cdv qual = true) (S : AQ N ps scope)
    (len : ∀ vs H Q E, sp vs H Q E -> vs.length = ps.length)
    (hbody : ∀ (A : Around) (outer : List Env) (s : Shared) (H : Hp) (vs : List V) (Q : VK) (E : XK), Jf k (A.deeper (envOfC qual scope s.heap.objs.size f cdv)) -> sp vs H Q E ->
      ∃ t, PSs (SN CX P w K mg base N qual scope f cdv A outer s H E) body t /\ t { nx := fun _ H' => Q .non H', rt := Q } (start N vs) H) :
    LH P w K mg base CX (k + 1) f (PySem.W.fnOf name qual params body scope dV kV doc pm an cdv ct) ps sp := by
  refine ⟨len, fun A outer s H args us vs Q E hr e0 hb r hsp => ?_⟩
  have hl := len _ _ _ _ hsp
  have KX : K.In s.heap := e0.mod.kin.keeps fun b o e => (e0.bs b o e).1
  have lim : s.heap.NoLimit := e0.mod.nolimit.keeps fun b o e => (e0.bs b o e).1
  have hkind : ∀ y ∈ ps.zip us, scope.names.lookup y.1 = some .local ∨ (scope.names.lookup y.1 = some .cell /\ ((cellsFrom (s.heap.objs.size + 1) scope.names []).lookup y.1).isSome = true) := fun ⟨n, v⟩ hy => by
    rcases S.par n (List.of_mem_zip hy).1 with q | q
    · exact .inl q
    · exact .inr ⟨q, PySem.W.cellsFrom_some _ _ _ (.inl q)⟩
  refine codeAny_call_function hr.depth (KX _ _ lk) rfl S.co S.gen rfl (PySem.W.codeRec_of KX hcd) (hb _ _ _ _ ?_)
  refine wpAny_newFunctionEnv_cells S.kind hkind fun env he s1 x => ?_
  subst he
  refine ⟨lim.keeps x.toInCall.keep, codeAny_func ?_⟩
  obtain ⟨t, ht, hq⟩ := hbody A outer s H vs Q E (hr.deeper _) hsp
  have I : Inv (SN CX P w K mg base N qual scope f cdv A outer s H E) [] (start N vs) H s1 := Nv S hr.hd e0 hl r x
  refine wpAny_mono (ht [] s1 (start N vs) H _ I hq) (fun fl s' hs => ?_) fun e s' hs => hs
  have fin : ∀ {σ' : St} {H' : Hp} {v : V} {u : Value}, Inv (SN CX P w K mg base N qual scope f cdv A outer s H E) [] σ' H' s' -> RelV v u -> Q v H' -> CE outer P w H s Q u s' :=
    fun {σ' H' v u} J rv q => ⟨v, H', J.os, J.bare, J.base, J.hok, rv, q⟩
  cases fl with
  | ret u =>
    obtain ⟨v, σ', H', J, rv, q⟩ := hs
    exact fin J rv q
  | next =>
    obtain ⟨σ', H', J, q⟩ := hs
    exact fin (v := V.non) (u := Value.none) J rfl q
  | brk =>
    obtain ⟨_, _, _, q⟩ := hs
    exact False.elim q
  | cont =>
    obtain ⟨_, _, _, q⟩ := hs
    exact False.elim q
end L2
namespace L2
open PySem PySem.Spec PyProof.Rows
section
variable {X : Cx} {x : Str} {p pos : Pos} {e : Expr} {es : List Expr} {t : TA} {id T : String} {r : List V -> Hp -> VK -> Prop}
def tCB (r : List V -> Hp -> VK -> Prop) (t : TA) : TE := fun σ H Q => t σ H fun vs H1 => r vs H1 Q
theorem RJ (hc : Dh X (.builtin id) r) (hg : Gl X x) (hm : X.mg x = none) (hv : bootBuiltins x = some (.builtin id)) (ha : PA X (e :: es) t) (hn : x ≠ "__name__" := by decide) (hdb : (x == ("__debug__" : Str)) = false := by decide)
  (he : starEach (e :: es) X.env = (false, eval e X.env) :: starEach es X.env := by rfl) (hpl : (backTo pos (starEach es X.env)).any (·.1) = false := by rfl) : PE X (.Call (.Name x p) (e :: es) [] pos) (tCB r t) := by
 intro pins s σ H Q I h
 refine wpAny_Call_Name_kw (Hr I hg hm hv ?_ hn hdb)
 exact PyProof.Rows.callWith_builtin1 (thn (ha pos pins s σ H _ I h) fun us s1 ⟨vs, H1, I1, r1, q1⟩ => hc pins s1 σ H1 vs us Q I1 r1 q1) he hpl
theorem Om (hc : Dh X (.type T) r) (hg : Gl X x) (hm : X.mg x = none) (hv : bootBuiltins x = some (.type T)) (ha : PA X (e :: es) t) (hn : x ≠ "__name__" := by decide) (hdb : (x == ("__debug__" : Str)) = false := by decide)
  (he : starEach (e :: es) X.env = (false, eval e X.env) :: starEach es X.env := by rfl) (hpl : (backTo pos (starEach es X.env)).any (·.1) = false := by rfl) : PE X (.Call (.Name x p) (e :: es) [] pos) (tCB r t) := by
 intro pins s σ H Q I h
 refine wpAny_Call_Name_kw (Hr I hg hm hv ?_ hn hdb)
 exact PyProof.Rows.callWith_type1 (thn (ha pos pins s σ H _ I h) fun us s1 ⟨vs, H1, I1, r1, q1⟩ => hc pins s1 σ H1 vs us Q I1 r1 q1) he hpl
end
end L2
namespace HT
open PySem PyProof.Rows
section
open PySem.SeqAt
open PySem.AutoSeq1 (wpAny_loadPart')
open PySem.MeetsSeq PySem.MeetsSeq2 PySem.MeetsSeq3
end
section
variable {prog : Program} {w : World} {A : Around} {E : Value -> Shared -> Prop} {s : Shared}
theorem UD {t b : Addr} {vs ws : List Value} {Q : Value -> Shared -> Prop} (ht : IsTup s.heap t vs.toArray) (hb : IsTup s.heap b ws.toArray) (hv : vs ≠ [])
  (h1 : ws = [] -> Q (.ref t) s) (h2 : ws ≠ [] -> Q (.ref s.heap.objs.size) { s with heap := s.heap.push { cls := .type "tuple", data := .seq (vs ++ ws).toArray } })
  (hsz : vs.length + ws.length ≤ sizeLine) : wpAny (model prog w) A (binaryOp .Add (.ref t) (.ref b)) Q E s := by
 obtain ⟨⟨cls, dd, data, sl⟩, ho, hc, n, hd⟩ := id ht
 obtain ⟨⟨cls2, dd2, data2, sl2⟩, ho2, hc2, n2, hd2⟩ := id hb
 simp only at hc hd hc2 hd2
 subst hc hd hc2 hd2
 have e : vs.toArray ++ ws.toArray = (vs ++ ws).toArray := by simp
 by_cases hw : ws = []
 ·exact concat_meets ⟨_, ho, rfl⟩ ⟨_, ho2, rfl⟩ noFill_tuple_add seq_tuple_add PySem.F.slot_tuple_add PySem.F.entry_tuple_add (PySem.F.args_tuple_add_2 _ _)
   (tuple_addW1 t b vs.toArray ws.toArray n n2 dd dd2 sl sl2 (by simpa using hv) (by simp [hw])) ⟨ho, ho2, h1 hw⟩
 ·refine concat_meets ⟨_, ho, rfl⟩ ⟨_, ho2, rfl⟩ noFill_tuple_add seq_tuple_add PySem.F.slot_tuple_add PySem.F.entry_tuple_add (PySem.F.args_tuple_add_2 _ _)
   (tuple_addW2 t b vs.toArray ws.toArray n n2 dd dd2 sl sl2 (by simpa using hv) (by simpa using hw) (by rw [List.size_toArray, List.size_toArray]; exact hsz)) ⟨ho, ho2, ?_⟩
  rw [e]
  exact h2 hw
def sIx (n d : Nat) : Option Int -> Nat
 | none => d
 | some v => if v < 0 then (v + (n : Int)).toNat else min v.toNat n
theorem Lf (n d k : Nat) : sIx n d (some (k : Int)) = min k n := by
 show (if (k : Int) < 0 then ((k : Int) + (n : Int)).toNat else min (k : Int).toNat n) = min k n
 rw [if_neg (by omega), Int.toNat_natCast]
theorem UU (n d : Nat) (hd : d ≤ n) (o : Option Int) : sIx n d o ≤ n := by
  cases o with
  | none => exact hd
  | some v =>
    show (if v < 0 then (v + (n : Int)).toNat else min v.toNat n) ≤ n
    by_cases hv : v < 0
    · rw [if_pos hv]; omega
    · rw [if_neg hv]; exact Nat.min_le_right _ _
theorem OC (v : Int) (n d : Nat) : (if v < 0 then max (v + (n : Int)) 0 else min v (n : Int)) = ((sIx n d (some v) : Nat) : Int) := by
 show (if v < 0 then max (v + (n : Int)) 0 else min v (n : Int)) = (((if v < 0 then (v + (n : Int)).toNat else min v.toNat n) : Nat) : Int)
 by_cases hv : v < 0
 ·simp only [if_pos hv]; omega
 ·simp only [if_neg hv]; omega
theorem Mv (lo hi : Option Int) (n : Nat) : Builtin.Slice.sliceAdjust lo hi 1 (n : Int) = (((sIx n 0 lo : Nat) : Int), ((sIx n n hi : Nat) : Int)) := by
 have h1 : ¬ ((1 : Int) < 0) := by omega
 unfold Builtin.Slice.sliceAdjust
 simp only [h1, if_false]
 refine Prod.ext ?_ ?_
 ·cases lo with
  | none => rfl
  | some v => exact OC v n 0
 ·cases hi with
  | none => rfl
  | some v => exact OC v n n
theorem NT (i j : Nat) : Builtin.Slice.slicePlaces (i : Int) (j : Int) 1 = j - i := by
 unfold Builtin.Slice.slicePlaces
 have h1 : (1 : Int) > 0 := by omega
 simp only [h1, if_true, Int.ediv_one]
 split <;> omega
theorem JZ {v : Value} {o : Option Int} {Q : Option Int -> Shared -> Prop} (p : IsPart v o) (h : Q o s) : wpAny (model prog w) A (Builtin.Slice.slicePartIndex v) Q E s := by
 cases p with
 | none => exact slicePart_none h
 | int i t => exact slicePart_int h
theorem E9 {sl : Addr} {vl vu : Value} {lo hi : Option Int} {n : Nat} {Q : Int × Int × Nat -> Shared -> Prop} (hs : s.heap.IsSliceOf sl vl vu .none) (pl : IsPart vl lo) (pu : IsPart vu hi)
  (h : Q (((sIx n 0 lo : Nat) : Int), 1, sIx n n hi - sIx n 0 lo) s) : wpAny (model prog w) A (Builtin.Slice.sliceApplied (.ref sl) (pure (n : Int))) Q E s := by
 obtain ⟨os, hos, hcs, hds⟩ := id hs
 unfold Builtin.Slice.sliceApplied Builtin.Slice.sliceFields
 refine wpAny_bind (wpAny_bind (wpAny_field hos hds (x := vl) rfl (wpAny_bind (wpAny_field hos hds (x := vu) rfl (wpAny_bind (wpAny_field hos hds (x := .none) rfl (wpAny_pure ?_)))))))
 refine wpAny_bind (slicePart_none ?_)
 show wpAny _ _ (if ((1 : Int) == 0) = true then _ else _) _ _ s
 rw [if_neg (by decide)]
 refine wpAny_bind (JZ pl (wpAny_bind (JZ pu (wpAny_bind (wpAny_pure ?_)))))
 show wpAny _ _ (match Builtin.Slice.sliceAdjust lo hi 1 (n : Int) with | (lo, hi) => pure (lo, (1 : Int), Builtin.Slice.slicePlaces lo hi 1)) _ _ s
 rw [Mv lo hi n]
 show wpAny _ _ (pure (((sIx n 0 lo : Nat) : Int), (1 : Int), Builtin.Slice.slicePlaces ((sIx n 0 lo : Nat) : Int) ((sIx n n hi : Nat) : Int) 1)) _ _ s
 rw [NT]
 exact wpAny_pure h
theorem Ra (xs : Array Value) (i k : Nat) : ((List.range k).filterMap fun (m : Nat) => xs[((i : Int) + (m : Int) * 1).toNat]?).toArray = ((xs.toList.drop i).take k).toArray := by
 have e : (fun (m : Nat) => xs[((i : Int) + (m : Int) * 1).toNat]?) = fun m => xs[i + m]? := by
  funext m
  have : ((i : Int) + (m : Int) * 1).toNat = i + m := by omega
  rw [this]
 rw [e]
 have := pick_run xs i k
 rw [List.filterMap_map] at this
 have e2 : ((fun x => xs[x]?) ∘ fun x => i + x) = fun m => xs[i + m]? := rfl
 rw [e2] at this
 rw [this]
theorem HB {t sl : Addr} {items : Array Value} {vl vu : Value} {lo hi : Option Int} {Q : Value -> Shared -> Prop} (ht : IsTup s.heap t items) (hs : s.heap.IsSliceOf sl vl vu .none) (pl : IsPart vl lo) (pu : IsPart vu hi)
  (hw : ¬ (sIx items.size 0 lo = 0 /\ sIx items.size items.size hi = items.size))
  (h : Q (.ref s.heap.objs.size) { s with heap := s.heap.push { cls := .type "tuple", data := .seq ((items.toList.drop (sIx items.size 0 lo)).take (sIx items.size items.size hi - sIx items.size 0 lo)).toArray } })
  (hsz : items.size ≤ sizeLine) : wpAny (model prog w) A (getItem (.ref t) (.ref sl)) Q E s := by
 have htake : sizeOk (.seq ((items.toList.drop (sIx items.size 0 lo)).take (sIx items.size items.size hi - sIx items.size 0 lo)).toArray) := by
  show ((items.toList.drop (sIx items.size 0 lo)).take (sIx items.size items.size hi - sIx items.size 0 lo)).toArray.size ≤ sizeLine
  rw [List.size_toArray, List.length_take, List.length_drop, Array.length_toList]
  omega
 have hj : sIx items.size items.size hi ≤ items.size := UU _ _ (Nat.le_refl _) hi
 obtain ⟨os, hos, hcs, hds⟩ := id hs
 have hTs : s.TypeIs (.ref sl) "slice" := ⟨os, hos, hcs⟩
 unfold getItem
 try with_reducible refine wpAny_holding ?_
 first | refine wpAny_bind (wpAny_pure ?_) | skip
 refine wpAny_bind (wpAny_sequenceKey ht.typeIs (by decide) ?_)
 refine wpAny_bind (wpAny_callSpecial?_slot (name := Str.ofString "__getitem__") ht.typeIs PyProof.Rows.slot_tuple_getitem
  (wpAny_call_entry PyProof.Rows.slot_tuple_getitem ht.typeIs entry_tuple_getitem ?_ (args_tuple_getitem _ _)))
 show wpAny _ _ (Builtin.Tuple.tupleItemsOf (.ref t) >>= _) _ _ s
 refine wpAny_bind (tupleItemsOf_ ht ?_)
 refine wpAny_bind (wpAny_typeOf hTs ?_)
 rw [if_pos (by decide)]
 refine wpAny_bind (E9 hs pl pu ?_)
 have hno : ¬ ((((sIx items.size 0 lo : Nat) : Int) == 0 && (1 : Int) == 1 && (sIx items.size items.size hi - sIx items.size 0 lo) == items.size) = true) := by
  intro q
  rw [Bool.and_eq_true, Bool.and_eq_true] at q
  have q1 : ((sIx items.size 0 lo : Nat) : Int) = 0 := eq_of_beq q.1.1
  have q2 : sIx items.size items.size hi - sIx items.size 0 lo = items.size := eq_of_beq q.2
  exact hw ⟨by omega, by omega⟩
 show wpAny _ _ (if (((sIx items.size 0 lo : Nat) : Int) == 0 && (1 : Int) == 1 && (sIx items.size items.size hi - sIx items.size 0 lo) == items.size) = true then _ else _) _ _ s
 rw [if_neg hno, Ra]
 first
  | exact wpAny_bind (m := Builtin.Tuple.tupleExact _) (wpAny_newObj_type (wpAny_pure ⟨_, rfl, wpAny_pure h⟩) htake)
  | exact wpAny_bind (m := Builtin.Tuple.tupleExact _) (wpAny_newObj_type (wpAny_bind (wpAny_pure (wpAny_pure ⟨_, rfl, wpAny_pure h⟩))) htake)
  | exact wpAny_bind (wpAny_bind (m := Builtin.Tuple.tupleExact _) (wpAny_newObj_type (wpAny_pure (wpAny_pure ⟨_, rfl, wpAny_pure h⟩)) htake))
  | exact wpAny_bind (wpAny_bind (m := Builtin.Tuple.tupleExact _) (wpAny_newObj_type (wpAny_pure ⟨_, rfl, wpAny_pure h⟩) htake))
end
end HT
namespace L2
open PySem PySem.Spec PyProof.Rows
abbrev TO := St -> Hp -> (Option Int -> Hp -> Prop) -> Prop
def PO (X : Cx) (e : Option Expr) (t : TO) : Prop :=
 ∀ (pins : List (Addr × Obj)) (s : Shared) (σ : St) (H : Hp) (Q : Option Int -> Hp -> Prop), Inv X pins σ H s -> t σ H Q ->
  wpAny (model X.prog X.w) X.A (evalPart e X.env) (fun u s' => ∃ o H', Inv X pins σ H' s' /\ IsPart u o /\ Q o H') X.xe s
def TJ : TO := fun _ H Q => Q none H
def YM (t : TE) : TO := fun σ H Q => t σ H fun x H1 => ∃ i, x = .int i /\ Q (some i) H1
theorem intsAre_of {ns : List Int} : ∀ {us : List Value}, Vals (ns.map V.int) us -> IntsAre us ns := by
  induction ns with
  | nil => intro us r; rw [List.map_nil] at r; cases r; exact .nil
  | cons n ns ih =>
    intro us r
    rw [List.map_cons] at r
    cases r with
    | cons r1 r2 =>
      obtain ⟨t, e⟩ := r1
      subst e
      exact .cons n t (ih r2)
section
variable {X : Cx} {e : Expr} {te : TE} {lo hi : Option Expr} {tl th : TO} {pos p2 : Pos}
theorem Oc : PO X none TJ := by
 intro pins s σ H Q I h
 rw [evalPart_none]
 exact wpAny_pure ⟨none, H, I, .none, h⟩
theorem OI (h : PE X e te) : PO X (some e) (YM te) := by
 intro pins s σ H Q I hw
 rw [evalPart_some]
 refine thn (h pins s σ H _ I hw) fun u s1 ⟨x, H1, I1, r1, q1⟩ => ?_
 obtain ⟨i, rfl, q⟩ := q1
 obtain ⟨t, rfl⟩ := r1
 exact ⟨some i, H1, I1, .int i t, q⟩
def SlR (X : Cx) (r : V -> Option Int -> Option Int -> Hp -> VK -> Prop) : Prop :=
 ∀ (pins : List (Addr × Obj)) (s : Shared) (σ : St) (H : Hp) (x : V) (v vl vu : Value) (lo hi : Option Int) (sl : Addr) (Q : VK), Inv X pins σ H s -> RelV x v -> s.heap.IsSliceOf sl vl vu .none -> IsPart vl lo -> IsPart vu hi -> r x lo hi H Q ->
  ∃ T id, typeLookup (.type T) "__getitem__" = pure (some (.builtin id)) /\ s.TypeIs v T /\ wpAny (model X.prog X.w) X.A (getItem v (.ref sl)) (EP X pins σ Q) X.xe s
def tSl (r : V -> Option Int -> Option Int -> Hp -> VK -> Prop) (te : TE) (tl th : TO) : TE := fun σ H Q => te σ H fun x H1 => tl σ H1 fun l H2 => th σ H2 fun u H3 => r x l u H3 Q
theorem MC {r : V -> Option Int -> Option Int -> Hp -> VK -> Prop} (hr : SlR X r) (he : PE X e te) (hl : PO X lo tl) (hu : PO X hi th) : PE X (.Subscript e (.Slice lo hi none p2) pos) (tSl r te tl th) := by
 intro pins s σ H Q I h
 refine Subscript_ (thn (he pins s σ H _ I h) fun v s1 ⟨x, H1, I1, r1, q1⟩ => ?_)
 refine wpAny_Slice (thn (hl pins s1 σ H1 _ I1 q1) fun vl s2 ⟨l, H2, I2, pl, q2⟩ => thn (hu pins s2 σ H2 _ I2 q2) fun vu s3 ⟨u, H3, I3, pu, q3⟩ => ?_)
 rw [evalPart_none]
 refine wpAny_pure ?_
 have I4 : Inv X pins σ H3 { s3 with heap := s3.heap.push { cls := .type "slice", data := .fields #[vl, vu, .none] } } := I3.kept (t' := s3.toks) fun b ob q => Heap.get?_push_of_some _ q
 obtain ⟨T, id, hT, ht, hg⟩ := hr pins { s3 with heap := s3.heap.push { cls := .type "slice", data := .fields #[vl, vu, .none] } } σ H3 x v vl vu l u s3.heap.objs.size Q I4 r1 (Heap.IsSliceOf.new ..) pl pu q3
 show wpAny (model X.prog X.w) X.A (subscriptTail e (.Slice lo hi none p2) v (.ref s3.heap.objs.size)) (EP X pins σ Q) X.xe { s3 with heap := s3.heap.push { cls := .type "slice", data := .fields #[vl, vu, .none] } }
 exact tail_any (ops := [.ref s3.heap.objs.size, v]) ht hT hg (by with_unfolding_all rfl)
def Rq (xs : List V) (lo hi : Option Int) : List V := (xs.drop (HT.sIx xs.length 0 lo)).take (HT.sIx xs.length xs.length hi - HT.sIx xs.length 0 lo)
theorem Ip (xs : List V) (lo hi : Option Int) : (Rq xs lo hi).length ≤ xs.length := by
 unfold Rq
 rw [List.length_take, List.length_drop]
 omega
def Z7 (K : PySem.W.Frag) : V -> Option Int -> Option Int -> Hp -> VK -> Prop := fun x lo hi H Q => ∃ a xs, x = .ref a /\ SqT K H a xs /\
 ¬ (HT.sIx xs.length 0 lo = 0 /\ HT.sIx xs.length xs.length hi = xs.length) /\ ∀ p, H p = none -> Q (.ref p) (upd H p (.tup (Rq xs lo hi)))
theorem V4 : SlR X (Z7 X.K) := by
 intro pins s σ H x v vl vu lo hi sl Q I rx hs pl pu h
 obtain ⟨a, xs, rfl, hx, hw, q⟩ := h
 cases rx
 obtain ⟨its, r, ht, hz⟩ := I.tuple hx
 have hlen : its.toArray.size = xs.length := by rw [List.size_toArray]; exact r.length.symm
 refine ⟨"tuple", _, PyProof.Rows.slot_tuple_getitem.lookup, ht.typeIs, ?_⟩
 refine HT.HB ht hs pl pu (by rw [hlen]; exact hw) ?_ (by rw [hlen]; exact hz)
 rw [hlen]
 refine ⟨.ref s.heap.objs.size, _, I.laid (t' := s.toks) (o := .tup (Rq xs lo hi)) (fun b ob q => Heap.get?_push_of_some _ q) (Nat.le_refl _) ?_, rfl, q _ (I.hok.fresh (Nat.le_refl _))⟩
 exact ⟨Nat.le_trans (Ip xs lo hi) hz, _, (r.drop (HT.sIx xs.length 0 lo)).take (HT.sIx xs.length xs.length hi - HT.sIx xs.length 0 lo), IsTup.new _ _⟩
def YL (K : PySem.W.Frag) : R2 := fun x y H Q => ∃ a b xs ys, x = .ref a /\ y = .ref b /\ SqT K H a xs /\ SqT K H b ys /\ xs ≠ [] /\ xs.length + ys.length ≤ sizeLine /\
 (ys = [] -> Q (.ref a) H) /\ (ys ≠ [] -> ∀ p, H p = none -> Q (.ref p) (upd H p (.tup (xs ++ ys))))
theorem Vals.nil_iff {xs : List V} {us : List Value} (r : Vals xs us) : us = [] ↔ xs = [] := by
 cases r with
 | nil => simp
 | cons _ _ => simp
theorem UC : OpR X (binaryOp .Add) (YL X.K) := by
 intro pins s σ H x y v u Q I rx ry h
 obtain ⟨a, b, xs, ys, rfl, rfl, ha, hb, hx, hz, q1, q2⟩ := h
 cases rx
 cases ry
 obtain ⟨its, r1, p1, _⟩ := I.tuple ha
 obtain ⟨its2, r2, p2, _⟩ := I.tuple hb
 refine HT.UD p1 p2 (fun z => hx (r1.nil_iff.mp z)) (fun z => ⟨.ref a, H, I, rfl, q1 (r2.nil_iff.mp z)⟩) (fun z => ?_) (by rw [← r1.length, ← r2.length]; exact hz)
 refine ⟨.ref s.heap.objs.size, _, I.laid (t' := s.toks) (o := .tup (xs ++ ys)) (fun b ob q => Heap.get?_push_of_some _ q) (Nat.le_refl _) ?_, rfl, q2 (fun w => z (r2.nil_iff.mpr w)) _ (I.hok.fresh (Nat.le_refl _))⟩
 exact ⟨by rw [List.length_append]; exact hz, _, r1.append r2, IsTup.new _ _⟩
end
end L2
namespace L2
open PySem PySem.Spec PyProof.Rows
def ixN (n : Nat) (i : Int) : Option Nat := if 0 ≤ i then (if i < n then some i.toNat else none) else if -(n : Int) ≤ i then some (i + n).toNat else none
def atI {α : Type} (xs : List α) (i : Int) : Option α := (ixN xs.length i).bind fun j => xs[j]?
theorem Nh {n : Nat} {i : Int} {j : Nat} (h : ixN n i = some j) : seqIndex? i n = some j /\ j < n /\ -(n : Int) ≤ i /\ i < n := by
 unfold ixN at h
 by_cases h0 : 0 ≤ i
 ·rw [if_pos h0] at h
  by_cases h1 : i < n
  ·rw [if_pos h1] at h
   have e : i.toNat = j := Option.some.inj h
   exact ⟨by rw [seqIndex_of h0 h1, e], by omega, by omega, h1⟩
  ·rw [if_neg h1] at h; cases h
 ·rw [if_neg h0] at h
  by_cases h1 : -(n : Int) ≤ i
  ·rw [if_pos h1] at h
   have e : (i + n).toNat = j := Option.some.inj h
   exact ⟨by rw [seqIndex_neg (by omega) h1, e], by omega, h1, by omega⟩
  ·rw [if_neg h1] at h; cases h
theorem PQ {α : Type} {xs : List α} {i : Int} {v : α} (h : atI xs i = some v) : ∃ j, seqIndex? i xs.length = some j /\ xs[j]? = some v /\ j < xs.length /\ -(xs.length : Int) ≤ i /\ i < xs.length := by
  unfold atI at h
  cases e : ixN xs.length i with
  | none => rw [e] at h; cases h
  | some j =>
    rw [e] at h
    obtain ⟨h1, h2, h3, h4⟩ := Nh e
    exact ⟨j, h1, h, h2, h3, h4⟩
theorem Sa {α : Type} {xs : List α} {j : Nat} {v : α} (h : xs[j]? = some v) : atI xs (j : Int) = some v := by
 have hj : j < xs.length := (List.getElem?_eq_some_iff.mp h).1
 have e : ixN xs.length (j : Int) = some j := by
  unfold ixN
  rw [if_pos (by omega), if_pos (by omega)]; simp
 unfold atI; rw [e]; exact h
theorem Lz {α : Type} (xs : List α) (v : α) : atI (xs ++ [v]) (-1) = some v := by
 have hl : (xs ++ [v]).length = xs.length + 1 := by simp
 have e : ixN (xs ++ [v]).length (-1) = some xs.length := by
  unfold ixN
  rw [hl, if_neg (by decide), if_pos (by omega)]
  congr 1
  omega
 unfold atI
 rw [e]
 show (xs ++ [v])[xs.length]? = some v
 simp
def O6 (b : Expr) : Prop := ∀ o i, subscripted b false o i = operate [o, i] (getItem o i)
def IxR (X : Cx) (r : R2) : Prop :=
 ∀ (value slice : Expr) (pins : List (Addr × Obj)) (s : Shared) (σ : St) (H : Hp) (x y : V) (v u : Value) (Q : VK), Inv X pins σ H s -> RelV x v -> RelV y u -> r x y H Q ->
  subscripted slice false v u = operate [v, u] (getItem v u) -> wpAny (model X.prog X.w) X.A (subscriptTail value slice v u) (EP X pins σ Q) X.xe s
def MtR (X : Cx) (id : String) (r : V -> List V -> Hp -> VK -> Prop) : Prop :=
 ∀ (pins : List (Addr × Obj)) (s : Shared) (σ : St) (H : Hp) (x : V) (xs : List V) (v : Value) (us : List Value) (Q : VK), Inv X pins σ H s -> RelV x v -> Vals xs us -> r x xs H Q ->
  wpAny (model X.prog X.w) X.A (call (.builtin id) (v :: us)) (EP X pins σ Q) X.xe s
section
variable {X : Cx} {a b : Expr} {ta tb : TE} {pos : Pos}
theorem X0 {r : R2} (hr : IxR X r) (ha : PE X a ta) (hb : PE X b tb) (hs : O6 b) : PE X (.Subscript a b pos) (tOp r ta tb) := by
 intro pins s σ H Q I h
 exact Subscript_ (Xq ha hb I h fun v u s2 x y H2 I2 rx ry q => hr a b pins s2 σ H2 x y v u Q I2 rx ry q (hs _ _))
def ZX (K : PySem.W.Frag) : R2 := fun x y H Q => ∃ p xs i v, x = .ref p /\ y = .int i /\ SqL K H p xs /\ atI xs i = some v /\ Q v H
def ZQ (K : PySem.W.Frag) : R2 := fun x y H Q => ∃ p xs i v, x = .ref p /\ y = .int i /\ SqT K H p xs /\ atI xs i = some v /\ Q v H
theorem Tx : IxR X (ZX X.K) := by
 intro value slice pins s σ H x y v u Q I rx ry h hs
 obtain ⟨p, xs, i, z, rfl, rfl, hq, he, q⟩ := h
 cases rx
 obtain ⟨t, rfl⟩ := ry
 obtain ⟨its, r, pl, hz⟩ := I.list hq
 obtain ⟨j, h1, h2, h3, h4, h5⟩ := PQ he
 obtain ⟨w, ew, rw'⟩ := r.get h2
 have hl := r.length
 have hn := Kk
 have fin : EP X pins σ Q w s := ⟨z, H, I, rw', q⟩
 by_cases h0 : 0 ≤ i
 ·have hj : i.toNat = j := by
   rw [seqIndex_of h0 h5] at h1
   exact Option.some.inj h1
  exact item_listR pl.isList h0 (by omega) (by rw [hj]; simpa using ew) fin hs
 ·have hj : (i + (its.toArray.size : Int)).toNat = j := by
   rw [seqIndex_neg (by omega) h4] at h1
   rw [List.size_toArray, ← hl]
   exact Option.some.inj h1
  exact subscriptTail_builtinR (x := w) pl.isList.typeIs slot_list_getitem.lookup
   (wpAny_getItem_list_neg (Q := fun r s' => r = w /\ EP X pins σ Q r s') pl.isList (by omega) (by rw [List.size_toArray] <;> omega) (by omega) (by rw [hj]; simpa using ew) ⟨rfl, fin⟩) hs
theorem Uc : IxR X (ZQ X.K) := by
 intro value slice pins s σ H x y v u Q I rx ry h hs
 obtain ⟨p, xs, i, z, rfl, rfl, hq, he, q⟩ := h
 cases rx
 obtain ⟨t, rfl⟩ := ry
 obtain ⟨its, r, pl, hz⟩ := I.tuple hq
 obtain ⟨j, h1, h2, h3, h4, h5⟩ := PQ he
 obtain ⟨w, ew, rw'⟩ := r.get h2
 have hl := r.length
 have hn := Kk
 have fin : EP X pins σ Q w s := ⟨z, H, I, rw', q⟩
 exact subscriptTail_builtinR (x := w) pl.typeIs slot_tuple_getitem.lookup
  (getItem_tuple (j := j) (Q := fun r s' => r = w /\ EP X pins σ Q r s') pl (by omega) (by omega) (by rw [List.size_toArray, ← hl]; exact h1) (by simpa using ew) ⟨rfl, fin⟩) hs
theorem Mj (its : List Value) (n j : Nat) (u : Value) : Obj.mapSeq (·.setIfInBounds j u) { cls := .type "list", data := .seq its.toArray n } = { cls := .type "list", data := .seq (its.set j u).toArray n } := by
 simp [Obj.mapSeq]
theorem Inv.lst {pins : List (Addr × Obj)} {σ : St} {H : Hp} {s : Shared} {p : Addr} {xs : List V} (I : Inv X pins σ H s) (h : H p = some (.lst xs)) :
  ∃ (its : List Value) (n : Nat), Vals xs its /\ s.heap.get? p = some { cls := .type "list", data := .seq its.toArray n } /\ xs.length ≤ sizeLine := by
 obtain ⟨z, its, n, r, e⟩ := I.hok p _ h
 exact ⟨its, n, r, e, z⟩
theorem Inv.lstUpd {pins : List (Addr × Obj)} {σ : St} {H : Hp} {s : Shared} {p : Addr} {xs ys : List V} {its its' : List Value} {n n' : Nat} {f : Obj -> Obj} (I : Inv X pins σ H s) (h : H p = some (.lst xs))
  (ho : s.heap.get? p = some { cls := .type "list", data := .seq its.toArray n }) (hf : f { cls := .type "list", data := .seq its.toArray n } = { cls := .type "list", data := .seq its'.toArray n' }) (r : Vals ys its') (hz : ys.length ≤ sizeLine) (t : Nat) :
  Inv X pins σ (upd H p (.lst ys)) { s with heap := s.heap.update p f, toks := t } := by
 have e : (s.heap.update p f).get? p = some { cls := .type "list", data := .seq its'.toArray n' } := by
  rw [Heap.get?_update_self f ho (by rw [hf] <;> rfl), hf]
 refine I.write (x := p) (e := p) (by rw [h]; trivial) (.inl rfl) (fun b u hb q => (Heap.get?_update_other _ _ (Ne.symm hb)).trans q) ⟨_, e⟩ ?_
 exact ⟨hz, its', n', r, e⟩
def Xf : V -> V -> V -> Hp -> (Hp -> Prop) -> Prop := fun o i v H Q => ∃ p xs k j, o = .ref p /\ i = .int k /\ H p = some (.lst xs) /\ ixN xs.length k = some j /\ Q (upd H p (.lst (xs.set j v)))
theorem set_list : Yv X Xf := by
 intro pins s σ H o i v ov iv u Q I ro ri rv h
 obtain ⟨p, xs, k, j, rfl, rfl, hp, hj, q⟩ := h
 cases ro
 obtain ⟨t, rfl⟩ := ri
 obtain ⟨its, n, r, ho, hz⟩ := I.lst hp
 obtain ⟨h1, h2, h3, h4⟩ := Nh hj
 have hl := r.length
 have hn := Kk
 have I' : Inv X pins σ (upd H p (.lst (xs.set j v))) { s with heap := s.heap.update p (Obj.mapSeq (·.setIfInBounds j u)) } :=
  I.lstUpd hp ho (Mj its n j u) (r.set rv j) (by rw [List.length_set]; exact hz) s.toks
 by_cases h0 : 0 ≤ k
 ·have hk : k.toNat = j := by
   rw [seqIndex_of h0 h4] at h1
   exact Option.some.inj h1
  exact PySem.W.ki_setAt ho h0 (by omega) (by rw [List.size_toArray, ← hl]; exact h4) (by rw [hk]; exact ⟨_, I', q⟩)
 ·have hk : (k + (its.toArray.size : Int)).toNat = j := by
   rw [seqIndex_neg (by omega) h3] at h1
   rw [List.size_toArray, ← hl]
   exact Option.some.inj h1
  exact PySem.W.ki_setBack ho (by omega) (by rw [List.size_toArray, ← hl]; exact h3) (by omega) (by rw [hk]; exact ⟨_, I', q⟩)
theorem Kf (lo hi : Option Int) (n : Nat) : (sliceBounds lo hi none n).1 = ((HT.sIx n 0 lo : Nat) : Int) /\ (sliceBounds lo hi none n).2.1 = ((HT.sIx n n hi : Nat) : Int) /\ (sliceBounds lo hi none n).2.2 = 1 := by
  refine ⟨?_, ?_, rfl⟩
  · cases lo with
    | none => simp [sliceBounds, HT.sIx]
    | some i =>
      simp only [sliceBounds, HT.sIx, Option.getD_none, show (1 : Int) > 0 by decide, if_true]
      by_cases h : i < 0
      · simp only [h, if_true] <;> omega
      · simp only [h, if_false] <;> omega
  · cases hi with
    | none => simp [sliceBounds, HT.sIx]
    | some i =>
      simp only [sliceBounds, HT.sIx, Option.getD_none, show (1 : Int) > 0 by decide, if_true]
      by_cases h : i < 0
      · simp only [h, if_true] <;> omega
      · simp only [h, if_false] <;> omega
theorem KY (its : List Value) (lo hi : Option Int) : slicePick its.toArray lo hi none = ((its.drop (HT.sIx its.length 0 lo)).take (HT.sIx its.length its.length hi - HT.sIx its.length 0 lo)).toArray := by
 obtain ⟨h1, h2, h3⟩ := Kf lo hi its.toArray.size
 unfold slicePick
 rw [h1, h2, h3]
 simp only [sliceRange_one, pick_run, List.size_toArray] <;> rfl
def Z0 (K : PySem.W.Frag) : V -> Option Int -> Option Int -> Hp -> VK -> Prop := fun x lo hi H Q => ∃ a xs, x = .ref a /\ SqL K H a xs /\ ∀ p, H p = none -> Q (.ref p) (upd H p (.lst (Rq xs lo hi)))
theorem Tz : SlR X (Z0 X.K) := by
 intro pins s σ H x v vl vu lo hi sl Q I rx hs pl pu h
 obtain ⟨a, xs, rfl, hx, q⟩ := h
 cases rx
 obtain ⟨its, r, ht, hz⟩ := I.list hx
 have hlen := r.length
 refine ⟨"list", _, slot_list_getitem.lookup, ht.isList.typeIs, ?_⟩
 refine wpAny_getItem_list_slice ht.isList hs pl pu .none (by simp) ?_ (by rw [List.size_toArray] <;> omega)
 rw [KY, ← hlen]
 refine ⟨.ref s.heap.objs.size, _, I.laid (t' := s.toks) (o := .lst (Rq xs lo hi)) (fun b ob q => Heap.get?_push_of_some _ q) (Nat.le_refl _) ?_, rfl, q _ (I.hok.fresh (Nat.le_refl _))⟩
 exact ⟨Nat.le_trans (Ip xs lo hi) hz, _, 0, (r.drop (HT.sIx xs.length 0 lo)).take (HT.sIx xs.length xs.length hi - HT.sIx xs.length 0 lo), Heap.get?_push_size _ rfl⟩
def JS : V -> Bool
 | .non => true
 | .bl _ => true
 | .int _ => true
 | .str _ => true
 | _ => false
def eqV : V -> V -> Bool
 | .non, .non => true
 | .bl a, .bl b => a == b
 | .bl a, .int b => (if a then 1 else 0) == b
 | .int a, .bl b => a == (if b then 1 else 0)
 | .int a, .int b => a == b
 | .str a, .str b => a == b
 | _, _ => false
theorem Ub {A : Around} {s : Shared} {y x : V} {u v : Value} (ry : RelV y u) (rx : RelV x v) (fy : JS y = true) (fx : JS x = true) : SeqAt.EqAt A s u v (eqV y x) := by
  cases y with
  | non =>
    cases ry
    cases x with
    | non => cases rx; exact SeqAt.EqAt.same _
    | bl b => cases rx; exact SeqAt.EqAt.none_bool b
    | int b => obtain ⟨t, rfl⟩ := rx; exact SeqAt.EqAt.none_int b t
    | str b => obtain ⟨t, rfl⟩ := rx; exact SeqAt.EqAt.none_str b t
    | _ => exact absurd (show false = true from fx) Bool.false_ne_true
  | bl a =>
    cases ry
    cases x with
    | non => cases rx; exact SeqAt.EqAt.bool_none a
    | bl b => cases rx; exact SeqAt.EqAt.bool_bool a b
    | int b => obtain ⟨t, rfl⟩ := rx; exact SeqAt.EqAt.bool_int a b t
    | str b => obtain ⟨t, rfl⟩ := rx; exact SeqAt.EqAt.bool_str a b t
    | _ => exact absurd (show false = true from fx) Bool.false_ne_true
  | int a =>
    obtain ⟨t', rfl⟩ := ry
    cases x with
    | non => cases rx; exact SeqAt.EqAt.int_none a t'
    | bl b => cases rx; exact SeqAt.EqAt.int_bool a t' b
    | int b => obtain ⟨t, rfl⟩ := rx; exact SeqAt.EqAt.int_int a t' b t
    | str b => obtain ⟨t, rfl⟩ := rx; exact SeqAt.EqAt.int_str a t' b t
    | _ => exact absurd (show false = true from fx) Bool.false_ne_true
  | str a =>
    obtain ⟨t', rfl⟩ := ry
    cases x with
    | non => cases rx; exact SeqAt.EqAt.str_none a t'
    | bl b => cases rx; exact SeqAt.EqAt.str_bool a t' b
    | int b => obtain ⟨t, rfl⟩ := rx; exact SeqAt.EqAt.str_int a t' b t
    | str b => obtain ⟨t, rfl⟩ := rx; exact SeqAt.EqAt.str_str a t' b t
    | _ => exact absurd (show false = true from fx) Bool.false_ne_true
  | _ => exact absurd (show false = true from fy) Bool.false_ne_true
def eqU (x : V) (u : Value) : Bool := match u with
 | .none => eqV .non x
 | .bool b => eqV (.bl b) x
 | .int i _ => eqV (.int i) x
 | .str z _ => eqV (.str z) x
 | _ => false
theorem SS {x y : V} {u : Value} (r : RelV y u) (f : JS y = true) : eqU x u = eqV y x := by
 cases y with
 | non => cases r; rfl
 | bl b => cases r; rfl
 | int i => obtain ⟨t, rfl⟩ := r; rfl
 | str z => obtain ⟨t, rfl⟩ := r; rfl
 | _ => exact absurd (show false = true from f) Bool.false_ne_true
theorem JC {x : V} : ∀ {xs : List V} {us : List Value}, Vals xs us -> xs.all JS = true -> us.any (eqU x) = xs.any fun y => eqV y x
  | _, _, .nil, _ => rfl
  | y :: xs, u :: us, .cons r t, f => by
    rw [List.all_cons, Bool.and_eq_true] at f
    rw [List.any_cons, List.any_cons, SS r f.1, JC t f.2]
theorem Gy {A : Around} {s : Shared} {x : V} {v : Value} (rx : RelV x v) (fx : JS x = true) : ∀ {xs : List V} {us : List Value}, Vals xs us -> xs.all JS = true -> ∀ u ∈ us, SeqAt.EqAt A s u v (eqU x u)
  | _, _, .nil, _ => fun u hu => by cases hu
  | y :: xs, u :: us, .cons r t, f => fun u' hu => by
    rw [List.all_cons, Bool.and_eq_true] at f
    rcases List.mem_cons.mp hu with rfl | hu
    · rw [SS r f.1]; exact Ub r rx f.1 fx
    · exact Gy rx fx t f.2 u' hu
def inV (x : V) (xs : List V) : Bool := xs.any fun y => eqV y x
def rIn (K : PySem.W.Frag) (neg : Bool) : R2 := fun x y H Q => ∃ p xs, y = .ref p /\ (SqL K H p xs ∨ SqT K H p xs) /\ JS x = true /\ xs.all JS = true /\ Q (.bl (if neg then !inV x xs else inV x xs)) H
theorem Od : OpR X (compareOp .In) (rIn X.K false) := by
 intro pins s σ H x y v u Q I rx ry h
 obtain ⟨p, xs, rfl, hq, fx, fs, q⟩ := h
 cases ry
 rcases hq with hq | hq
 ·obtain ⟨its, r, pl, hz⟩ := I.list hq
  refine SeqAt.in_listAt (eqU x) pl.isList (fun w hw => Gy rx fx r fs w (by simpa using hw)) ⟨.bl _, H, I, rfl, ?_⟩
  rw [show its.toArray.any (eqU x) = its.any (eqU x) by simp, JC r fs]
  exact q
 ·obtain ⟨its, r, pl, hz⟩ := I.tuple hq
  refine SeqAt.in_tupleAt (eqU x) pl (fun w hw => Gy rx fx r fs w (by simpa using hw)) ⟨.bl _, H, I, rfl, ?_⟩
  rw [show its.toArray.any (eqU x) = its.any (eqU x) by simp, JC r fs]
  exact q
theorem LC : OpR X (compareOp .NotIn) (rIn X.K true) := by
 intro pins s σ H x y v u Q I rx ry h
 obtain ⟨p, xs, rfl, hq, fx, fs, q⟩ := h
 cases ry
 rcases hq with hq | hq
 ·obtain ⟨its, r, pl, hz⟩ := I.list hq
  refine SeqAt.notIn_listAt (eqU x) pl.isList (fun w hw => Gy rx fx r fs w (by simpa using hw)) ⟨.bl _, H, I, rfl, ?_⟩
  rw [show its.toArray.any (eqU x) = its.any (eqU x) by simp, JC r fs]
  exact q
 ·obtain ⟨its, r, pl, hz⟩ := I.tuple hq
  refine SeqAt.notIn_tupleAt (eqU x) pl (fun w hw => Gy rx fx r fs w (by simpa using hw)) ⟨.bl _, H, I, rfl, ?_⟩
  rw [show its.toArray.any (eqU x) = its.any (eqU x) by simp, JC r fs]
  exact q
theorem LG : Dh X (.builtin "len") (fun xs H Q => ∃ p ys, xs = [.ref p] /\ (SqL X.K H p ys ∨ SqT X.K H p ys) /\ Q (.int ys.length) H) := by
 intro pins s σ H xs us Q I r h
 obtain ⟨p, ys, rfl, hq, q⟩ := h
 obtain ⟨u, rfl, rx⟩ := vals1 r
 cases rx
 have hn := Kk
 rcases hq with hq | hq
 ·obtain ⟨its, r', pl, hz⟩ := I.list hq
  have hlen := r'.length
  exact Calls.call_len_list pl.isList (by simp only [List.size_toArray] <;> omega) ⟨.int ys.length, H, I.tok _, ⟨s.toks + 1, by rw [List.size_toArray, hlen]⟩, q⟩
 ·obtain ⟨its, r', pl, hz⟩ := I.tuple hq
  have hlen := r'.length
  exact len_tuple pl (by simp only [List.size_toArray] <;> omega) ⟨.int ys.length, H, I.tok _, ⟨s.toks + 1, by rw [List.size_toArray, hlen]⟩, q⟩
theorem Kj : Dh X (.builtin "len") (fun xs H Q => ∃ z, xs = [.str z] /\ z.length ≤ sizeLine /\ Q (.int z.length) H) := by
 intro pins s σ H xs us Q I r h
 obtain ⟨z, rfl, hz, q⟩ := h
 obtain ⟨u, rfl, t, rfl⟩ := vals1 r
 have hn := Kk
 exact len_str (by omega) ⟨.int z.length, H, I.tok _, ⟨_, rfl⟩, q⟩
theorem Kl : Dh X (.type "list") (fun xs H Q => ∃ p ys, xs = [.ref p] /\ (SqL X.K H p ys ∨ SqT X.K H p ys) /\ ∀ l, H l = none -> Q (.ref l) (upd H l (.lst ys))) := by
 intro pins s σ H xs us Q I r h
 obtain ⟨p, ys, rfl, hq, q⟩ := h
 obtain ⟨u, rfl, rx⟩ := vals1 r
 cases rx
 have fin : ∀ (its : List Value), Vals ys its -> ys.length ≤ sizeLine -> ∀ (h' : Heap) (c' : Nat), (∀ b o', s.heap.get? b = some o' -> h'.get? b = some o') ->
   h'.get? s.heap.objs.size = some { cls := .type "list", dict := none, data := .seq its.toArray c', slots := #[] } -> EP X pins σ Q (.ref s.heap.objs.size) { s with heap := h' } := fun its r' hz h' c' kp e =>
  ⟨.ref s.heap.objs.size, _, I.laid (t' := s.toks) kp (Nat.le_refl _) (show Eg X.prog X.w _ h' _ (.lst ys) from ⟨hz, its, c', r', e⟩), rfl, q _ (I.hok.fresh (Nat.le_refl _))⟩
 rcases hq with hq | hq
 ·obtain ⟨its, r', pl, hz⟩ := I.list hq
  have hlen := r'.length
  obtain ⟨o, ho, hc, n, hd⟩ := pl.isList
  exact call_list_seq p (.inl rfl) ho hc hd (fun h' c' kp e => fin its r' hz h' c' kp e) (by simp only [List.size_toArray] <;> omega)
 ·obtain ⟨its, r', pl, hz⟩ := I.tuple hq
  have hlen := r'.length
  obtain ⟨o, ho, hc, n, hd⟩ := pl
  exact call_list_seq p (.inr rfl) ho hc hd (fun h' c' kp e => fin its r' hz h' c' kp e) (by simp only [List.size_toArray] <;> omega)
theorem Jy : Dh X (.type "tuple") (fun xs H Q => ∃ p ys, xs = [.ref p] /\ ((SqL X.K H p ys /\ ∀ l, H l = none -> Q (.ref l) (upd H l (.tup ys))) ∨ (SqT X.K H p ys /\ Q (.ref p) H))) := by
 intro pins s σ H xs us Q I r h
 obtain ⟨p, ys, rfl, h⟩ := h
 obtain ⟨u, rfl, rx⟩ := vals1 r
 cases rx
 rcases h with ⟨hq, q⟩ | ⟨hq, q⟩
 ·obtain ⟨its, r', pl, hz⟩ := I.list hq
  have hlen := r'.length
  refine call_tuple_list pl.isList (fun h' kp => ?_) (by simp only [List.size_toArray] <;> omega)
  have I1 : Inv X pins σ H { s with heap := h' } := I.kept (t' := s.toks) kp
  have I2 : Inv X pins σ (upd H h'.objs.size (.tup ys)) { s with heap := h'.push { cls := .type "tuple", data := .seq its.toArray } } :=
   I1.laid (t' := s.toks) (fun b o e => Heap.get?_push_of_some _ e) (Nat.le_refl _) (show Eg X.prog X.w _ _ _ (.tup ys) from ⟨hz, its, r', IsTup.new _ _⟩)
  exact ⟨.ref h'.objs.size, _, I2, rfl, q _ (I1.hok.fresh (Nat.le_refl _))⟩
 ·obtain ⟨its, r', pl, hz⟩ := I.tuple hq
  exact call_tuple_same pl ⟨.ref p, H, I, rfl, q⟩
def tyV (K : PySem.W.Frag) (T : String) (x : V) (H : Hp) : Prop := match x with
 | .str _ => T = "str"
 | .int _ => T = "int"
 | .ref p => (T = "list" /\ ∃ xs, SqL K H p xs) ∨ (T = "tuple" /\ ∃ o, K.lookup p = some o /\ o.cls = .type "tuple" /\ o.dict = none) ∨
   (T = "dict" /\ ((∃ kvs, H p = some (.dK kvs)) ∨ ∃ kvs, H p = some (.dT kvs))) ∨ (T = "set" /\ ∃ S n, H p = some (.set S n))
 | _ => False
theorem UZ {pins : List (Addr × Obj)} {σ : St} {H : Hp} {s : Shared} {T : String} {x : V} {v : Value} (I : Inv X pins σ H s) (r : RelV x v) (ty : tyV X.K T x H) :
    s.TypeIs v T /\ ∀ a, v = .ref a -> ∃ ob, s.heap.get? a = some ob /\ ob.dict = none := by
  cases x with
  | str z =>
    obtain ⟨t, rfl⟩ := r
    cases (show T = "str" from ty)
    exact ⟨typeIs_str s z t, fun _ e => nomatch e⟩
  | int i =>
    obtain ⟨t, rfl⟩ := r
    cases (show T = "int" from ty)
    exact ⟨typeIs_int s i t, fun _ e => nomatch e⟩
  | ref p =>
    cases r
    rcases ty with ⟨rfl, xs, hq⟩ | ⟨rfl, o, hk, hc, hd⟩ | ⟨rfl, hk⟩ | ⟨rfl, S, n, hk⟩
    · obtain ⟨its, _, pl, _⟩ := I.list hq
      refine ⟨pl.isList.typeIs, fun a e => ?_⟩
      cases e
      obtain ⟨o, n, e, c, hd, _⟩ := pl
      exact ⟨o, e, hd⟩
    · refine ⟨⟨o, I.kIn p o hk, hc⟩, fun a e => ?_⟩
      cases e
      exact ⟨o, I.kIn _ o hk, hd⟩
    · have z : ∃ o, s.heap.get? p = some o /\ o.ExactDict := by
        rcases hk with ⟨kvs, hk⟩ | ⟨kvs, hk⟩
        · obtain ⟨_, _, _, _, o, _, _, e, ex, _⟩ := I.hok p _ hk
          exact ⟨o, e, ex⟩
        · obtain ⟨_, _, _, _, o, _, _, e, ex, _⟩ := I.hok p _ hk
          exact ⟨o, e, ex⟩
      obtain ⟨o, e, ex⟩ := z
      refine ⟨⟨o, e, ex.1⟩, fun a e2 => ?_⟩
      cases e2
      exact ⟨o, e, ex.2.1⟩
    · obtain ⟨o, _, _, _, e, ex, _⟩ := I.hok p _ hk
      refine ⟨⟨o, e, ex.1⟩, fun a e2 => ?_⟩
      cases e2
      exact ⟨o, e, ex.2.1⟩
  | _ => exact False.elim ty
def tBM (K : PySem.W.Frag) (T : String) (r : V -> List V -> Hp -> VK -> Prop) (to : TE) (t : TA) : TE := fun σ H Q => to σ H fun x H1 => tyV K T x H1 /\ t σ H1 fun xs H2 => r x xs H2 Q
variable {o e : Expr} {es : List Expr} {to : TE} {t : TA} {name : Str} {apos cpos : Pos} {T id : String} {r : V -> List V -> Hp -> VK -> Prop}
theorem YS (pa : PlainAttrs T) (slot : Slot T name id) (hty : typeOf (.builtin id) = pure (.type "method_descriptor")) (hm : MtR X id r) (ho : PE X o to) (ha : PA X (e :: es) t)
  (hbase : attributeBase o name X.env (eval o X.env) = eval o X.env := by rfl)
  (hfew : ((backTo cpos (starEach (e :: es) X.env)).all (fun x => !x.1) && (backToKw cpos (keywordEach [] X.env)).all (fun x => x.1.isSome)
   && decide ((e :: es).length + ([] : List Keyword).length + (if ([] : List Keyword).isEmpty then 0 else 1) < 30)) = true := by rfl)
  (hline : (apos.endLine == cpos.line) = true := by rfl) (hs : starEach (e :: es) X.env = (false, eval e X.env) :: starEach es X.env := by rfl) (hplain : (backTo cpos (starEach es X.env)).any (·.1) = false := by rfl) :
  PE X (.Call (.Attribute o name apos) (e :: es) [] cpos) (tBM X.K T r to t) := by
 intro pins s σ H Q I h
 refine wpAny_Call_method_late hbase hfew hline rfl (thn (ho pins s σ H _ I h) fun v s1 ⟨x, H1, I1, r1, ty, q1⟩ => ?_)
 obtain ⟨h1, h2⟩ := UZ I1 r1 ty
 refine ⟨T, id, pa, slot, hty, h1, h2, ?_⟩
 have hA := ha cpos pins s1 σ H1 _ I1 q1
 rw [hs] at hA ⊢
 refine Calls.callWith_builtin (by show (false || (backTo cpos (starEach es X.env)).any (·.1)) = false; rw [hplain] <;> rfl) (Calls.evalArgs_plain ?_)
 exact thn hA fun us s2 ⟨vs, H2, I2, r2, q2⟩ => hm pins s2 σ H2 x vs v us Q I2 r1 r2 q2
end
end L2
namespace L2
open PySem PySem.Spec PyProof.Rows
def MtM (X : Cx) (id : String) (r : V -> List V -> Hp -> VK -> Prop) : Prop :=
 ∀ (pins : List (Addr × Obj)) (s : Shared) (σ : St) (H : Hp) (x : V) (xs : List V) (v : Value) (us : List Value) (Q : VK), Inv X pins σ H s -> RelV x v -> Vals xs us -> r x xs H Q ->
  wpAny (model X.prog X.w) X.A (call (.builtin id) (v :: us)) (EP X pins σ Q) X.xe s
theorem Vals.one : ∀ {x : V} {us : List Value}, Vals [x] us -> ∃ u, us = [u] /\ RelV x u
 | _, _, .cons r .nil => ⟨_, rfl, r⟩
theorem Vals.two : ∀ {x y : V} {us : List Value}, Vals [x, y] us -> ∃ u v, us = [u, v] /\ RelV x u /\ RelV y v
 | _, _, _, .cons r (.cons q .nil) => ⟨_, _, rfl, r, q⟩
theorem Vals.zero : ∀ {us : List Value}, Vals [] us -> us = []
 | _, .nil => rfl
theorem Vals.dropLast {xs : List V} {us : List Value} (h : Vals xs us) : Vals xs.dropLast us.dropLast := by
  induction h with
  | nil => exact .nil
  | cons r t ih =>
    cases t with
    | nil => exact .nil
    | cons q t' => exact .cons r ih
theorem Vals.eraseIdx : ∀ {xs : List V} {us : List Value} (i : Nat), Vals xs us -> Vals (xs.eraseIdx i) (us.eraseIdx i)
 | _, _, _, .nil => .nil
 | _, _, 0, .cons _ t => t
 | _, _, i + 1, .cons r t => .cons r (Vals.eraseIdx i t)
theorem Vals.rep {xs : List V} {us : List Value} (h : Vals xs us) : ∀ k : Nat, Vals (List.replicate k xs).flatten (List.replicate k us).flatten
  | 0 => .nil
  | k + 1 => by
    rw [List.replicate_succ, List.replicate_succ, List.flatten_cons, List.flatten_cons]
    exact Vals.append h (Vals.rep h k)
theorem NM {α : Type} (l : List α) : l.eraseIdx (l.length - 1) = l.dropLast := by
  induction l with
  | nil => rfl
  | cons a r ih =>
    cases r with
    | nil => rfl
    | cons b r =>
      have e : (a :: b :: r).length - 1 = ((b :: r).length - 1) + 1 := by
        have h1 : (a :: b :: r).length = r.length + 2 := rfl
        have h2 : (b :: r).length = r.length + 1 := rfl
        omega
      rw [e, List.eraseIdx_cons_succ, ih]
      all_goals rfl
theorem K2 {α : Type} : ∀ (l : List α) (i : Nat), (l.eraseIdx i).length ≤ l.length
 | [], _ => Nat.le_refl _
 | _ :: _, 0 => Nat.le_succ _
 | _ :: r, i + 1 => Nat.succ_le_succ (K2 r i)
theorem foldl_rep (its : List Value) : ∀ (k : Nat) (acc : List Value),
    List.foldl (fun x1 x2 => x1 ++ x2) acc.toArray (List.replicate k its.toArray) = (acc ++ (List.replicate k its).flatten).toArray
  | 0, acc => by simp
  | k + 1, acc => by
    have e : acc.toArray ++ its.toArray = (acc ++ its).toArray := by simp
    have e2 : (acc ++ its) ++ (List.replicate k its).flatten = acc ++ (List.replicate (k + 1) its).flatten := by
      rw [List.replicate_succ, List.flatten_cons, List.append_assoc]
    rw [← e2, ← foldl_rep its k (acc ++ its), ← e, List.replicate_succ, List.foldl_cons]
section
variable {X : Cx} {pins : List (Addr × Obj)} {σ : St} {H : Hp} {s : Shared} {l b : Addr} {xs ys zs : List V}
theorem Inv.lset {its its' : List Value} {n : Nat} {f : Array Value -> Array Value} {t' : Nat} (I : Inv X pins σ H s) (hH : H l = some (.lst xs))
  (e : s.heap.get? l = some { cls := .type "list", data := .seq its.toArray n }) (hf : f its.toArray = its'.toArray) (hv : Vals ys its') (hz : ys.length ≤ sizeLine) :
  Inv X pins σ (upd H l (.lst ys)) { s with heap := s.heap.update l (Obj.mapSeq f), toks := t' } := by
 have q := PySem.IsL.update e f
 rw [hf] at q
 refine I.write (x := l) (e := l) (by rw [hH]; exact trivial) (.inl rfl) (fun b' u hb hu => (Heap.get?_update_other s.heap (Obj.mapSeq f) (Ne.symm hb)).trans hu) ⟨_, q⟩ ?_
 exact ⟨hz, its', _, hv, q⟩
theorem Inv.lnew {its : List Value} {t' : Nat} (I : Inv X pins σ H s) (hv : Vals ys its) (hz : ys.length ≤ sizeLine) :
  Inv X pins σ (upd H s.heap.objs.size (.lst ys)) { s with heap := s.heap.push { cls := .type "list", data := .seq its.toArray }, toks := t' } :=
 I.laid (fun _ _ q => Heap.get?_push_of_some _ q) (Nat.le_refl _) ⟨hz, its, 0, hv, Heap.get?_push_size _ rfl⟩
theorem Inv.fresh (I : Inv X pins σ H s) : H s.heap.objs.size = none := I.hok.fresh (Nat.le_refl _)
theorem Inv.lstM (I : Inv X pins σ H s) (hH : H l = some (.lst xs)) : xs.length ≤ sizeLine /\ ∃ (its : List Value) (n : Nat), Vals xs its /\ xs.length = its.length /\ s.heap.get? l = some { cls := .type "list", data := .seq its.toArray n } := by
 obtain ⟨z, its, n, r, e⟩ := I.hok l _ hH
 exact ⟨z, its, n, r, r.length, e⟩
theorem RW {n : Nat} (h : n ≤ sizeLine) : Builtin.List.listTooLong n = false := by
 unfold Builtin.List.listTooLong
 exact decide_eq_false (by omega)
end
section
variable {X : Cx}
def TB : V -> List V -> Hp -> VK -> Prop := fun x vs H Q => ∃ l xs y, x = .ref l /\ vs = [y] /\ H l = some (.lst xs) /\ xs.length < sizeLine /\ Q .non (upd H l (.lst (xs ++ [y])))
theorem KZ : MtM X "list.append" TB := by
 intro pins s σ H x vs v us Q I rx rv h
 obtain ⟨l, xs, y, rfl, rfl, hH, hz, q⟩ := h
 cases rx
 obtain ⟨u, rfl, ru⟩ := rv.one
 obtain ⟨z, its, n, r, hl, e⟩ := I.lstM hH
 refine call_meets F.slot_list_append ⟨_, e, rfl⟩ F.entry_list_append (F.args_list_append_2 _ _) (PySem.list_append l its.toArray n u (by rw [List.size_toArray]; omega)) ⟨e, ?_⟩
 refine ⟨.non, _, I.lset (its' := its ++ [u]) hH e (by simp) (r.append (.cons ru .nil)) ?_, rfl, q⟩
 rw [List.length_append, List.length_singleton]
 omega
def Zf : V -> List V -> Hp -> VK -> Prop := fun x vs H Q => ∃ l xs y, x = .ref l /\ vs = [] /\ H l = some (.lst xs) /\ xs[xs.length - 1]? = some y /\ Q y (upd H l (.lst xs.dropLast))
theorem Up : MtM X "list.pop" Zf := by
 intro pins s σ H x vs v us Q I rx rv h
 obtain ⟨l, xs, y, rfl, rfl, hH, hy, q⟩ := h
 cases rx
 have hus := rv.zero
 subst hus
 obtain ⟨z, its, n, r, hl, e⟩ := I.lstM hH
 obtain ⟨u, hu, ru⟩ := r.get hy
 have hy' : its.toArray[its.toArray.size - 1]? = some u := by
  show its.toArray[its.length - 1]? = some u
  rw [← Array.getElem?_toList, ← hl]
  exact hu
 refine call_meets F.slot_list_pop ⟨_, e, rfl⟩ F.entry_list_pop (F.args_list_pop_1 _) (MeetsSeq.list_pop_last l its.toArray n u hy' (by rw [List.size_toArray]; omega)) ⟨e, ?_⟩
 refine ⟨y, _, I.lset (its' := its.dropLast) hH e ?_ r.dropLast ?_, ru, q⟩
 ·show its.toArray.eraseIdxIfInBounds (its.toArray.size - 1) = its.dropLast.toArray
  rw [List.size_toArray, List.eraseIdxIfInBounds_toArray, NM]
 ·rw [List.length_dropLast]
  omega
def Vg : V -> List V -> Hp -> VK -> Prop := fun x vs H Q => ∃ l xs i k y, x = .ref l /\ vs = [.int i] /\ H l = some (.lst xs) /\ -(2 ^ 63) ≤ i /\ i < 2 ^ 63 /\ seqIndex? i xs.length = some k /\ xs[k]? = some y /\ Q y (upd H l (.lst (xs.eraseIdx k)))
theorem Q6 : MtM X "list.pop" Vg := by
 intro pins s σ H x vs v us Q I rx rv h
 obtain ⟨l, xs, i, k, y, rfl, rfl, hH, h1, h2, hk, hy, q⟩ := h
 cases rx
 obtain ⟨u, rfl, ru⟩ := rv.one
 obtain ⟨t, rfl⟩ := ru
 obtain ⟨z, its, n, r, hl, e⟩ := I.lstM hH
 obtain ⟨w, hw, rw'⟩ := r.get hy
 refine call_meets F.slot_list_pop ⟨_, e, rfl⟩ F.entry_list_pop (F.args_list_pop_2 _ _)
  (MeetsSeq.list_pop_at l its.toArray n i t k w (fitsIndex_both h1 h2) (by rw [List.size_toArray, ← hl]; exact hk) (by rw [← Array.getElem?_toList]; exact hw) (by rw [List.size_toArray]; omega)) ⟨e, ?_⟩
 refine ⟨y, _, I.lset (its' := its.eraseIdx k) hH e ?_ (r.eraseIdx k) ?_, rw', q⟩
 ·show its.toArray.eraseIdxIfInBounds k = (its.eraseIdx k).toArray
  rw [List.eraseIdxIfInBounds_toArray]
 ·have := K2 xs k
  omega
def ZW : R2 := fun x y H Q => ∃ l b xs zs, x = .ref l /\ y = .ref b /\ H l = some (.lst xs) /\ H b = some (.lst zs) /\ xs.length + zs.length ≤ sizeLine /\ ∀ p, H p = none -> Q (.ref p) (upd H p (.lst (xs ++ zs)))
theorem VY : OpR X (binaryOp .Add) ZW := by
 intro pins s σ H x y v u Q I rx ry h
 obtain ⟨l, b, xs, zs, rfl, rfl, hH, hB, hz, q⟩ := h
 cases rx
 cases ry
 obtain ⟨z, its, n, r, hl, e⟩ := I.lstM hH
 obtain ⟨z2, its2, n2, r2, hl2, e2⟩ := I.lstM hB
 refine PySem.P.add_list e e2 ?_ (by rw [List.size_toArray, List.size_toArray]; omega)
 have ea : its.toArray ++ its2.toArray = (its ++ its2).toArray := by simp
 rw [ea]
 exact ⟨.ref _, _, I.lnew (t' := s.toks) (r.append r2) (by rw [List.length_append]; omega), rfl, q _ I.fresh⟩
def ZO : R2 := fun x y H Q => ∃ l k xs, x = .ref l /\ y = .int k /\ H l = some (.lst xs) /\ -(2 ^ 63) ≤ k /\ k < 2 ^ 63 /\ xs.length * k.toNat ≤ sizeLine /\
 ∀ p, H p = none -> Q (.ref p) (upd H p (.lst (List.replicate k.toNat xs).flatten))
theorem len_rep {α : Type} (xs : List α) (k : Nat) : (List.replicate k xs).flatten.length = k * xs.length := by
 induction k with
 | zero => simp
 | succ k ih => rw [List.replicate_succ, List.flatten_cons, List.length_append, ih, Nat.succ_mul, Nat.add_comm]
theorem V5 : OpR X (binaryOp .Mult) ZO := by
  intro pins s σ H x y v u Q I rx ry h
  obtain ⟨l, k, xs, rfl, rfl, hH, h1, h2, hz, q⟩ := h
  cases rx
  obtain ⟨t, rfl⟩ := ry
  obtain ⟨z, its, n, r, hl, e⟩ := I.lstM hH
  have hlen : its.toArray.size * k.toNat ≤ sizeLine := by rw [List.size_toArray, ← hl]; exact hz
  have hcap : ¬ its.toArray.size * k.toNat > (2 ^ 63 - 1) / 8 := by
    have : (sizeLine : Nat) ≤ (2 ^ 63 - 1) / 8 := by decide
    omega
  have hfit : ¬ (!Builtin.List.listFitsIndex k) = true := by
    rw [fitsIndex_both h1 h2]
    exact Bool.false_ne_true
  have hlong : ¬ Builtin.List.listTooLong (its.toArray.size * k.toNat) = true := by
    rw [RW hlen]
    exact Bool.false_ne_true
  have hnew : List.foldl (fun x1 x2 => x1 ++ x2) #[] (List.replicate (if its.toArray.isEmpty = true then 0 else k.toNat) its.toArray) = (List.replicate k.toNat its).flatten.toArray := by
    have f0 : ∀ m : Nat, List.foldl (fun x1 x2 => x1 ++ x2) #[] (List.replicate m its.toArray) = (List.replicate m its).flatten.toArray := fun m => by
      have := foldl_rep its m []
      rw [List.nil_append] at this
      exact this
    rw [f0]
    cases its with
    | nil => simp
    | cons a r' => rw [if_neg (by simp)]
  refine wpAny_binaryOp_repeat_ref (T := "list") (U := "int") (by decide) ⟨_, e, rfl⟩ (fun s' => typeIs_int s' k t) noFill_list_mul F.fills_int_mul F.slot_int_rmul repeat_list F.slot_int_index.lookup
    (call_meets F.slot_int_rmul (typeIs_int s k t) F.entry_int_rmul (F.args_int_rmul_2 _ _) (int___rmul___int_list k t l its.toArray n)
      ⟨e, rfl, ⟨_, e, rfl⟩, call_meets F.slot_list_mul ⟨_, e, rfl⟩ F.entry_list_mul (F.args_list_mul_2 _ _) (AutoListH.list___mul___list_int_3 l its.toArray n k t hfit hcap hlong) ⟨e, ?_⟩⟩)
  rw [hnew]
  exact ⟨.ref _, _, I.lnew (t' := s.toks) (r.rep k.toNat) (by rw [len_rep, Nat.mul_comm]; exact hz), rfl, q _ I.fresh⟩
end
section
variable {prog : Program} {w : World} {A : Around} {E : Value -> Shared -> Prop} {s : Shared}
end
section
variable {X : Cx}
end
end L2
namespace Att
open PySem PySem.W PySem.Calls PyProof.Rows
theorem ints_of_wellAll {P : Params} {h : Heap} : ∀ (ns : List Int) (vs : List Value), WellAll P h vs (ns.map WData.int) -> IntsAre vs ns := by
  intro ns
  induction ns with
  | nil =>
    intro vs w
    rw [List.map_nil] at w
    cases w
    exact .nil
  | cons n ns ih =>
    intro vs w
    rw [List.map_cons] at w
    cases w with
    | cons a b =>
      cases a
      exact .cons _ _ (ih _ b)
theorem script_of {l : OpenLaw} {n : Nat} (hn : l.most = some n) {P : Params} {h : Heap} {args : List WData} {vals : List Value}
    (hpre : l.row.toRowW.claim.pre args = true) (hwl : WellAll P h vals args) :
    ∃ a vs ns, vals = [Value.ref a] /\ args = [WData.list (ns.map WData.int)] /\ h.get? a = some { cls := .type "list", data := .seq vs.toArray } /\ IntsAre vs ns /\ ns.length ≤ n := by
  have hsh : WShape.hasAll [] args [.list .int] = true := (pre_splitW hpre).1
  have hc : l.pre.holds [] { args := args } = true := (pre_splitW hpre).2
  obtain ⟨d, r, rfl, h1, h2⟩ := hasAllW_cons hsh
  obtain rfl := hasAllW_nil h2
  obtain ⟨xs, rfl, h3⟩ := hasW_list h1
  obtain ⟨ns, rfl⟩ := items_int h3
  have hlen : ns.length ≤ n := by
    unfold OpenLaw.pre at hc
    have h4 : (WTm.not (.lt (.lit (.int (n : Int))) (.len (.arg 0)))).holds [] { args := [.list (ns.map .int)] } = true := by
      have h4 := (holds_andW hc).1
      rw [hn] at h4
      exact h4
    have h5 := condW_of h4 (w_not (w_lt w_lit (w_len_list (w_arg rfl))))
    rw [List.length_map] at h5
    refine Nat.le_of_not_lt fun q => ?_
    have q' : (n : Int) < ((ns.length : Nat) : Int) := by omega
    first
      | (rw [decide_eq_true q'] at h5; exact absurd h5 (by decide))
      | (simp at h5; omega)
  cases hwl with
  | cons w1 w2 =>
    cases w2
    cases w1 with
    | list ho hall => exact ⟨_, _, ns, rfl, rfl, ho, ints_of_wellAll ns _ hall, hlen⟩
theorem post_true (l : OpenLaw) (args : List WData) : l.row.toRowW.claim.post args (.bool true) args = true :=
 postW_of (r := l.row.toRowW) (X := (true == true))
  (show WShape.has [] (.bool true) .bool = true by first | rfl | decide | simp [WShape.has, WShape.arms, WShape.armsAll])
  (show (WTm.eq .res (.lit (.bool true))).value [] { args := args, res := some (.bool true), after := args } = some (.bool (true == true)) from w_eq_bool (w_res rfl) w_lit) rfl
theorem attach_call {l : OpenLaw} {n : Nat} {q : Program} {loose : List Str} {XP : (Str -> Option Value) -> Heap -> Prop} {YP : World -> Heap -> Prop} {d : DefRec}
  (hn : l.most = some n) (hdf : d.params.defaults = [])
  (call : ∀ (w : World) (s₀ s₁ : Shared) (mg mb : Str -> Option Value) (fa : Addr) (o : Obj) (pm cd doc : Value) (a : Addr) (vs : List Value) (ns : List Int),
   Ground q loose [] XP w s₀ mg mb s₁.heap -> YP w s₁.heap ->
   s₁.heap.get? fa = some o -> o.data = .func (docDef d.name d.params d.body d.scope pm cd doc) -> s₁.heap.CodeRec cd d.name -> mg d.name = some (.ref fa) ->
   s₁.heap.get? a = some { cls := .type "list", data := .seq vs.toArray } -> IntsAre vs ns -> ns.length ≤ n -> s₁.gens = #[] ->
   codeAny (model l.prog w) callerA (.call (.ref fa) ⟨[.ref a], []⟩) (fun r s' => r = .ok (.ret (.bool true)) /\ OldK s₁.heap s'.heap /\ s'.os = s₁.os /\ AllBare s'.gens) s₁) :
  WalkO q loose XP YP l.row.toRowW d [] (fun f vs => PySem.call f vs) := by
 intro w s₀ s₁ mg mb G Y fa o pm cd doc dV kV ho hd hcd hD hmg hg args vals as hpre hlay hrd hwl hlo
 obtain rfl : dV = .none := Dflts.none hD hdf
 obtain rfl : kV = .none := Dflts.noKw hD
 obtain ⟨a, vs, ns, rfl, rfl, hobj, hints, hlen⟩ := script_of hn hpre hwl
 refine enter_call (codeAny_mono (call w s₀ s₁ mg mb fa o pm cd doc a vs ns G Y ho (fd_plain hd) hcd hmg hobj hints hlen hg) fun r s' hq => ?_)
 obtain ⟨rfl, h2, h3, h4⟩ := hq
 exact ⟨.inl ⟨.bool true, .bool true, [], rfl, fun _ => rfl, .bool true, post_true l _, fun _ => ⟨List.Pairwise.nil, fun _ hm => (nomatch hm)⟩⟩, h2, h3, h4⟩
section
variable {prog : Program} {w : World} {A : Around} {E : Value -> Shared -> Prop} {s : Shared} {K : Frag}
end
end Att
namespace L2
open PySem PySem.Spec PyProof.Rows
theorem LF : ∀ {vs : List Value} {ns : List Int}, IntsAre vs ns -> Vals (ns.map V.int) vs
 | _, _, .nil => .nil
 | _, _, .cons n t h => .cons ⟨t, rfl⟩ (LF h)
def X8 (H : Hp) : Prop := ∀ b, H b = none ∨ ∃ o xs, H b = some (.frz o (.lst xs))
theorem Qr {P : Program} {w : World} {K : PySem.W.Frag} {mg mb : Str -> Option Value} {CX : CXT} {k : Nat} {fa a : Addr} {fd : FuncData} {x : Str} {sp : Sp} {s₁ : Shared} {vs : List Value} {ns : List Int}
    (KX : K.In s₁.heap) (hns : s₁.heap.Ns mainGlobals mg) (hb : s₁.heap.Ns builtinsNs mb) (hbb : ∀ x : Str, x ≠ "__name__" -> mb x = bootBuiltins x) (hlim : s₁.heap.NoLimit) (hg : s₁.gens = #[])
    (ha : s₁.heap.get? a = some { cls := .type "list", data := .seq vs.toArray }) (hi : IntsAre vs ns) (hl : ns.length ≤ sizeLine) (hr : Jf k callerA)
    (F : ∀ base : Heap, K.In base -> base.Ns mainGlobals mg -> LH P w K mg base CX k fa fd [x] sp) (hbind : ∀ (s : Shared) (u : Value), BindsTo s fd ⟨[u], []⟩ [(x, u)])
    (hsp : ∀ H : Hp, X8 H -> SqL K H a (ns.map V.int) -> sp [.ref a] H (fun v _ => v = .bl true) fun _ _ _ => False)
    (hCX : ∀ H e s', CX [] H s₁ (fun _ _ _ => False) e s' -> False) :
    codeAny (model P w) callerA (.call (.ref fa) ⟨[.ref a], []⟩) (fun r s' => r = .ok (.ret (.bool true)) /\ OldK s₁.heap s'.heap /\ s'.os = s₁.os /\ AllBare s'.gens) s₁ := by
  have rv := LF hi
  have lenV := hi.length
  have core : ∀ H : Hp, X8 H -> SqL K H a (ns.map V.int) -> HOk P w H s₁.heap -> (∀ b, H b ≠ none -> b = a) -> (H a ≠ none -> K.lookup a = none) ->
      codeAny (model P w) callerA (.call (.ref fa) ⟨[.ref a], []⟩) (fun r s' => r = .ok (.ret (.bool true)) /\ OldK s₁.heap s'.heap /\ s'.os = s₁.os /\ AllBare s'.gens) s₁ := by
    intro H hO hS hok hA hK
    have base_of : ∀ {b : Addr} {o : Obj}, s₁.heap.get? b = some o -> H b = none -> (QS s₁.heap H).get? b = some o := fun e n => Qx e n
    have noA : ∀ {b : Addr} {o : Obj} {es : Array DictEntry} {ep : Nat}, s₁.heap.get? b = some o -> o.data = .dict es ep -> H b = none := fun {b o es ep} e d => by
      cases q : H b with
      | none => rfl
      | some u =>
        have e' : b = a := hA b (by rw [q]; simp)
        subst e'
        rw [ha] at e; cases e
        have d' : Data.seq vs.toArray _ = Data.dict es ep := d
        cases d'
    have nsK : ∀ {b : Addr} {m : Str -> Option Value}, s₁.heap.Ns b m -> (QS s₁.heap H).Ns b m := fun {b m} ⟨o, es, ep, e, d, r⟩ => ⟨o, es, ep, base_of e (noA e d), d, r⟩
    have hKb : K.In (QS s₁.heap H) := fun b o e => base_of (KX b o e) (by
      cases q : H b with
      | none => rfl
      | some u =>
        have e' : b = a := hA b (by rw [q]; simp)
        subst e'
        rw [hK (by rw [q]; simp)] at e; cases e)
    have hM : Mod K mg (QS s₁.heap H) := ⟨hKb, nsK hns, ⟨mb, nsK hb, hbb⟩, let ⟨mc, h1, h2⟩ := hlim; ⟨mc, nsK h1, h2⟩⟩
    have e0 : Wq P w K mg (QS s₁.heap H) callerA [] s₁ H := ⟨rfl, hM, fun b o e => Sy e, Nat.le_of_eq (Og _ _), trivial, fun b hb => absurd (show b ∈ ([] : List Addr) from hb) (by simp), hok, .of_eq hg⟩
    refine codeAny_mono ((F _ hKb (nsK hns)).run callerA [] s₁ H ⟨[.ref a], []⟩ [.ref a] [.ref a] _ _ hr e0 (hbind s₁ (.ref a)) (.cons rfl .nil) (hsp H hO hS)) fun r s' h => ?_
    cases r with
    | error e => exact (hCX H e s' h).elim
    | ok fl =>
      cases fl with
      | next => exact False.elim h
      | brk => exact False.elim h
      | cont => exact False.elim h
      | ret u =>
        obtain ⟨v, H', os, bare, un, hok', r', q⟩ := h
        have q' : v = .bl true := q
        subst q'
        obtain rfl : u = Value.bool true := r'
        refine ⟨rfl, OldK.of_keep fun b o e => ?_, os, bare⟩
        cases q : H b with
        | none => exact un.keep b o e q (by intro z; exact absurd (show b ∈ ([] : List Addr) from z) (by simp)) (by simp)
        | some u =>
          rcases hO b with z | ⟨ob, xs, z⟩
          · rw [q] at z; cases z
          · have z2 := un.frzs b ob _ z
            obtain ⟨e1, _⟩ := hok b _ z
            obtain ⟨e2, _⟩ := hok' b _ z2
            rw [e] at e1; cases e1
            exact e2
  cases hk : K.lookup a with
  | some o =>
    have e := KX a o hk
    rw [ha] at e
    cases e
    refine core (fun _ => none) (fun _ => .inl rfl) (.inr ⟨_, vs.toArray, _, hk, rfl, rfl, rfl, by rw [List.size_toArray, lenV]; exact hl, by simpa using rv⟩) (fun b u z => by have z' : (none : Option HO) = some u := z; cases z') (fun b z => absurd rfl z) fun z => absurd rfl z
  | none =>
    refine core (fun b => if b = a then some (.frz { cls := .type "list", data := .seq vs.toArray } (.lst (ns.map V.int))) else none) (fun b => ?_) (.inl (.inr ⟨{ cls := .type "list", data := .seq vs.toArray }, if_pos rfl⟩)) (fun b u z => ?_) (fun b z => ?_) fun _ => hk
    · by_cases hb : b = a
      · exact .inr ⟨_, _, if_pos hb⟩
      · exact .inl (if_neg hb)
    · by_cases hb : b = a
      · have z' := (if_pos hb).symm.trans z
        cases z'
        subst hb
        exact ⟨ha, by rw [List.length_map]; exact hl, vs, _, rv, ha⟩
      · have z' := (if_neg hb).symm.trans z
        cases z'
    · by_cases hb : b = a
      · exact hb
      · exact absurd (if_neg hb) z
end L2
namespace L2
open PySem PySem.Spec PyProof.Rows
abbrev KOf {K : PySem.W.Frag} {h : Heap} (_ : K.In h) : PySem.W.Frag := K
theorem Sj {l : PySem.W.OpenLaw} {n k : Nat} {q : Program} {loose : List Str} {XP : (Str -> Option Value) -> Heap -> Prop} {YP : World -> Heap -> Prop} {d : DefRec} {K : Params -> PySem.W.Frag} {CX : World -> CXT} {sp : World -> Sp} {x : Str}
  (hn : l.most = some n) (hn2 : n ≤ sizeLine) (hdf : d.params.defaults = []) (hr : Jf k callerA)
  (hY : ∀ (w : World) (h : Heap), YP w h -> (K w.params).In h)
  (F : ∀ (w : World) (mg : Str -> Option Value) (fa : Addr) (h : Heap), (K w.params).In h -> h.Ns mainGlobals mg -> mg d.name = some (.ref fa) ->
   ∃ fd : FuncData, (∀ (s : Shared) (u : Value), BindsTo s fd ⟨[u], []⟩ [(x, u)]) /\
    ∀ base : Heap, (K w.params).In base -> base.Ns mainGlobals mg -> LH l.prog w (K w.params) mg base (CX w) k fa fd [x] (sp w))
  (hsp : ∀ (w : World) (H : Hp) (a : Addr) (ns : List Int), ns.length ≤ n -> X8 H -> SqL (K w.params) H a (ns.map V.int) -> sp w [.ref a] H (fun v _ => v = .bl true) fun _ _ _ => False)
  (hCX : ∀ (w : World) (H : Hp) (s : Shared) (e : Value) (s' : Shared), CX w [] H s (fun _ _ _ => False) e s' -> False) :
  PySem.W.WalkO q loose XP YP l.row.toRowW d [] (fun f vs => PySem.call f vs) := by
 refine Att.attach_call hn hdf fun w s₀ s₁ mg mb fa o pm cd doc a vs ns G Y ho hd hcd hmg hobj hints hlen hg => ?_
 have KX := hY w _ Y
 obtain ⟨fd, hb, hF⟩ := F w mg fa _ KX G.T.g hmg
 exact Qr KX G.T.g G.T.b G.T.builtins G.T.nolimit hg hobj hints (Nat.le_trans hlen hn2) hr hF hb (fun H hO hS => hsp w H a ns hlen hO hS) fun H e s' => hCX w H s₁ e s'
end L2
namespace L2
open PySem PySem.Spec PyProof.Rows
def IE (s : Stmt) : Arguments := match s with
 | .FunctionDef _ a _ _ _ _ _ _ _ _ => a
 | _ => { posonlyargs := [], args := [], vararg := none, kwonlyargs := [], kw_defaults := [], kwarg := none, defaults := [] }
def Es (s : Stmt) : List Stmt := match s with
 | .FunctionDef _ _ b _ _ _ _ _ _ _ => b
 | _ => []
def AG (s : Stmt) : Scope := match s with
 | .FunctionDef _ _ _ _ _ _ sc _ _ _ => sc
 | _ => { kind := .function, names := [], isGenerator := false, isCoroutine := false }
abbrev CX0 : CXT := fun _ _ _ _ _ _ => False
abbrev E0 : XK := fun _ _ _ => False
theorem X7 {X : Cx} : Passes CX0 X E0 := fun _ _ _ _ _ _ _ h => h.elim
structure Fun (K : PySem.W.Frag) (x qual : Str) (st : Stmt) (f : Addr) (fd : FuncData) : Prop where
 ex : ∃ (oc : Value) (od : Option Addr) (kV doc pm : Value) (an : Option Addr) (cdv ct : Value) (osl : Array (Option Value)),
  fd = PySem.W.fnOf x qual (IE st) (Es st) (AG st) .none kV doc pm an cdv ct /\ K.lookup f = some ⟨oc, od, .func fd, osl⟩ /\ PySem.W.codeIn K cdv qual = true
 kp : PySem.W.keepIn K (.ref f) = true
section
variable {P : Program} {w : World} {K : PySem.W.Frag} {mg : Str -> Option Value} {base : Heap}
theorem Fun.ok {x qual : Str} {st : Stmt} {f : Addr} {fd : FuncData} {N ps : List Str} {k : Nat} {sp : Sp} (F : Fun K x qual st f fd) (S : AQ N ps (AG st)) (len : ∀ vs H Q E, sp vs H Q E -> vs.length = ps.length)
  (hbody : ∀ (cdv : Value) (A : Around) (outer : List Env) (s : Shared) (H : Hp) (vs : List V) (Q : VK) (E : XK), Jf k (A.deeper (envOfC qual (AG st) s.heap.objs.size f cdv)) -> sp vs H Q E ->
   ∃ t, PSs (SN CX0 P w K mg base N qual (AG st) f cdv A outer s H E).nox (Es st) t /\ t { nx := fun _ H' => Q .non H', rt := Q } (start N vs) H) : LH P w K mg base CX0 (k + 1) f fd ps sp := by
 obtain ⟨oc, od, kV, doc, pm, an, cdv, ct, osl, rfl, lk, hcd⟩ := F.ex
 refine X1 lk hcd S len fun A outer s H vs Q E hr hsp => ?_
 obtain ⟨t, h, q⟩ := hbody cdv A outer s H vs Q E hr hsp
 exact ⟨t, h.nox, q⟩
theorem Fun.binds {x qual : Str} {st : Stmt} {f : Addr} {fd : FuncData} {ps : List Str} (F : Fun K x qual st f fd)
  (h : ∀ (kV doc pm : Value) (an : Option Addr) (cdv ct : Value) (us : List Value), us.length = ps.length -> bindArgs (PySem.W.fnOf x qual (IE st) (Es st) (AG st) .none kV doc pm an cdv ct) ⟨us, []⟩ = pure (ps.zip us)) : Binds K fd ps [] := by
 obtain ⟨oc, od, kV, doc, pm, an, cdv, ct, osl, rfl, lk, hcd⟩ := F.ex
 exact .all (h kV doc pm an cdv ct)
theorem Vq {x qual : Str} {st : Stmt} {f : Addr} {oc : Value} {od an : Option Addr} {osl : Array (Option Value)} {kV doc pm cdv ct : Value} (l : K.lookup f = some ⟨oc, od, .func (PySem.W.fnOf x qual (IE st) (Es st) (AG st) .none kV doc pm an cdv ct), osl⟩)
  (c : PySem.W.codeIn K cdv qual = true) (k : PySem.W.keepIn K (.ref f) = true) : Fun K x qual st f (PySem.W.fnOf x qual (IE st) (Es st) (AG st) .none kV doc pm an cdv ct) := ⟨⟨oc, od, kV, doc, pm, an, cdv, ct, osl, rfl, l, c⟩, k⟩
end
section
variable {X : Cx}
end
theorem Tt {A B : Prop} (h : B) : if false = true then A else B := by
 rw [if_neg Bool.false_ne_true]
 exact h
theorem Se {A B : Prop} (h : A) : if true = true then A else B := by
 rw [if_pos rfl]
 exact h
def Cw (H H' : Hp) : Prop := ∀ b o, H b = some o -> H' b = some o
end L2
end
section
namespace L2
open PySem PySem.Spec PyProof.Rows
def Em (cells : List (Str × Addr)) : List (Str × NameKind) -> List (Str × Addr) -> List (Str × Addr)
 | [], cs => cs
 | (n, k) :: r, cs => if (k == NameKind.free) = true then Em cells r ((n, (cells.lookup n).getD 0) :: cs) else Em cells r cs
theorem LP {env : Env} : ∀ (names : List (Str × NameKind)) (cs : List (Str × Addr)), (∀ y ∈ names, y.2 = .free -> ∃ a, env.cells.lookup y.1 = some a) ->
    (forIn names cs fun (x : Str × NameKind) r => match x with | (name, kind) => if (kind == NameKind.free) = true then (do let a ← cellOf env name; pure (ForInStep.yield ((name, a) :: r))) else pure (ForInStep.yield r) : Sem (List (Str × Addr))) = pure (Em env.cells names cs)
  | [], cs, _ => by simp [Em]
  | (n, k) :: r, cs, h => by
    rw [List.forIn_cons]
    have ih := fun cs => LP r cs fun y hy => h y (List.mem_cons_of_mem _ hy)
    by_cases hk : (k == NameKind.free) = true
    · obtain ⟨a, ha⟩ := h (n, k) List.mem_cons_self (by simpa using hk)
      have ha' : env.cells.lookup n = some a := ha
      have e : cellOf env n = pure a := by unfold cellOf; rw [ha']
      simp only [hk, if_true, e, pure_bind, Em, ha', Option.getD_some]
      exact ih _
    · simp only [hk, if_false, pure_bind, Em]
      exact ih _
theorem MK {scope : Scope} {env : Env} (h : ∀ y ∈ scope.names, y.2 = .free -> ∃ a, env.cells.lookup y.1 = some a) : closureFor scope env = pure (Em env.cells scope.names []) := by
 unfold closureFor
 have := LP (env := env) scope.names [] h
 simp only [bind_pure] at this ⊢
 exact this
theorem IW {cells : List (Str × Addr)} {x : Str} {c : Addr} : ∀ {names : List (Str × NameKind)} {cs : List (Str × Addr)}, (∀ y ∈ names, y.2 = .free -> ∃ a, cells.lookup y.1 = some a) ->
    (Em cells names cs).lookup x = some c -> cs.lookup x = some c ∨ cells.lookup x = some c
  | [], cs, _, h => .inl h
  | (n, k) :: r, cs, hh, h => by
    have hr : ∀ y ∈ r, y.2 = .free -> ∃ a, cells.lookup y.1 = some a := fun y hy => hh y (List.mem_cons_of_mem _ hy)
    unfold Em at h
    by_cases hk : (k == NameKind.free) = true
    · rw [if_pos hk] at h
      rcases IW hr h with q | q
      · obtain ⟨a, ha⟩ := hh (n, k) List.mem_cons_self (by simpa using hk)
        have ha' : cells.lookup n = some a := ha
        rw [List.lookup_cons] at q
        cases hx : x == n with
        | true =>
          rw [hx, ha'] at q
          have e : x = n := by simpa using hx
          subst e
          cases q
          exact .inr ha'
        | false =>
          rw [hx] at q
          exact .inl q
      · exact .inr q
    · rw [if_neg hk] at h
      exact IW hr h
theorem G4 {cells : List (Str × Addr)} {x : Str} : ∀ {names : List (Str × NameKind)} {cs : List (Str × Addr)}, ((x, NameKind.free) ∈ names ∨ ∃ c, cs.lookup x = some c) -> ∃ c, (Em cells names cs).lookup x = some c
  | [], cs, h => h.elim (fun z => nomatch z) id
  | (n, k) :: r, cs, h => by
    unfold Em
    by_cases hk : (k == NameKind.free) = true
    · rw [if_pos hk]
      refine G4 ?_
      by_cases hx : x = n
      · subst hx
        exact .inr ⟨_, by rw [List.lookup_cons, beq_self_eq_true]⟩
      · rcases h with h | ⟨c, h⟩
        · rcases List.mem_cons.mp h with e | e
          · cases e; exact absurd rfl hx
          · exact .inl e
        · refine .inr ⟨c, ?_⟩
          rw [List.lookup_cons, show (x == n) = false by simpa using hx]
          exact h
    · rw [if_neg hk]
      refine G4 ?_
      rcases h with h | h
      · rcases List.mem_cons.mp h with e | e
        · cases e; exact absurd rfl hk
        · exact .inl e
      · exact .inr h
theorem Hd {env : Env} {x : Str} : ∀ {names : List (Str × NameKind)}, names.lookup x = some .free ->
    (names.map fun (n, k) => if (k == NameKind.free && env.scope.kind == .function && env.kindOf n == some .cell) then (n, NameKind.cell) else (n, k)).lookup x = some .cell ∨
    (names.map fun (n, k) => if (k == NameKind.free && env.scope.kind == .function && env.kindOf n == some .cell) then (n, NameKind.cell) else (n, k)).lookup x = some .free
  | [], h => by simp at h
  | (n, k) :: r, h => by
    have ih := @Hd env x r
    show List.lookup x ((if (k == NameKind.free && env.scope.kind == .function && env.kindOf n == some .cell) = true then (n, NameKind.cell) else (n, k)) :: _) = _ ∨ List.lookup x ((if (k == NameKind.free && env.scope.kind == .function && env.kindOf n == some .cell) = true then (n, NameKind.cell) else (n, k)) :: _) = _
    cases hx : x == n with
    | true =>
      simp only [List.lookup_cons, hx] at h
      cases h
      by_cases hc : (NameKind.free == NameKind.free && env.scope.kind == .function && env.kindOf n == some .cell) = true
      · rw [if_pos hc]; simp only [List.lookup_cons, hx]; exact .inl trivial
      · rw [if_neg hc]; simp only [List.lookup_cons, hx]; exact .inr trivial
    | false =>
      simp only [List.lookup_cons, hx] at h
      by_cases hc : (k == NameKind.free && env.scope.kind == .function && env.kindOf n == some .cell) = true
      · rw [if_pos hc]; simp only [List.lookup_cons, hx]; exact ih h
      · rw [if_neg hc]; simp only [List.lookup_cons, hx]; exact ih h
theorem IL {env : Env} {scope : Scope} {x : Str} {k' : NameKind} (hk : k' = .cell ∨ k' = .free) (h : (relabel scope env).names.lookup x = some k') : (x, NameKind.free) ∈ scope.names ∨ (x, NameKind.cell) ∈ scope.names := by
 have hm := PySem.mem_of_lookup h
 obtain ⟨⟨n, k⟩, hy, e⟩ := List.mem_map.mp (show (x, k') ∈ scope.names.map _ from hm)
 by_cases hc : (k == NameKind.free && env.scope.kind == .function && env.kindOf n == some .cell) = true
 ·simp only [hc, if_true] at e
  cases e
  have : k = .free := by
   have := ((Bool.and_eq_true _ _).mp hc).1
   exact beq_iff_eq.mp ((Bool.and_eq_true _ _).mp this).1
  subst this
  exact .inl hy
 ·simp only [hc, if_false] at e
  cases e
  rcases hk with rfl | rfl
  ·exact .inr hy
  ·exact .inl hy
theorem BX : ∀ (names : List (Str × NameKind)) (n : Nat) (cs : List (Str × Addr)), cellsFrom n names cs = cellsFrom n names [] ++ cs
  | [], _, _ => rfl
  | (x, k) :: r, n, cs => by
    unfold cellsFrom
    split
    · rw [BX r _ ((x, n) :: cs), BX r _ [(x, n)]]; simp
    · exact BX r n cs
theorem Eu {x : Str} {c : Addr} : ∀ {names : List (Str × NameKind)} {n : Nat}, (x, c) ∈ cellsFrom n names [] -> (x, NameKind.cell) ∈ names
  | [], _, h => nomatch h
  | (y, k) :: r, n, h => by
    unfold cellsFrom at h
    split at h
    · rename_i hk
      rw [BX] at h
      rcases List.mem_append.mp h with z | z
      · exact List.mem_cons_of_mem _ (Eu z)
      · have e := List.mem_singleton.mp z
        cases e
        rw [beq_iff_eq.mp hk]
        exact List.mem_cons_self
    · exact List.mem_cons_of_mem _ (Eu h)
theorem HQ {M : Model} {A : Around} {E : Value -> Shared -> Prop} {s : Shared} {scope : Scope} {globals : Addr} {cl : List (Str × Addr)} {qual : Str} {env : Env} {Q : Env -> Shared -> Prop}
  (hQ : ∀ h' : Heap, h'.Ns s.heap.objs.size (fun _ => none) -> (∀ b o, s.heap.get? b = some o -> h'.get? b = some o) -> CellsOk h' (s.heap.objs.size + 1) (cellsFrom (s.heap.objs.size + 1) scope.names []) ->
   Q (newEnv scope s.heap.objs.size globals (cellsFrom (s.heap.objs.size + 1) scope.names cl) qual none .none (some env) builtinsNs) { s with heap := h' }) :
  wpAny M A (newFunctionEnv scope globals cl [] qual none .none (some env)) Q E s := by
 simp only [newFunctionEnv, Option.isSome_some, if_true]
 refine wpAny_bind (wpAny_alloc ?_)
 refine wpAny_bind (wpAny_layCells _ (fun name kind cells => by cases hkc : kind == NameKind.cell <;> simp [hkc]) _ _ _ _ ?_)
 have ok := cellsFrom_ok scope.names (s.heap.push { cls := .type "dict", data := .dict #[] }) (s.heap.objs.size + 1) [] ⟨fun _ _ hm => (nomatch hm), List.Pairwise.nil⟩ (by rw [Heap.size_push]; exact Nat.le_refl _)
 rw [Heap.size_push] at ok
 rw [show ({ s with heap := s.heap.push { cls := .type "dict", data := .dict #[] } } : Shared).heap.objs.size = s.heap.objs.size + 1 from Heap.size_push ..]
 rw [List.forIn_nil]
 refine wpAny_bind (wpAny_pure (wpAny_pure ?_))
 exact hQ _ ((Heap.Ns.new s.heap (.type "dict")).keeps (pushCells_keeps _ _)) (fun b o e => pushCells_keeps _ _ b o (Heap.get?_push_of_some _ e)) ok
end L2
end
section
namespace L2
open PySem PySem.Spec PyProof.Rows
def NH (N : List Str) (osc scope : Scope) : List Str -> List (Option Nat) -> Bool
 | [], [] => true
 | _ :: r, none :: q => NH N osc scope r q
 | x :: r, some i :: q => decide (N[i]? = some x) && (decide (osc.names.lookup x = some .cell) || decide (osc.names.lookup x = some .free)) && decide (scope.names.lookup x = some .free) && NH N osc scope r q
 | _, _ => false
theorem Of {N : List Str} {osc scope : Scope} : ∀ {N' : List Str} {ix : List (Option Nat)}, NH N osc scope N' ix = true -> ix.length = N'.length
  | [], [], _ => rfl
  | _ :: r, none :: q, h => by
    unfold NH at h
    simp [Of h]
  | x :: r, some i :: q, h => by
    unfold NH at h
    have := ((Bool.and_eq_true _ _).mp h).2
    simp [Of this]
  | [], _ :: _, h => by simp [NH] at h
  | _ :: _, [], h => by simp [NH] at h
theorem Tb {N : List Str} {osc scope : Scope} : ∀ {N' : List Str} {ix : List (Option Nat)}, NH N osc scope N' ix = true -> ∀ {j i : Nat} {x : Str}, N'[j]? = some x -> ix[j]? = some (some i) ->
    N[i]? = some x /\ (osc.names.lookup x = some .cell ∨ osc.names.lookup x = some .free) /\ scope.names.lookup x = some .free
  | [], [], _, j, _, _, h, _ => by simp at h
  | _ :: r, none :: q, h, j, i, x, h1, h2 => by
    unfold NH at h
    cases j with
    | zero => simp at h2
    | succ j => exact Tb h (by simpa using h1) (by simpa using h2)
  | y :: r, some k :: q, h, j, i, x, h1, h2 => by
    unfold NH at h
    obtain ⟨ha, hr⟩ := (Bool.and_eq_true _ _).mp h
    obtain ⟨ha, h3⟩ := (Bool.and_eq_true _ _).mp ha
    obtain ⟨h4, h5⟩ := (Bool.and_eq_true _ _).mp ha
    cases j with
    | zero =>
      simp at h1 h2
      subst h1 h2
      refine ⟨of_decide_eq_true h4, ?_, of_decide_eq_true h3⟩
      rcases (Bool.or_eq_true _ _).mp h5 with z | z
      · exact .inl (of_decide_eq_true z)
      · exact .inr (of_decide_eq_true z)
    | succ j => exact Tb hr (by simpa using h1) (by simpa using h2)
  | [], _ :: _, h, _, _, _, _, _ => by simp [NH] at h
  | _ :: _, [], h, _, _, _, _, _ => by simp [NH] at h
structure Ab (N : List Str) (osc : Scope) (N' : List Str) (ix : List (Option Nat)) (scope : Scope) : Prop where
 kind : scope.kind = .function
 cells : ∀ y ∈ scope.names, y.2 = .cell -> scope.names.lookup y.1 = some .cell
 names : ∀ y ∈ scope.names, y.2 = .local -> scope.names.lookup y.1 = some .local
 free : ∀ y ∈ scope.names, y.2 = .free -> (osc.names.lookup y.1 = some .cell ∨ osc.names.lookup y.1 = some .free)
 ok : NH N osc scope N' ix = true
def sig (ix : List (Option Nat)) (σ : St) : St := ix.map fun o => o.bind fun i => (σ[i]?).join
def FP (X : Cx) (N' : List Str) (scope : Scope) (s : Shared) (H : Hp) (fp : List Addr) : Cx where
 prog := X.prog
 w := X.w
 K := X.K
 mg := X.mg
 base := X.base
 A := X.A
 N := N'
 s₀ := s
 H₀ := H
 env := compEnvC scope (cellsFrom (s.heap.objs.size + 1) scope.names (Em X.env.cells scope.names [])) s.heap.objs.size X.env
 outer := X.stack
 stack := X.stack
 ex := fp
 fn := fun x => decide (scope.names.lookup x = some .cell)
 calm := true
 pn := []
 xe := fun _ _ => False
section
variable {X : Cx} {pins : List (Addr × Obj)} {σ : St} {H : Hp} {s : Shared} {N' : List Str} {ix : List (Option Nat)} {scope : Scope} {fp : List Addr}
theorem Inv.cellsOf (I : Inv X pins σ H s) (S : Ab X.N X.env.scope N' ix scope) : ∀ y ∈ scope.names, y.2 = .free -> ∃ a, X.env.cells.lookup y.1 = some a := fun y hy hk => I.ok.has y.1 (S.free y hy hk)
theorem QN (S : Ab X.N X.env.scope N' ix scope) (hc : X.calm = true) (I : Inv X pins σ H s) (hf : ∀ b ∈ fp, Ll X pins H b) (hlt : ∀ b ∈ fp, b < s.heap.objs.size) {h1 : Heap} {m1 : Str -> Option Value} {tk : Nat}
    (hn : h1.Ns s.heap.objs.size m1) (hk : ∀ b o, s.heap.get? b = some o -> h1.get? b = some o) (hC : CellsOk h1 (s.heap.objs.size + 1) (cellsFrom (s.heap.objs.size + 1) scope.names [])) :
    Inv (FP X N' scope s H fp) [] (sig ix σ) H { s with heap := h1, toks := tk } := by
  have hcl := I.cellsOf S
  have sub : ∀ {x : Str} {c : Addr}, (Em X.env.cells scope.names []).lookup x = some c -> X.env.cells.lookup x = some c := fun {x c} h => by
    rcases IW hcl h with z | z
    · simp at z
    · exact z
  have old : ∀ {x : Str} {c : Addr}, X.env.cells.lookup x = some c -> c < s.heap.objs.size := fun {x c} h => by
    obtain ⟨v, oc, ho, _⟩ := I.cell x c h
    exact Heap.lt_size ho
  have look : ∀ {x : Str} {c : Addr}, (cellsFrom (s.heap.objs.size + 1) scope.names (Em X.env.cells scope.names [])).lookup x = some c -> (x, c) ∈ cellsFrom (s.heap.objs.size + 1) scope.names [] ∨ X.env.cells.lookup x = some c := fun {x c} h => by
    rw [BX, List.lookup_append] at h
    cases e : (cellsFrom (s.heap.objs.size + 1) scope.names []).lookup x with
    | some a => rw [e] at h; cases h; exact .inl (PySem.mem_of_lookup e)
    | none => rw [e] at h; exact .inr (sub h)
  refine ⟨⟨I.ok.mod, S.kind, I.ok.glob, I.ok.blt, Nat.le_refl _, fun x y c h1 h2 => ?_, fun x hx => ?_, fun x c hx h => ?_, fun _ => I.ok.hd hc, I.ok.frames, .inl rfl, fun b hb => ?_, I.bs, Nat.le_trans I.ok.bsz I.sz, fun b o e hb => ?_, fun b hb hs => ?_, I.stack, I.stkFree⟩,
    rfl, I.bare, Un.kept hk, ⟨m1, hn, fun j x v h1 h2 h3 => ?_⟩, fun x c h => ?_, I.hok.fresh (Nat.le_refl _), fun x c h => ?_, fun p hp => absurd (show p ∈ ([] : List (Addr × Obj)) from hp) (by simp), I.hok.kept hk, ?_⟩
  · -- inj
    rcases look h1 with a | a <;> rcases look h2 with b | b
    · exact name_of_addr hC.apart a b
    · exact absurd (Nat.lt_of_lt_of_le (old b) (Nat.le_of_succ_le (hC.empty _ _ a).2)) (Nat.lt_irrefl _)
    · exact absurd (Nat.lt_of_lt_of_le (old a) (Nat.le_of_succ_le (hC.empty _ _ b).2)) (Nat.lt_irrefl _)
    · exact I.ok.inj x y c a b
  · -- has
    have hx' : (relabel scope X.env).names.lookup x = some .cell ∨ (relabel scope X.env).names.lookup x = some .free := hx
    show ∃ c, (cellsFrom (s.heap.objs.size + 1) scope.names (Em X.env.cells scope.names [])).lookup x = some c
    rw [BX, List.lookup_append]
    cases e : (cellsFrom (s.heap.objs.size + 1) scope.names []).lookup x with
    | some a => exact ⟨a, rfl⟩
    | none =>
      rcases (hx'.elim (IL (.inl rfl)) (IL (.inr rfl))) with z | z
      · exact G4 (.inl z)
      · obtain ⟨c, hc⟩ := H0 (n := s.heap.objs.size + 1) (S.cells _ z rfl)
        rw [e] at hc; cases hc
  · -- cab
    obtain ⟨c', hc'⟩ := H0 (n := s.heap.objs.size + 1) (of_decide_eq_true hx)
    have h : (cellsFrom (s.heap.objs.size + 1) scope.names (Em X.env.cells scope.names [])).lookup x = some c := h
    rw [BX, List.lookup_append, hc'] at h
    cases h
    exact Nat.le_of_succ_le (hC.empty _ _ (PySem.mem_of_lookup hc')).2
  · -- exf
    refine ⟨Nat.ne_of_lt (hlt b hb), fun x c h => ?_⟩
    rcases look h with a | a
    · exact fun e => absurd (Nat.lt_of_lt_of_le (e ▸ hlt b hb) (Nat.le_of_succ_le (hC.empty _ _ a).2)) (Nat.lt_irrefl _)
    · exact (hf b hb).2.2.2.2.1 x c a
  · -- noex
    rcases (hf b hb).2.2.2.1 with z | z
    · exact I.ok.noex b o e z
    · exact absurd (Nat.lt_of_lt_of_le (Heap.lt_size (I.ok.bs b o e).1) z) (Nat.lt_irrefl _)
  · -- exfs
    rcases List.mem_cons.mp (I.stkSub b hs) with z | z
    · exact (hf b hb).2.1 z
    · exact (hf b hb).2.2.1 z
  · -- loc
    unfold sig at h2
    rw [List.getElem?_map] at h2
    cases e : ix[j]? with
    | none => rw [e] at h2; cases h2
    | some o =>
      rw [e] at h2
      cases o with
      | none => cases h2
      | some i =>
        have h2' : (σ[i]?).join = some v := by simpa using h2
        have h4 : σ[i]? = some (some v) := by
          cases e4 : σ[i]? with
          | none => rw [e4] at h2'; cases h2'
          | some q => rw [e4] at h2'; exact congrArg some h2'
        obtain ⟨q1, q2, q3⟩ := Tb S.ok h1 e
        obtain ⟨m, _, hl⟩ := I.loc
        obtain ⟨u, r, l⟩ := hl i x v q1 h4 (q2.elim (fun z => .inr (.inl z)) fun z => .inr (.inr z))
        refine ⟨u, r, ?_⟩
        rcases l with ⟨l, _⟩ | ⟨_, c, lc, z⟩
        · have l' : X.env.scope.names.lookup x = some .local := l
          rcases q2 with z | z <;> (rw [z] at l'; cases l')
        · refine .inr ⟨Hd q3, ?_⟩
          obtain ⟨c', hc'⟩ := G4 (cells := X.env.cells) (cs := []) (.inl (PySem.mem_of_lookup q3))
          have ec := sub hc'
          rw [lc] at ec
          cases ec
          have no : (cellsFrom (s.heap.objs.size + 1) scope.names []).lookup x = none := by
            cases e : (cellsFrom (s.heap.objs.size + 1) scope.names []).lookup x with
            | none => rfl
            | some a =>
              have q := S.cells _ (Eu (PySem.mem_of_lookup e)) rfl
              rw [q3] at q; cases q
          refine ⟨c, (by show (cellsFrom (s.heap.objs.size + 1) scope.names (Em X.env.cells scope.names [])).lookup x = some c; rw [BX, List.lookup_append, no]; exact hc'), ?_⟩
          obtain ⟨oc, ho, hd⟩ := z
          exact ⟨oc, hk _ _ ho, hd⟩
  · rcases look h with a | a
    · exact ⟨_, (hC.empty _ _ a).1⟩
    · obtain ⟨v, oc, ho, hd⟩ := I.cell x c a
      exact ⟨v, oc, hk _ _ ho, hd⟩
  · rcases look h with a | a
    · exact I.hok.fresh (Nat.le_of_succ_le (hC.empty _ _ a).2)
    · exact I.freeC x c a
  · show (sig ix σ).length = N'.length
    unfold sig
    rw [List.length_map]
    exact Of S.ok
end
end L2
end
section
namespace L2
open PySem PySem.Spec PyProof.Rows
def PTs (X : Cx) (ifs : List Expr) (t : TT) : Prop :=
 ∀ (pins : List (Addr × Obj)) (s : Shared) (σ : St) (H : Hp) (Q : Bool -> Hp -> Prop), Inv X pins σ H s -> t σ H Q ->
  wpAny (model X.prog X.w) X.A (forIn ifs true fun c r => if r = true then do let ok ← isTrue c X.env (eval c X.env); pure (ForInStep.yield ok) else pure (ForInStep.yield r)) (TP X pins σ Q) X.xe s
def X3 : TT := fun _ H Q => Q true H
theorem SV {X : Cx} : PTs X [] X3 := fun _ _ _ H _ I h => wpAny_tests_nil ⟨H, I, h⟩
theorem T4 {X : Cx} {c : Expr} {t : TT} (h : PT X c t) : PTs X [c] t := fun pins s σ H Q I q => wpAny_tests_one (h pins s σ H Q I q)
theorem RK {α : Type} {M : Model} {A : Around} {t : Sem α} {Q : α -> Shared -> Prop} {E : Value -> Shared -> Prop} {s : Shared} (h : wpAny M A t Q (fun _ _ => False) s) : wpAny M A t Q E s := wpAny_mono h (fun _ _ q => q) fun _ _ f => f.elim
def Vu (ix : List (Option Nat)) (g : TG) (tc : TT) (te : TE) (J : It) (σ : St) (H : Hp) (Q : VK) : Prop :=
 ∀ D, H D = none -> ∃ W : Nat -> Nat -> St -> Hp -> List V -> Prop, (∃ m, W 0 m (sig ix σ) (upd H D (.lst [])) []) /\ ∀ i m σ H ys, W i m σ H ys -> H D = some (.lst ys) /\
  ((J.stop i H /\ Q (.ref D) H) ∨ (J.go i H /\ ys.length < sizeLine /\ ∀ x H', J.yld i H x H' -> g x σ H' fun σ2 H2 => tc σ2 H2 fun b H3 =>
   if b = true then te σ2 H3 fun y H4 => H4 D = some (.lst ys) /\ ∃ m', m' < m /\ W (i + 1) m' σ2 (upd H4 D (.lst (ys ++ [y]))) (ys ++ [y]) else ∃ m', m' < m /\ W (i + 1) m' σ2 H3 ys))
def UE (ix : List (Option Nat)) (wi : TI) (g : TG) (tc : TT) (te : TE) : TE := fun σ H Q => wi σ H fun J H1 => Vu ix g tc te J σ H1 Q
section
variable {X : Cx} {pins : List (Addr × Obj)} {σ : St} {s₂ : Shared} {N' : List Str} {ix : List (Option Nat)} {scope : Scope} {elt tg iter : Expr} {ifs : List Expr} {pos : Pos} {g : TG} {tc : TT} {te : TE}
def Block (X : Cx) (N' : List Str) (scope : Scope) (tg : Expr) (ifs : List Expr) (elt : Expr) (g : TG) (tc : TT) (te : TE) : Prop :=
 ∀ (s : Shared) (H : Hp) (fp : List Addr), PG (FP X N' scope s H fp) tg g /\ PTs (FP X N' scope s H fp) ifs tc /\ PE (FP X N' scope s H fp) elt te
theorem Ot {X' : Cx} {it : Addr} {fp : List Addr} {tn : Nat -> Heap -> Prop} {J : It} {D : Addr} {Q : VK} {R : Result -> Shared -> Prop} {W : Nat -> Nat -> St -> Hp -> List V -> Prop} {s : Shared} {e : Env} {n : Nat}
    (he : X'.env = e) (hx : X'.xe = fun _ _ => False) (hcm : X'.calm = true) (T : Turn X'.prog X'.w X'.K tg J fp it tn) (hfp : ∀ H : Hp, (∀ b ∈ fp, H b = none) -> ∀ b ∈ fp, Ll X' [] H b)
    (hg : PG X' tg g) (ht : PTs X' ifs tc) (hb : PE X' elt te)
    (turn : ∀ i m σ H ys, W i m σ H ys -> H D = some (.lst ys) /\
      ((J.stop i H /\ Q (.ref D) H) ∨ (J.go i H /\ ys.length < sizeLine /\ ∀ x H', J.yld i H x H' -> g x σ H' fun σ2 H2 => tc σ2 H2 fun b H3 =>
        if b = true then te σ2 H3 fun y H4 => H4 D = some (.lst ys) /\ ∃ m', m' < m /\ W (i + 1) m' σ2 (upd H4 D (.lst (ys ++ [y]))) (ys ++ [y]) else ∃ m', m' < m /\ W (i + 1) m' σ2 H3 ys)))
    (hR : ∀ s' σ' H', Inv X' [] σ' H' s' -> Q (.ref D) H' -> R (.ok .next) s')
    (h0 : ∃ i σ' H' ys, Inv X' [] σ' H' s /\ tn i s.heap /\ (∀ b ∈ fp, H' b = none) /\ W i n σ' H' ys) :
    codeAny (model X'.prog X'.w) X'.A (.compLoop (.ListComp elt [⟨tg, iter, ifs, 0⟩] scope pos) 0 (.ref it) (.ref D) e) R s := by
  subst he
  refine codeAny_loop rfl (fun n s => ∃ i σ' H' ys, Inv X' [] σ' H' s /\ tn i s.heap /\ (∀ b ∈ fp, H' b = none) /\ W i n σ' H' ys) (fun n s3 hI => ?_) n h0
  show wpAny _ X'.A ((compTurn (.ListComp elt [⟨tg, iter, ifs, 0⟩] scope pos) 0 (.ref it) (.ref D) X'.env).onRaise (fun x => do noteFrame x X'.env; theTreesLotGoes x)) _ _ s3
  refine wpAny_noted (RK ?_)
  rw [compTurn_list]
  obtain ⟨i, σ3, H3, ys, I3, st3, fr3, w3⟩ := hI
  obtain ⟨hD, alt⟩ := turn i n σ3 H3 ys w3
  rcases alt with ⟨stop, q⟩ | ⟨go, hlen, step⟩
  · refine wpAny_bind (wpAny_standAt (wpAny_bind (thn (T.done X' rfl rfl rfl hcm i [] s3 σ3 H3 _ I3 (hfp H3 fr3) st3 stop) fun r s4 ⟨hr, I4⟩ => ?_)))
    subst hr
    exact wpAny_pure (hR s4 σ3 H3 I4 q)
  · refine wpAny_bind (wpAny_standAt (wpAny_bind (thn (T.item X' rfl rfl rfl hcm i [] s3 σ3 H3 _ I3 (hfp H3 fr3) st3 go) fun r s4 ⟨u, hr, h4⟩ => ?_)))
    subst hr
    refine wpAny_bind (thn h4 fun _ s5 ⟨x, H5, I5, r5, y5, st5, fr5⟩ => ?_)
    have I5' := I5.pinned (hfp H5 fr5) (T.obj _ _ st5)
    have hg' := hg _ s5 σ3 H5 x u _ I5' r5 (step x H5 y5)
    rw [hx] at hg'
    refine wpAny_bind (thn hg' fun _ s6 ⟨σ6, H6, I6, q6⟩ => ?_)
    have ht' := ht _ s6 σ6 H6 _ I6 q6
    rw [hx] at ht'
    refine wpAny_bind (thn ht' fun ok s7 ⟨H7, I7, q7⟩ => ?_)
    have again : ∀ {s8 : Shared} {H8 : Hp} {zs : List V} {m' : Nat}, Inv X' ([] ++ LQ fp s5.heap) σ6 H8 s8 -> m' < n -> W (i + 1) m' σ6 H8 zs -> ∃ m, m < n /\ ∃ i σ' H' ys, Inv X' [] σ' H' s8 /\ tn i s8.heap /\ (∀ b ∈ fp, H' b = none) /\ W i m σ' H' ys := fun {s8 H8 zs m'} I8 hm w8 => by
      refine ⟨m', hm, i + 1, σ6, H8, zs, I8.unpinned, T.keep _ _ _ st5 fun b hb o e => (I8.pin (b, o) (List.mem_append_right _ (List.mem_append_right _ (Ft hb e)))).1, fun b hb => ?_, w8⟩
      obtain ⟨o, e, d⟩ := T.obj _ _ st5 b hb
      exact (I8.pin (b, o) (List.mem_append_right _ (List.mem_append_right _ (Ft hb e)))).2.1
    cases ok with
    | false =>
      rw [if_neg (by decide)] at q7
      obtain ⟨m', hm, w7⟩ := q7
      exact wpAny_pure ⟨rfl, again I7 hm w7⟩
    | true =>
      rw [if_pos rfl] at q7
      have hb' := hb _ s7 σ6 H7 _ I7 q7
      rw [hx] at hb'
      refine wpAny_bind (wpAny_bind (thn hb' fun v s8 ⟨y, H8, I8, r8, hD8, m', hm, w8⟩ => ?_))
      have ha := KZ (X := X') _ s8 σ6 H8 (.ref D) [y] (.ref D) [v] (fun _ H9 => H9 = upd H8 D (.lst (ys ++ [y]))) I8 rfl (.cons r8 .nil) ⟨D, ys, y, rfl, rfl, hD8, hlen, rfl⟩
      rw [hx] at ha
      refine wpAny_bind (thn ha fun _ s9 ⟨_, H9, I9, _, e9⟩ => ?_)
      subst e9
      exact wpAny_pure (wpAny_pure ⟨rfl, again I9 hm w8⟩)
theorem Mc (hc : X.calm = true) (S : Ab X.N X.env.scope N' ix scope) (hb : Block X N' scope tg ifs elt g tc te) {it : Addr} {fp : List Addr} {tn : Nat -> Heap -> Prop} {J : It} {H₂ : Hp} {Q : VK} {E : Value -> Shared -> Prop}
  {RR : Value -> Addr -> Result -> Shared -> Prop} (I2 : Inv X pins σ H₂ s₂) (T : Turn X.prog X.w X.K tg J fp it tn) (st2 : tn 0 s₂.heap) (f2 : ∀ b ∈ fp, Ll X pins H₂ b) (hW : Vu ix g tc te J σ H₂ Q)
  (hRR : ∀ D C H' s', Inv X pins σ H' s' -> (∃ m, s'.heap.Ns C m) -> Ll X pins H' C -> Q (.ref D) H' -> RR (.ref D) C (.ok .next) s') :
  wpAny (model X.prog X.w) X.A (newList []) (fun acc s₃ => wpAny (model X.prog X.w) X.A (newFunctionEnv scope X.env.globals (Em X.env.cells scope.names []) [] X.env.qual none .none (some X.env)) (fun cenv s₄ =>
   codeAny (model X.prog X.w) X.A (.compStart (.ListComp elt [⟨tg, iter, ifs, 0⟩] scope pos) 0 (.ref it) acc { cenv with scope := relabel scope X.env }) (RR acc cenv.locals) s₄) E s₃) E s₂ := by
 have hD0 : H₂ s₂.heap.objs.size = none := I2.hok.fresh (Nat.le_refl _)
 have hlt2 : ∀ b ∈ fp, b < s₂.heap.objs.size := fun b hb => by
  obtain ⟨o, e, _⟩ := T.obj _ _ st2 b hb
  exact Heap.lt_size e
 refine wpAny_newObj_type (HQ (fun h₁ hns₁ hsb₁ hcl₁ => ?_))
 have I3 : Inv X pins σ (upd H₂ s₂.heap.objs.size (.lst [])) { s₂ with heap := s₂.heap.push { cls := .type "list", dict := none, data := .seq ([] : List Value).toArray } } :=
  I2.laid (t' := s₂.toks) (fun b u e => Heap.get?_push_of_some _ e) (Nat.le_refl _) ⟨Nat.zero_le _, [], 0, .nil, Heap.get?_push_size _ rfl⟩
 have f3 : ∀ b ∈ fp, Ll X pins (upd H₂ s₂.heap.objs.size (.lst [])) b := fun b hb => ⟨by rw [Ak (Nat.ne_of_lt (hlt2 b hb))]; exact (f2 b hb).1, (f2 b hb).2⟩
 have k3 : ∀ b o, s₂.heap.get? b = some o -> (s₂.heap.push { cls := .type "list", dict := none, data := .seq ([] : List Value).toArray }).get? b = some o := fun b o e => Heap.get?_push_of_some _ e
 dsimp only at hns₁ hsb₁ hcl₁ ⊢
 generalize hs3 : ({ s₂ with heap := s₂.heap.push { cls := .type "list", dict := none, data := .seq ([] : List Value).toArray } } : Shared) = s₃ at I3
 have eh : s₂.heap.push { cls := .type "list", dict := none, data := .seq ([] : List Value).toArray } = s₃.heap := by rw [← hs3]
 have et : s₂.toks = s₃.toks := by rw [← hs3]
 have es : ∀ (h : Heap) (t : Nat), ({ s₂ with heap := h, toks := t } : Shared) = { s₃ with heap := h, toks := t } := fun h t => by rw [← hs3]
 rw [eh] at hns₁ hsb₁ hcl₁ k3 ⊢
 have hlt3 : ∀ b ∈ fp, b < s₃.heap.objs.size := fun b hb => by
  obtain ⟨o, e, _⟩ := T.obj _ _ st2 b hb
  exact Heap.lt_size (k3 b o e)
 have k4 : ∀ b o, s₃.heap.get? b = some o -> h₁.get? b = some o := hsb₁
 obtain ⟨W, ⟨m0, w0⟩, turn⟩ := hW _ hD0
 have I4 : ∀ tk, Inv (FP X N' scope s₃ (upd H₂ s₂.heap.objs.size (.lst [])) fp) [] (sig ix σ) (upd H₂ s₂.heap.objs.size (.lst [])) { s₃ with heap := h₁, toks := tk } := fun tk => QN S hc I3 f3 hlt3 hns₁ k4 hcl₁
 have st4 : tn 0 h₁ := T.keep _ _ _ st2 fun b hb o e => k4 b o (k3 b o e)
 obtain ⟨bg, bt, be⟩ := hb s₃ (upd H₂ s₂.heap.objs.size (.lst [])) fp
 have noX : ∀ (H : Hp), (∀ b ∈ fp, H b = none) -> ∀ b ∈ fp, Ll (FP X N' scope s₃ (upd H₂ s₂.heap.objs.size (.lst [])) fp) [] H b := fun H hn b hb => by
  obtain ⟨_, h2, h3⟩ := f3 b hb
  refine ⟨hn b hb, Nat.ne_of_lt (hlt3 b hb), fun hs => (I4 0).ok.exfs b hb hs, .inl hb, fun x c h => ?_, fun p hp => absurd (show p ∈ ([] : List (Addr × Obj)) from hp) (by simp)⟩
  exact ((I4 0).ok.exf b hb).2 x c h
 have fin : ∀ (s' : Shared) (σ' : St) (H' : Hp), Inv (FP X N' scope s₃ (upd H₂ s₂.heap.objs.size (.lst [])) fp) [] σ' H' s' -> Q (.ref s₂.heap.objs.size) H' -> RR (.ref s₂.heap.objs.size) s₃.heap.objs.size (.ok .next) s' := fun s' σ' H' I' q => by
  refine hRR _ _ H' s' ?_ (let ⟨m, hn, _⟩ := I'.loc; ⟨m, hn⟩) (I3.fpOk (Nat.le_refl _) I'.free) q
  exact I3.call' I'.os I'.base I'.hok I'.bare fun b hb => ⟨(f3 b hb).2.2.2.1, (f3 b hb).2.1, (f3 b hb).2.2.2.2.1, (f3 b hb).2.2.2.2.2⟩
 have loop : ∀ tk, codeAny (model X.prog X.w) X.A (.compLoop (.ListComp elt [⟨tg, iter, ifs, 0⟩] scope pos) 0 (.ref it) (.ref s₂.heap.objs.size) (compEnvC scope (cellsFrom (s₃.heap.objs.size + 1) scope.names (Em X.env.cells scope.names [])) s₃.heap.objs.size X.env)) (RR (.ref s₂.heap.objs.size) s₃.heap.objs.size) { s₃ with heap := h₁, toks := tk } := fun tk =>
  Ot (X' := FP X N' scope s₃ (upd H₂ s₂.heap.objs.size (.lst [])) fp) (D := s₂.heap.objs.size) (Q := Q) (W := W) rfl rfl rfl T noX bg bt be turn fin ⟨0, _, _, _, I4 tk, st4, fun b hb => (f3 b hb).1, w0⟩
 rw [es]
 exact codeAny_compStart_list (loop _) (T.self _ 0 _ _ _ st4 (loop _))
theorem UI {wi : TI} (hc : X.calm = true) (S : Ab X.N X.env.scope N' ix scope) (hi : PI X tg iter wi) (hb : Block X N' scope tg ifs elt g tc te) (hs : ∀ x, foldedSetIterable iter X.env x = pure x := by intro _; rfl) :
  PE X (.ListComp elt [⟨tg, iter, ifs, 0⟩] scope pos) (UE ix wi g tc te) := by
 intro pins s σ H Q I h
 rw [eval_ListComp]
 refine wpAny_comprehension_free (use := none) rfl hs (MK (I.cellsOf S)) S.kind S.names (thn (hi pins s σ H _ I h) fun v s1 h1 => thn h1 fun itv s2 h2 => ?_)
 obtain ⟨it, fp, tn, J, H2, e, I2, T, st2, f2, hW⟩ := h2
 subst e
 refine Mc (RR := fun acc C => compPost (model X.prog X.w) X.A X.xe none (EP X pins σ Q) acc C) hc S hb I2 T st2 f2 hW ?_
 intro D C H' s' I' hm hC q
 obtain ⟨m, hm⟩ := hm
 refine ⟨m, hm, fun h' hs' => ⟨.ref D, H', I'.turned (it := C) (t' := s'.toks) (fun b o hb e => hs'.extBut b o hb e) hC.1 hC.2.1 hC.2.2.2.1 hC.2.2.2.2.1 hC.2.2.2.2.2, rfl, q⟩⟩
end
end L2
end
section
namespace L2
open PySem PySem.Spec PyProof.Rows
section
variable {X : Cx} {N' : List Str} {ix : List (Option Nat)} {scope : Scope} {elt tg iter : Expr} {ifs : List Expr} {pos spos py : Pos} {g : TG} {tc : TT} {te : TE} {wi : TI} {i : Nat} {y : Str}
theorem NS (hc : X.calm = true) (hN : X.N.Nodup) (hi' : X.N[i]? = some y) (hx : X.env.scope.names.lookup y = some .local) (S : Ab X.N X.env.scope N' ix scope) (hi : PI X tg iter wi) (hb : Block X N' scope tg ifs elt g tc te)
  (hsw : swapsWith (.ListComp elt [⟨tg, iter, ifs, 0⟩] scope pos) (some (.Name y py)) spos.line X.env = pure true := by rfl) (hs : ∀ x, foldedSetIterable iter X.env x = pure x := by intro _; rfl) :
  PS X (.Assign [.Name y py] (.ListComp elt [⟨tg, iter, ifs, 0⟩] scope pos) spos) (X4 (UE ix wi g tc te) (Sn i)) := by
 intro pins s σ H D I h
 rw [exec_Assign_Name_used _ _ _ _ hsw]
 refine wpAny_bind (wpAny_standAt (wpAny_bind ?_))
 show wpAny _ X.A (do let _ ← comprehension (.ListComp elt [⟨tg, iter, ifs, 0⟩] scope pos) scope X.env _ (newList []) false (eval iter X.env) (some (assign (.Name y py) X.env))) _ _ s
 refine wpAny_bind (wpAny_mono (wpAny_comprehension_free (use := some (assign (.Name y py) X.env)) (Q := fun _ s' => SP X pins D .next s') rfl hs (MK (I.cellsOf S)) S.kind S.names
  (thn (hi pins s σ H _ I h) fun v s1 h1 => thn h1 fun itv s2 h2 => ?_)) (fun _ s' hq => wpAny_pure (wpAny_pure hq)) fun _ _ e => e)
 obtain ⟨it, fp, tn, J, H2, e, I2, T, st2, f2, hW⟩ := h2
 subst e
 refine Mc (RR := fun acc C => compPost (model X.prog X.w) X.A X.xe (some (assign (.Name y py) X.env)) (fun _ s' => SP X pins D .next s') acc C) hc S hb I2 T st2 f2 hW ?_
 intro L C H' s' I' hm hC q
 obtain ⟨m, hm⟩ := hm
 show wpAny _ X.A (assign (.Name y py) X.env (.ref L)) _ _ _
 refine wpAny_assign_Name (Kx I' hN hi' (.inl hx) (v := .ref L) rfl (fun s'' I'' ⟨a, sb, ha⟩ => ?_) (.inr hx))
 have hCa : C ≠ a := by
  rcases ha with rfl | ha
  ·exact hC.2.1
  ·exact Ne.symm (hC.2.2.2.2.1 y a ha)
 refine ⟨m, hm.sameBut sb hCa, fun h' hs' => ?_⟩
 exact ⟨_, H', I''.turned (it := C) (t' := s''.toks) (fun b o hb e => hs'.extBut b o hb e) hC.1 hC.2.1 hC.2.2.2.1 hC.2.2.2.2.1 hC.2.2.2.2.2, q⟩
end
end L2
end
section
namespace L2
open PySem PySem.Spec PyProof.Rows
section
variable {prog : Program} {w : World} {A : Around} {E : Value -> Shared -> Prop} {s : Shared}
theorem NY {h : Heap} {it t : Addr} {i : Nat} {o : Obj} (ho : h.get? it = some o) (hc : o.cls = .type "tuple_iterator") (hd : o.data = .fields #[.ref t, .int i 0]) {h' : Heap}
  (e : h' = h.update it (fun o => o.mapFields fun a => a.setIfInBounds 1 (rawInt ((i : Int) + 1)))) : h'.IsTupleIter it t (i + 1) := by
 subst e
 have d := Obj.data_mapFields hd fun a => a.setIfInBounds 1 (rawInt ((i : Int) + 1))
 refine ⟨_, Heap.get?_update_self _ ho (Obj.isFreed_of_fields d), ?_, ?_⟩
 ·rw [Obj.cls_mapFields]; exact hc
 ·rw [d]; simp [rawInt]
theorem Qn {it t : Addr} {i : Nat} {items : Array Value} {x : Value} {Q : Value -> Shared -> Prop} (hit : s.heap.IsTupleIter it t i) (ht : s.heap.IsTuple t items) (hx : items[i]? = some x)
  (hQ : ∀ h', h'.IsTupleIter it t (i + 1) -> Heap.SameBut it s.heap h' -> Q x { s with heap := h' }) : wpAny (model prog w) A (Builtin.SmallTypes.nextOf (.ref it)) Q E s := by
 obtain ⟨⟨c, dd, dt, sl⟩, ho, hc, hd⟩ := id hit
 obtain ⟨⟨c2, dd2, dt2, sl2⟩, ho2, hc2, n2, hd2⟩ := id ht
 simp only at hc hd hc2 hd2
 subst hc hd hc2 hd2
 unfold Builtin.SmallTypes.nextOf
 refine wpAny_bind (wpAny_callSpecial?_slot (name := Str.ofString "__next__") hit.typeIs F.slot_tuple_iterator_next (wpAny_call_entry F.slot_tuple_iterator_next hit.typeIs F.entry_tuple_iterator_next ?_ (F.args_tuple_iterator_next_1 _)))
 unfold Builtin.«tuple_iterator.__next__»
 wp_walk using AutoSeq1.wpAny_loadPart' ho, AutoSeq1.wpAny_loadPart' ho2
 have e : items[(i : Int).toNat]? = some x := by rw [Int.toNat_natCast]; exact hx
 rw [e]
 refine wpAny_bind (wpAny_setField ho rfl (by simp) ?_)
 exact wpAny_pure ⟨x, rfl, wpAny_pure (hQ _ (NY ho rfl rfl rfl) (Heap.SameBut.update ..))⟩
theorem RZ {it t : Addr} {i : Nat} {items : Array Value} {Q : Value -> Shared -> Prop} (hh : A.handled = none) (hit : s.heap.IsTupleIter it t i) (ht : s.heap.IsTuple t items) (hx : items[i]? = none)
  (hE : ∀ h' e, Heap.ExtBut it s.heap h' -> (∃ o, h'.get? e = some o /\ o.cls = .type "StopIteration") -> E (.ref e) { s with heap := h' }) : wpAny (model prog w) A (Builtin.SmallTypes.nextOf (.ref it)) Q E s := by
 obtain ⟨⟨c, dd, dt, sl⟩, ho, hc, hd⟩ := id hit
 obtain ⟨⟨c2, dd2, dt2, sl2⟩, ho2, hc2, n2, hd2⟩ := id ht
 simp only at hc hd hc2 hd2
 subst hc hd hc2 hd2
 unfold Builtin.SmallTypes.nextOf
 refine wpAny_bind (wpAny_callSpecial?_slot (name := Str.ofString "__next__") hit.typeIs F.slot_tuple_iterator_next (wpAny_call_entry F.slot_tuple_iterator_next hit.typeIs F.entry_tuple_iterator_next ?_ (F.args_tuple_iterator_next_1 _)))
 unfold Builtin.«tuple_iterator.__next__»
 wp_walk using AutoSeq1.wpAny_loadPart' ho, AutoSeq1.wpAny_loadPart' ho2
 have e : items[(i : Int).toNat]? = none := by rw [Int.toNat_natCast]; exact hx
 rw [e]
 refine wpAny_bind (wpAny_rule (wpAny_bind (wpAny_setField ho rfl (by simp) ?_)))
 have hh1 : A.in1.handled = none := hh
 unfold Builtin.SmallTypes.stopIteration
 simp only [newExc, newTuple, raiseNew]
 wp_walk
 refine hE _ _ ?_ ⟨_, Heap.get?_push_size _ rfl, rfl⟩
 have a := (Heap.SameBut.update (a := it) (h := s.heap) (f := Obj.mapFields fun x => x.setIfInBounds 0 Value.none)).extBut
 exact (a.push _).push _
theorem OK (l : Addr) (items : Array Value) (n : Nat) (dct : Option Addr) (sl : Array (Option Value)) :
  Meets (Builtin.«enumerate.__new__» ⟨[.type "enumerate", .ref l], []⟩) (fun _ R s => s.heap.get? l = some { cls := .type "tuple", dict := dct, data := .seq items n, slots := sl } /\
   R (.ok (.ret (.ref (s.heap.objs.size + 1)))) { s with heap := (s.heap.push { cls := .type "tuple_iterator", data := .fields #[.ref l, .int 0 0] }).push { cls := .type "enumerate", data := .fields #[.none, .bool false, .ref s.heap.objs.size, rawInt 0, .none, .none] } }) :=
 .of_wp fun prog w A R s h => by
  obtain ⟨hp, g, d, tk, os⟩ := s
  obtain ⟨hl, h⟩ := h
  have hsub := sub_enumerate
  have hT : Heap.IsTuple (Shared.heap ⟨hp, g, d, tk, os⟩) l items := ⟨_, hl, rfl, n, rfl⟩
  wp_walk using AutoSeq1.wpAny_loadPart' hl
  refine wpAny_stack_any fun st => wpAny_pure ?_
  split
  ·rename_i c _ _ _ _ _
   cases (c == Value.type "enumerate") <;> (wp_walk using AutoSeq1.wpAny_loadPart' hl, wpAny_pyIter_tuple hT) <;> (refine ⟨_, rfl, ?_⟩; rw [Heap.size_push]; exact h)
  ·wp_walk using AutoSeq1.wpAny_loadPart' hl, wpAny_pyIter_tuple hT
   refine ⟨_, rfl, ?_⟩
   rw [Heap.size_push]
   exact h
theorem Mx {l : Addr} {items : Array Value} {Q : Value -> Shared -> Prop} (hT : s.heap.IsTuple l items)
  (h : ∀ h', IsEnum h' (s.heap.objs.size + 1) s.heap.objs.size 0 .none -> h'.IsTupleIter s.heap.objs.size l 0 -> (∀ b o, s.heap.get? b = some o -> h'.get? b = some o) -> Q (.ref (s.heap.objs.size + 1)) { s with heap := h' }) :
  wpAny (model prog w) A (call (.type "enumerate") [.ref l]) Q E s := by
 obtain ⟨⟨c, dct, dt, sl⟩, hl, hc, n, hd⟩ := hT
 simp only at hc hd
 subst hc hd
 refine callType_new F.called_enumerate (by decide) (F.typeCall_enumerate_1 _) (F.newCall_enumerate_1 _) (fun obj => F.args_object_init_2 obj _) F.entry_enumerate_new (OK l items n dct sl) ⟨hl, ?_⟩
 have z := Heap.get?_push_size (s.heap.push { cls := .type "tuple_iterator", data := .fields #[.ref l, .int 0 0] }) (o := { cls := .type "enumerate", data := .fields #[.none, .bool false, .ref s.heap.objs.size, rawInt 0, .none, .none] }) rfl
 rw [Heap.size_push] at z
 exact ⟨⟨_, z, rfl⟩, h _ z ⟨_, Heap.get?_push_of_some _ (Heap.get?_push_size _ rfl), rfl, rfl⟩ fun b o x => Heap.get?_push_of_some _ (Heap.get?_push_of_some _ x)⟩
end
section
variable {X : Cx}
end
end L2
end
section
namespace L2
open PySem PySem.Spec PyProof.Rows
structure TopD (K : PySem.W.Frag) (w : World) (a : Addr) (kvs : List (Str × V)) : Prop where
 ex : ∃ (es : Array DictEntry) (n : Nat), K.lookup a = some ⟨.type "dict", none, .dict es n, #[]⟩ /\ PySem.W.KeysLit w.params es.toList /\ (a == sysModules) = false /\ ∀ x, W0 (kvs.lookup x) (findBy Value.isStrOf es x)
section
variable {X : Cx}
end
end L2
end
section
namespace L2
open PySem PySem.Spec PyProof.Rows
def SIt (h : Heap) (j l : Addr) (i : Nat) (its : Array Value) : Prop := (h.IsListIter j l i /\ h.IsList l its) ∨ (h.IsTupleIter j l i /\ h.IsTuple l its)
section
variable {prog : Program} {w : World} {A : Around} {E : Value -> Shared -> Prop} {s : Shared} {h h' : Heap} {j l : Addr} {i : Nat} {its : Array Value}
theorem SIt.at (q : SIt h j l i its) (k1 : ∀ o, h.get? j = some o -> h'.get? j = some o) (k2 : ∀ o, h.get? l = some o -> h'.get? l = some o) : SIt h' j l i its := by
 rcases q with ⟨a, b⟩ | ⟨a, b⟩
 ·exact .inl ⟨a.at k1, b.at k2⟩
 ·exact .inr ⟨a.at k1, let ⟨o, e, r⟩ := b; ⟨o, k2 o e, r⟩⟩
theorem SIt.but {c : Addr} (q : SIt h j l i its) (sb : Heap.ExtBut c h h') (n1 : j ≠ c) (n2 : l ≠ c) : SIt h' j l i its := q.at (fun o e => sb _ o n1 e) fun o e => sb _ o n2 e
theorem SIt.live (q : SIt h j l i its) : ∃ o, h.get? j = some o /\ ∀ v, o.data ≠ .cell v := by
 rcases q with ⟨⟨o, a, b, c⟩, _⟩ | ⟨⟨o, a, b, c⟩, _⟩
 ·exact ⟨o, a, fun v z => by rw [c] at z; cases z⟩
 ·exact ⟨o, a, fun v z => by rw [c] at z; cases z⟩
theorem SIt.ne (q : SIt h j l i its) : l ≠ j := by
 rcases q with ⟨⟨o, a, b, _⟩, ⟨o2, a2, b2, _⟩⟩ | ⟨⟨o, a, b, _⟩, ⟨o2, a2, b2, _⟩⟩
 ·intro z; subst z; rw [a] at a2; cases a2; rw [b] at b2; injection b2 with q; exact absurd q (by decide)
 ·intro z; subst z; rw [a] at a2; cases a2; rw [b] at b2; injection b2 with q; exact absurd q (by decide)
theorem Hx {x : Value} {Q : Value -> Shared -> Prop} (q : SIt s.heap j l i its) (hx : its[i]? = some x) (k : ∀ h', SIt h' j l (i + 1) its -> Heap.SameBut j s.heap h' -> Q x { s with heap := h' }) :
  wpAny (model prog w) A (Builtin.SmallTypes.nextOf (.ref j)) Q E s := by
 have n := q.ne
 rcases q with ⟨a, b⟩ | ⟨a, b⟩
 ·exact wpAny_nextOf_list_item a b hx fun h' a' sb => k h' (.inl ⟨a', b.extBut sb.extBut n⟩) sb
 ·exact Qn a b hx fun h' a' sb => k h' (.inr ⟨a', let ⟨o, e, r⟩ := b; ⟨o, sb.extBut _ o n e, r⟩⟩) sb
theorem IA {Q : Value -> Shared -> Prop} (hh : A.handled = none) (q : SIt s.heap j l i its) (hx : its[i]? = none) (k : ∀ h' e, Heap.ExtBut j s.heap h' -> (∃ o, h'.get? e = some o /\ o.cls = .type "StopIteration") -> E (.ref e) { s with heap := h' }) :
  wpAny (model prog w) A (Builtin.SmallTypes.nextOf (.ref j)) Q E s := by
 rcases q with ⟨a, b⟩ | ⟨a, b⟩
 ·exact wpAny_nextOf_list_end hh a b hx k
 ·exact RZ hh a b hx k
theorem ON {z ti tt j1 j2 l1 l2 : Addr} {m : Nat} {xs ys : Array Value} {x y u1 u2 : Value} {Q : Value -> Shared -> Prop} (D : ZipApart z ti tt j1 j2 l1 l2)
  (oz : IsZip s.heap z ti tt .none) (oi : IsPair s.heap ti (.ref j1) (.ref j2)) (ot : IsPair s.heap tt u1 u2) (q1 : SIt s.heap j1 l1 m xs) (q2 : SIt s.heap j2 l2 m ys) (ex : xs[m]? = some x) (ey : ys[m]? = some y)
  (k : ∀ h', IsZip h' z ti tt (rawInt s.heap.objs.size) -> IsPair h' tt x y -> SIt h' j1 l1 (m + 1) xs -> SIt h' j2 l2 (m + 1) ys -> IsPair h' s.heap.objs.size x y ->
   (∀ c o, c ≠ z -> c ≠ tt -> c ≠ j1 -> c ≠ j2 -> s.heap.get? c = some o -> h'.get? c = some o) -> Q (.ref s.heap.objs.size) { s with heap := h' }) :
  wpAny (model prog w) A (Builtin.«zip.__next__» ⟨[.ref z], []⟩) (fun fin s' => ∃ v, fin = .done (.ret v) /\ Q v s') E s := by
 show wpAny _ _ (field (.ref z) 2 >>= _) _ _ _
 refine wpAny_bind (wpAny_field oz rfl (x := .bool false) rfl ?_)
 show wpAny _ _ (field (.ref z) 3 >>= _) _ _ _
 refine wpAny_bind (wpAny_field oz rfl (x := .ref ti) rfl (wpAny_bind (wpAny_seqItems oi rfl ?_)))
 show wpAny _ _ (Builtin.SmallTypes.ownedTupleIsFree (.ref z) >>= _) _ _ _
 refine wpAny_bind ?_
 unfold Builtin.SmallTypes.ownedTupleIsFree
 refine wpAny_bind (wpAny_field oz rfl (x := .none) rfl (wpAny_pure ?_))
 simp only [if_true]
 refine wpAny_bind (wpAny_rule (wpAny_bind (wpAny_field oz rfl (x := .ref tt) rfl (wpAny_bind (wpAny_setField_rec oz (by simp) fun g1 oz1 b1 => ?_)))))
 have oz1 : IsZip g1 z ti tt .ellipsis := oz1
 refine wpAny_bind ?_
 simp only [List.zipIdx_cons, List.zipIdx_nil, List.forIn_cons, List.forIn_nil]
 refine wpAny_bind (wpAny_bind (wpAny_onRaise ?_))
 show wpAny _ _ (Builtin.SmallTypes.nextOf (.ref j1) >>= _) _ _ _
 refine wpAny_bind (Hx (q1.but b1.extBut D.i1z D.l1z) ex fun g2 q12 b2 => wpAny_pure ?_)
 have ot2 : IsPair g2 tt u1 u2 := b2.extBut _ _ D.TOi1 (b1.extBut _ _ D.TOz ot)
 refine wpAny_bind (wpAny_seqItems ot2 rfl (wpAny_bind (wpAny_updateSeq_pair ot2 fun g3 ot3 b3 => ?_)))
 have ot3 : IsPair g3 tt x u2 := ot3
 refine wpAny_bind (wpAny_letGo (wpAny_pure (wpAny_bind (wpAny_bind (wpAny_onRaise ?_)))))
 show wpAny _ _ (Builtin.SmallTypes.nextOf (.ref j2) >>= _) _ _ _
 refine wpAny_bind (Hx (((q2.but b1.extBut D.i2z D.l2z).but b2.extBut D.i12.symm D.l2i1).but b3.extBut D.TOi2.symm D.l2TO) ey fun g4 q24 b4 => wpAny_pure ?_)
 have ot4 : IsPair g4 tt x u2 := b4.extBut _ _ D.TOi2 ot3
 refine wpAny_bind (wpAny_seqItems ot4 rfl (wpAny_bind (wpAny_updateSeq_pair ot4 fun g5 ot5 b5 => ?_)))
 have ot5 : IsPair g5 tt x y := ot5
 refine wpAny_bind (wpAny_letGo (wpAny_pure (wpAny_pure (wpAny_bind (wpAny_seqItems ot5 rfl (wpAny_bind (wpAny_newTuple ?_)))))))
 have sz : g5.objs.size = s.heap.objs.size := by rw [b5.1, b4.1, b3.1, b2.1, b1.1]
 have oz5 : IsZip g5 z ti tt .ellipsis := b5.extBut _ _ D.TOz.symm (b4.extBut _ _ D.i2z.symm (b3.extBut _ _ D.TOz.symm (b2.extBut _ _ D.i1z.symm oz1)))
 have k5 : ∀ c o, c ≠ z -> c ≠ tt -> c ≠ j1 -> c ≠ j2 -> s.heap.get? c = some o -> g5.get? c = some o := fun c o c1 c2 c3 c4 e => b5.extBut _ _ c2 (b4.extBut _ _ c4 (b3.extBut _ _ c2 (b2.extBut _ _ c3 (b1.extBut _ _ c1 e))))
 have q15 : SIt g5 j1 l1 (m + 1) xs := ((q12.but b3.extBut D.TOi1.symm D.l1TO).but b4.extBut D.i12 D.l1i2).but b5.extBut D.TOi1.symm D.l1TO
 have q25 : SIt g5 j2 l2 (m + 1) ys := q24.but b5.extBut D.TOi2.symm D.l2TO
 have zlt : z < g5.objs.size := Heap.lt_size oz5
 show wpAny _ _ (Builtin.SmallTypes.ownedTupleHandOut (.ref z) (.ref g5.objs.size) >>= _) _ _ _
 refine wpAny_bind ?_
 unfold Builtin.SmallTypes.ownedTupleHandOut
 have oz6 : IsZip (g5.push { cls := .type "tuple", data := .seq #[x, y] }) z ti tt .ellipsis := Heap.get?_push_of_some _ oz5
 refine wpAny_bind (wpAny_setField_rec oz6 (by simp) fun g7 oz7 b7 => ?_)
 have oz7 : IsZip g7 z ti tt (rawInt g5.objs.size) := oz7
 refine wpAny_setField_rec oz7 (by simp) fun g8 oz8 b8 => ?_
 have oz8 : IsZip g8 z ti tt (rawInt g5.objs.size) := oz8
 have up : ∀ c o, c ≠ z -> g5.get? c = some o -> g8.get? c = some o := fun c o c1 e => b8.extBut _ _ c1 (b7.extBut _ _ c1 (Heap.get?_push_of_some _ e))
 have op8 : IsPair g8 g5.objs.size x y := b8.extBut _ _ (Nat.ne_of_gt zlt) (b7.extBut _ _ (Nat.ne_of_gt zlt) (Heap.get?_push_size _ rfl))
 rw [sz] at oz8 op8
 refine wpAny_pure ⟨_, rfl, ?_⟩
 show Q (.ref g5.objs.size) _
 rw [sz]
 exact k g8 oz8 (up _ _ D.TOz ot5) (q15.at (fun o e => up _ o D.i1z e) fun o e => up _ o D.l1z e) (q25.at (fun o e => up _ o D.i2z e) fun o e => up _ o D.l2z e) op8 fun c o c1 c2 c3 c4 e => up c o c1 (k5 c o c1 c2 c3 c4 e)
theorem Q2 {z ti tt j1 j2 l1 l2 : Addr} {m : Nat} {xs ys : Array Value} {u1 u2 : Value} {Q : Fin -> Shared -> Prop} (hh : A.handled = none) (D : ZipApart z ti tt j1 j2 l1 l2)
    (oz : IsZip s.heap z ti tt .none) (oi : IsPair s.heap ti (.ref j1) (.ref j2)) (ot : IsPair s.heap tt u1 u2) (q1 : SIt s.heap j1 l1 m xs) (q2 : SIt s.heap j2 l2 m ys) (en : xs[m]? = none ∨ ys[m]? = none)
    (k : ∀ h' e, (∀ c o, c ≠ z -> c ≠ tt -> c ≠ j1 -> c ≠ j2 -> s.heap.get? c = some o -> h'.get? c = some o) -> (∃ o, h'.get? e = some o /\ o.cls = .type "StopIteration") -> E (.ref e) { s with heap := h' }) :
    wpAny (model prog w) A (Builtin.«zip.__next__» ⟨[.ref z], []⟩) Q E s := by
  show wpAny _ _ (field (.ref z) 2 >>= _) _ _ _
  refine wpAny_bind (wpAny_field oz rfl (x := .bool false) rfl ?_)
  show wpAny _ _ (field (.ref z) 3 >>= _) _ _ _
  refine wpAny_bind (wpAny_field oz rfl (x := .ref ti) rfl (wpAny_bind (wpAny_seqItems oi rfl ?_)))
  show wpAny _ _ (Builtin.SmallTypes.ownedTupleIsFree (.ref z) >>= _) _ _ _
  refine wpAny_bind ?_
  unfold Builtin.SmallTypes.ownedTupleIsFree
  refine wpAny_bind (wpAny_field oz rfl (x := .none) rfl (wpAny_pure ?_))
  simp only [if_true]
  refine wpAny_bind (wpAny_rule (wpAny_bind (wpAny_field oz rfl (x := .ref tt) rfl (wpAny_bind (wpAny_setField_rec oz (by simp) fun g1 oz1 b1 => ?_)))))
  have oz1 : IsZip g1 z ti tt .ellipsis := oz1
  refine wpAny_bind ?_
  simp only [List.zipIdx_cons, List.zipIdx_nil, List.forIn_cons, List.forIn_nil]
  refine wpAny_bind (wpAny_bind (wpAny_onRaise ?_))
  show wpAny _ _ (Builtin.SmallTypes.nextOf (.ref j1) >>= _) _ _ _
  cases ex : xs[m]? with
  | none =>
    refine wpAny_bind (IA hh (q1.but b1.extBut D.i1z D.l1z) ex fun g2 e b2 he => ?_)
    obtain ⟨oe, e1, e2⟩ := he
    have oz2 : IsZip g2 z ti tt .ellipsis := b2 _ _ D.i1z.symm oz1
    have nez : e ≠ z := fun x => by subst x; rw [oz2] at e1; cases e1; simp at e2
    exact wpAny_setField_rec oz2 (by simp) fun g3 _ b3 => k g3 e (fun c o c1 _ c3 _ x => b3.extBut _ _ c1 (b2 _ _ c3 (b1.extBut _ _ c1 x))) ⟨oe, b3.extBut _ _ nez e1, e2⟩
  | some x =>
    have ey : ys[m]? = none := by
      rcases en with z | z
      · rw [ex] at z; cases z
      · exact z
    refine wpAny_bind (Hx (q1.but b1.extBut D.i1z D.l1z) ex fun g2 q12 b2 => wpAny_pure ?_)
    have ot2 : IsPair g2 tt u1 u2 := b2.extBut _ _ D.TOi1 (b1.extBut _ _ D.TOz ot)
    refine wpAny_bind (wpAny_seqItems ot2 rfl (wpAny_bind (wpAny_updateSeq_pair ot2 fun g3 ot3 b3 => ?_)))
    refine wpAny_bind (wpAny_letGo (wpAny_pure (wpAny_bind (wpAny_bind (wpAny_onRaise ?_)))))
    show wpAny _ _ (Builtin.SmallTypes.nextOf (.ref j2) >>= _) _ _ _
    refine wpAny_bind (IA hh (((q2.but b1.extBut D.i2z D.l2z).but b2.extBut D.i12.symm D.l2i1).but b3.extBut D.TOi2.symm D.l2TO) ey fun g4 e b4 he => ?_)
    obtain ⟨oe, e1, e2⟩ := he
    have oz4 : IsZip g4 z ti tt .ellipsis := b4 _ _ D.i2z.symm (b3.extBut _ _ D.TOz.symm (b2.extBut _ _ D.i1z.symm oz1))
    have nez : e ≠ z := fun x => by subst x; rw [oz4] at e1; cases e1; simp at e2
    exact wpAny_setField_rec oz4 (by simp) fun g5 _ b5 => k g5 e (fun c o c1 c2 c3 c4 x => b5.extBut _ _ c1 (b4 _ _ c4 (b3.extBut _ _ c2 (b2.extBut _ _ c3 (b1.extBut _ _ c1 x))))) ⟨oe, b5.extBut _ _ nez e1, e2⟩
theorem NQ {z ti tt j1 j2 l1 l2 : Addr} {m : Nat} {xs ys : Array Value} {x y u1 u2 : Value} {Q : Option Value -> Shared -> Prop} (D : ZipApart z ti tt j1 j2 l1 l2)
  (oz : IsZip s.heap z ti tt .none) (oi : IsPair s.heap ti (.ref j1) (.ref j2)) (ot : IsPair s.heap tt u1 u2) (q1 : SIt s.heap j1 l1 m xs) (q2 : SIt s.heap j2 l2 m ys) (ex : xs[m]? = some x) (ey : ys[m]? = some y)
  (k : ∀ h', IsZip h' z ti tt (rawInt s.heap.objs.size) -> IsPair h' tt x y -> SIt h' j1 l1 (m + 1) xs -> SIt h' j2 l2 (m + 1) ys -> IsPair h' s.heap.objs.size x y ->
   (∀ c o, c ≠ z -> c ≠ tt -> c ≠ j1 -> c ≠ j2 -> s.heap.get? c = some o -> h'.get? c = some o) -> Q (some (.ref s.heap.objs.size)) { s with heap := h' }) :
  wpAny (model prog w) A (pyNext (.ref z)) Q E s := by
 have ht : s.TypeIs (.ref z) "zip" := ⟨_, oz, rfl⟩
 unfold pyNext
 exact wpAny_bind (wpAny_attempt (wpAny_callSpecial?_slot (name := Str.ofString "__next__") ht F.slot_zip_next (wpAny_call_entry F.slot_zip_next ht F.entry_zip_next
  (ON D oz oi ot q1 q2 ex ey fun h' a1 a2 a3 a4 a5 a6 => wpAny_pure (k h' a1 a2 a3 a4 a5 a6)) (F.args_zip_next_1 _))))
theorem Ob {z ti tt j1 j2 l1 l2 : Addr} {m : Nat} {xs ys : Array Value} {u1 u2 : Value} {Q : Option Value -> Shared -> Prop} (hh : A.handled = none) (D : ZipApart z ti tt j1 j2 l1 l2)
  (oz : IsZip s.heap z ti tt .none) (oi : IsPair s.heap ti (.ref j1) (.ref j2)) (ot : IsPair s.heap tt u1 u2) (q1 : SIt s.heap j1 l1 m xs) (q2 : SIt s.heap j2 l2 m ys) (en : xs[m]? = none ∨ ys[m]? = none)
  (k : ∀ h', (∀ c o, c ≠ z -> c ≠ tt -> c ≠ j1 -> c ≠ j2 -> s.heap.get? c = some o -> h'.get? c = some o) -> Q none { s with heap := h' }) : wpAny (model prog w) A (pyNext (.ref z)) Q E s := by
 have ht : s.TypeIs (.ref z) "zip" := ⟨_, oz, rfl⟩
 unfold pyNext
 refine wpAny_bind (wpAny_attempt (wpAny_callSpecial?_slot (name := Str.ofString "__next__") ht F.slot_zip_next (wpAny_call_entry F.slot_zip_next ht F.entry_zip_next
  (Q2 hh D oz oi ot q1 q2 en fun h' e kp he => ?_) (F.args_zip_next_1 _))))
 obtain ⟨o, e1, e2⟩ := he
 exact wpAny_bind (wpAny_isInstance (T := "StopIteration") (b := true) ⟨o, e1, e2⟩ isSubtype_stop (wpAny_pure (k _ kp)))
end
end L2
end
section
namespace L2
open PySem PySem.Spec PyProof.Rows
def JK (h : Heap) (b : Bool) (l : Addr) (its : Array Value) : Prop := match b with | true => h.IsTuple l its | false => h.IsList l its
def Uk : Bool -> String | true => "tuple_iterator" | false => "list_iterator"
def zh1 (h : Heap) (b : Bool) (l : Addr) : Heap := h.push { cls := .type (Uk b), data := .fields #[.ref l, .int 0 0] }
def zh2 (h : Heap) (b c : Bool) (l m : Addr) : Heap := zh1 (zh1 h b l) c m
def zh3 (h : Heap) (b c : Bool) (l m : Addr) : Heap := (zh2 h b c l m).push { cls := .type "tuple", data := .seq #[.ref h.objs.size, .ref (zh1 h b l).objs.size] }
def zh4 (h : Heap) (b c : Bool) (l m : Addr) : Heap := (zh3 h b c l m).push { cls := .type "tuple", data := .seq #[.none, .none] }
def zh5 (h : Heap) (b c : Bool) (l m : Addr) : Heap := (zh4 h b c l m).push { cls := .type "zip", data := .fields #[.none, .bool false, .bool false, .ref (zh2 h b c l m).objs.size, .ref (zh3 h b c l m).objs.size] }
theorem JK.push {h : Heap} {b : Bool} {l : Addr} {its : Array Value} (q : JK h b l its) (o : Obj) : JK (h.push o) b l its := by
 cases b
 ·exact Heap.IsList.push q _
 ·obtain ⟨u, e, r⟩ := (show h.IsTuple l its from q)
  exact ⟨u, Heap.get?_push_of_some _ e, r⟩
theorem Qj (b c : Bool) (l m : Addr) (xs ys : Array Value) :
  Meets (Builtin.«zip.__new__» ⟨[.type "zip", .ref l, .ref m], []⟩) (fun _ R s => JK s.heap b l xs /\ JK s.heap c m ys /\ R (.ok (.ret (.ref (zh4 s.heap b c l m).objs.size))) { s with heap := zh5 s.heap b c l m }) :=
 .of_wp fun prog w A R s hyp => by
  obtain ⟨hp, gs, dr, tk, os⟩ := s
  obtain ⟨i1, i2, hyp⟩ := hyp
  have hsub := sub_zip
  have i3 : JK (Shared.heap ⟨zh1 hp b l, gs, dr, tk, os⟩) c m ys := JK.push i2 _
  cases b <;> cases c
  ·have a1 : Heap.IsList (Shared.heap ⟨hp, gs, dr, tk, os⟩) l xs := i1
   have a2 : Heap.IsList (Shared.heap ⟨hp.push { cls := .type "list_iterator", data := .fields #[.ref l, .int 0 0] }, gs, dr, tk, os⟩) m ys := i3
   wp_walk using wpAny_pyIter_list a1, wpAny_pyIter_list a2
   exact ⟨_, rfl, hyp⟩
  ·have a1 : Heap.IsList (Shared.heap ⟨hp, gs, dr, tk, os⟩) l xs := i1
   have a2 : Heap.IsTuple (Shared.heap ⟨hp.push { cls := .type "list_iterator", data := .fields #[.ref l, .int 0 0] }, gs, dr, tk, os⟩) m ys := i3
   wp_walk using wpAny_pyIter_list a1, wpAny_pyIter_tuple a2
   exact ⟨_, rfl, hyp⟩
  ·have a1 : Heap.IsTuple (Shared.heap ⟨hp, gs, dr, tk, os⟩) l xs := i1
   have a2 : Heap.IsList (Shared.heap ⟨hp.push { cls := .type "tuple_iterator", data := .fields #[.ref l, .int 0 0] }, gs, dr, tk, os⟩) m ys := i3
   wp_walk using wpAny_pyIter_tuple a1, wpAny_pyIter_list a2
   exact ⟨_, rfl, hyp⟩
  ·have a1 : Heap.IsTuple (Shared.heap ⟨hp, gs, dr, tk, os⟩) l xs := i1
   have a2 : Heap.IsTuple (Shared.heap ⟨hp.push { cls := .type "tuple_iterator", data := .fields #[.ref l, .int 0 0] }, gs, dr, tk, os⟩) m ys := i3
   wp_walk using wpAny_pyIter_tuple a1, wpAny_pyIter_tuple a2
   exact ⟨_, rfl, hyp⟩
section
variable {prog : Program} {w : World} {A : Around} {E : Value -> Shared -> Prop} {s : Shared}
theorem Ru {h h' : Heap} {b : Bool} {l j : Addr} {its : Array Value} (q : JK h b l its) (k : ∀ c o, h.get? c = some o -> h'.get? c = some o) (e : h'.get? j = some { cls := .type (Uk b), data := .fields #[.ref l, .int 0 0] }) : SIt h' j l 0 its := by
 cases b
 ·exact .inl ⟨⟨_, e, rfl, rfl⟩, (show h.IsList l its from q).at fun o z => k _ o z⟩
 ·exact .inr ⟨⟨_, e, rfl, rfl⟩, let ⟨o, z, r⟩ := (show h.IsTuple l its from q); ⟨o, k _ o z, r⟩⟩
theorem PY {b c : Bool} {l m : Addr} {xs ys : Array Value} {Q : Value -> Shared -> Prop} (i1 : JK s.heap b l xs) (i2 : JK s.heap c m ys)
  (k : ∀ h', IsZip h' (s.heap.objs.size + 4) (s.heap.objs.size + 2) (s.heap.objs.size + 3) .none -> IsPair h' (s.heap.objs.size + 2) (.ref s.heap.objs.size) (.ref (s.heap.objs.size + 1)) ->
   IsPair h' (s.heap.objs.size + 3) .none .none -> SIt h' s.heap.objs.size l 0 xs -> SIt h' (s.heap.objs.size + 1) m 0 ys -> (∀ c o, s.heap.get? c = some o -> h'.get? c = some o) -> Q (.ref (s.heap.objs.size + 4)) { s with heap := h' }) :
  wpAny (model prog w) A (call (.type "zip") [.ref l, .ref m]) Q E s := by
 refine callType_new F.called_zip (by decide) (F.typeCall_zip_2 _ _) (F.newCall_zip_2 _ _) (fun obj => F.args_object_init_3 obj _ _) F.entry_zip_new (Qj b c l m xs ys) ⟨i1, i2, ?_⟩
 have z1 : (zh1 s.heap b l).objs.size = s.heap.objs.size + 1 := Heap.size_push ..
 have z2 : (zh2 s.heap b c l m).objs.size = s.heap.objs.size + 2 := by unfold zh2 zh1; rw [Heap.size_push]; exact congrArg (· + 1) z1
 have z3 : (zh3 s.heap b c l m).objs.size = s.heap.objs.size + 3 := by unfold zh3; rw [Heap.size_push, z2]
 have z4 : (zh4 s.heap b c l m).objs.size = s.heap.objs.size + 4 := by unfold zh4; rw [Heap.size_push, z3]
 have kp : ∀ d o, s.heap.get? d = some o -> (zh5 s.heap b c l m).get? d = some o := fun d o e => by
  unfold zh5 zh4 zh3 zh2 zh1
  exact Heap.get?_push_of_some _ (Heap.get?_push_of_some _ (Heap.get?_push_of_some _ (Heap.get?_push_of_some _ (Heap.get?_push_of_some _ e))))
 have g5 : (zh5 s.heap b c l m).get? (zh4 s.heap b c l m).objs.size = some _ := Heap.get?_push_size _ rfl
 have g4 : (zh5 s.heap b c l m).get? (zh3 s.heap b c l m).objs.size = some _ := Heap.get?_push_of_some _ (Heap.get?_push_size _ rfl)
 have g3 : (zh5 s.heap b c l m).get? (zh2 s.heap b c l m).objs.size = some _ := Heap.get?_push_of_some _ (Heap.get?_push_of_some _ (Heap.get?_push_size _ rfl))
 have g2 : (zh5 s.heap b c l m).get? (zh1 s.heap b l).objs.size = some _ := Heap.get?_push_of_some _ (Heap.get?_push_of_some _ (Heap.get?_push_of_some _ (Heap.get?_push_size _ rfl)))
 have g1 : (zh5 s.heap b c l m).get? s.heap.objs.size = some _ := Heap.get?_push_of_some _ (Heap.get?_push_of_some _ (Heap.get?_push_of_some _ (Heap.get?_push_of_some _ (Heap.get?_push_size _ rfl))))
 show _ /\ _
 rw [z2, z3, z4] at g5
 rw [z1, z2] at g3
 rw [z3] at g4
 rw [z1] at g2
 rw [z4]
 exact ⟨⟨_, g5, rfl⟩, k _ g5 g3 g4 (Ru i1 kp g1) (Ru i2 kp g2) kp⟩
end
end L2
end
section
namespace L2
open PySem PySem.Spec PyProof.Rows
def SqB (K : PySem.W.Frag) (H : Hp) (k : Bool) (a : Addr) (xs : List V) : Prop := match k with | true => SqT K H a xs | false => SqL K H a xs
def JIt (h : Heap) (k : Bool) (j l : Addr) (i : Nat) : Prop := match k with | true => h.IsTupleIter j l i | false => h.IsListIter j l i
theorem JIt.at {h h' : Heap} {k : Bool} {j l : Addr} {i : Nat} (q : JIt h k j l i) (e : ∀ o, h.get? j = some o -> h'.get? j = some o) : JIt h' k j l i := by
 cases k
 ·exact Heap.IsListIter.at q e
 ·exact Heap.IsTupleIter.at q e
theorem JIt.sit {h : Heap} {k : Bool} {j l : Addr} {i : Nat} {its : Array Value} (q : JIt h k j l i) (p : JK h k l its) : SIt h j l i its := by
 cases k
 ·exact .inl ⟨q, p⟩
 ·exact .inr ⟨q, p⟩
theorem SIt.jit {h : Heap} {k : Bool} {j l : Addr} {i : Nat} {its : Array Value} (q : SIt h j l i its) (p : JK h k l its) : JIt h k j l i := by
 rcases q with ⟨q, r⟩ | ⟨q, r⟩
 ·cases k
  ·exact q
  ·obtain ⟨o, e, c, _⟩ := r; obtain ⟨o', e', c', _⟩ := (show h.IsTuple l its from p)
   rw [e] at e'; cases e'; rw [c] at c'; injection c' with z; exact absurd z (by decide)
 ·cases k
  ·obtain ⟨o, e, c, _⟩ := r; obtain ⟨o', e', c', _⟩ := (show h.IsList l its from p)
   rw [e] at e'; cases e'; rw [c] at c'; injection c' with z; exact absurd z (by decide)
  ·exact q
theorem Inv.sqB {X : Cx} {pins : List (Addr × Obj)} {σ : St} {H : Hp} {s : Shared} {k : Bool} {a : Addr} {xs : List V} (I : Inv X pins σ H s) (h : SqB X.K H k a xs) : ∃ its : List Value, Vals xs its /\ JK s.heap k a its.toArray := by
 cases k
 ·obtain ⟨its, h1, ⟨o, n, q1, q2, _, q3⟩, h3⟩ := I.list h
  exact ⟨its, h1, o, q1, q2, n, q3⟩
 ·obtain ⟨its, h1, h2, h3⟩ := I.tuple h
  exact ⟨its, h1, h2⟩
theorem Inv.sqB_inj {X : Cx} {pins : List (Addr × Obj)} {σ : St} {H : Hp} {s : Shared} {k : Bool} {a : Addr} {xs ys : List V} (I : Inv X pins σ H s) (h : SqB X.K H k a xs) (g : SqB X.K H k a ys) : xs = ys := by
 cases k
 ·exact I.list_inj h g
 ·exact I.tuple_inj h g
def Itz (K : PySem.W.Frag) (k : Bool) (a : Addr) (m : Bool) (b : Addr) : It :=
  ⟨fun i H => ∃ (xs ys : List V) (x y : V), SqB K H k a xs /\ SqB K H m b ys /\ xs[i]? = some x /\ ys[i]? = some y,
   fun i H v H' => ∃ (p : Addr) (x y : V), H p = none /\ v = .ref p /\ (∀ xs, SqB K H k a xs -> xs[i]? = some x) /\ (∀ ys, SqB K H m b ys -> ys[i]? = some y) /\ H' = upd H p (.tup [x, y]),
   fun i H => ∃ (xs ys : List V), SqB K H k a xs /\ SqB K H m b ys /\ (xs.length ≤ i ∨ ys.length ≤ i)⟩
structure ZSt (h : Heap) (z ti tt j1 j2 : Addr) (k : Bool) (a : Addr) (m : Bool) (b : Addr) (i : Nat) : Prop where
 oz : IsZip h z ti tt .none
 oi : IsPair h ti (.ref j1) (.ref j2)
 ot : ∃ u v, IsPair h tt u v
 q1 : JIt h k j1 a i
 q2 : JIt h m j2 b i
structure ZNe (z ti tt j1 j2 : Addr) : Prop where
 n1 : ti ≠ z
 n2 : tt ≠ z
 n3 : j1 ≠ z
 n4 : j2 ≠ z
 n5 : ti ≠ tt
 n6 : ti ≠ j1
 n7 : ti ≠ j2
 n8 : tt ≠ j1
 n9 : tt ≠ j2
 n10 : j1 ≠ j2
theorem ZNe.apart {z ti tt j1 j2 a b : Addr} (N : ZNe z ti tt j1 j2) (ha : a ∉ [z, tt, j1, j2]) (hb : b ∉ [z, tt, j1, j2]) : ZipApart z ti tt j1 j2 a b := by
 simp only [List.mem_cons, List.not_mem_nil, or_false, not_or] at ha hb
 exact ⟨N.n1, N.n2, N.n3, N.n4, N.n5, N.n6, N.n7, N.n8, N.n9, N.n10, ha.1, ha.2.1, ha.2.2.1, ha.2.2.2, hb.1, hb.2.1, hb.2.2.1, hb.2.2.2⟩
theorem BF {X : Cx} {pins : List (Addr × Obj)} {σ : St} {H : Hp} {s : Shared} {k : Bool} {a c : Addr} {xs : List V} (I : Inv X pins σ H s) (q : SqB X.K H k a xs) (f : Ll X pins H c) : a ≠ c := by
 intro e
 subst e
 have rd : ∀ o, Rd H a o -> False := fun o r => by
  rcases r with r | ⟨_, r⟩ <;> (rw [f.1] at r; cases r)
 have kk : ∀ o, X.K.lookup a = some o -> False := fun o hk => by
  have b := I.ok.mod.kin a o hk
  rcases f.2.2.2.1 with z | z
  ·exact I.ok.noex a o b z
  ·exact absurd (Nat.lt_of_lt_of_le (Heap.lt_size (I.ok.bs a o b).1) z) (Nat.lt_irrefl _)
 cases k
 ·rcases (show SqL X.K H a xs from q) with q | ⟨o, _, _, hk, _⟩
  ·exact rd _ q
  ·exact kk o hk
 ·rcases (show SqT X.K H a xs from q) with q | ⟨o, _, _, hk, _⟩
  ·exact rd _ q
  ·exact kk o hk
theorem QV {P : Program} {w : World} {K : PySem.W.Frag} {elts : List Expr} {n : Nat} {pos : Pos} (k : Bool) (a : Addr) (m : Bool) (b : Addr) (z ti tt j1 j2 : Addr) (N : ZNe z ti tt j1 j2) :
  Turn P w K (.Tuple elts n pos) (Itz K k a m b) [z, ti, tt, j1, j2] z (fun i h => ZSt h z ti tt j1 j2 k a m b i) where
 mem := by simp
 obj := fun i h st c hc => by
  have jl : ∀ {q : Bool} {j l : Addr}, JIt h q j l i -> ∃ o, h.get? j = some o /\ ∀ v, o.data ≠ .cell v := fun {q j l} x => by
   cases q
   ·obtain ⟨o, e, _, d⟩ := (show h.IsListIter j l i from x)
    exact ⟨o, e, fun v z => by rw [d] at z; cases z⟩
   ·obtain ⟨o, e, _, d⟩ := (show h.IsTupleIter j l i from x)
    exact ⟨o, e, fun v z => by rw [d] at z; cases z⟩
  simp only [List.mem_cons, List.not_mem_nil, or_false] at hc
  rcases hc with rfl | rfl | rfl | rfl | rfl
  ·exact ⟨_, st.oz, fun v z => nomatch z⟩
  ·exact ⟨_, st.oi, fun v z => nomatch z⟩
  ·obtain ⟨u, v, e⟩ := st.ot
   exact ⟨_, e, fun v z => nomatch z⟩
  ·exact jl st.q1
  ·exact jl st.q2
 keep := fun i h h' st kp => ⟨kp z (by simp) _ st.oz, kp ti (by simp) _ st.oi, let ⟨u, v, e⟩ := st.ot; ⟨u, v, kp tt (by simp) _ e⟩, st.q1.at fun o e => kp j1 (by simp) o e, st.q2.at fun o e => kp j2 (by simp) o e⟩
 item := by
  intro X hP hw hK hc i pins s σ H E I hf st hg
  subst hP hw hK
  obtain ⟨xs, ys, x, y, s1, s2, e1, e2⟩ := hg
  obtain ⟨i1, r1, p1⟩ := I.sqB s1
  obtain ⟨i2, r2, p2⟩ := I.sqB s2
  obtain ⟨u1, h1, ru1⟩ := r1.get e1
  obtain ⟨u2, h2, ru2⟩ := r2.get e2
  have fz := hf z (by simp); have fi := hf ti (by simp); have ft := hf tt (by simp); have f1 := hf j1 (by simp); have f2 := hf j2 (by simp)
  have ap := N.apart (a := a) (b := b) (by simp [BF I s1 fz, BF I s1 ft, BF I s1 f1, BF I s1 f2]) (by simp [BF I s2 fz, BF I s2 ft, BF I s2 f1, BF I s2 f2])
  obtain ⟨v1, v2, ot⟩ := st.ot
  refine NQ ap st.oz st.oi ot (st.q1.sit p1) (st.q2.sit p2) (x := u1) (y := u2) (by simpa using h1) (by simpa using h2) fun h' oz ot' q1 q2 op kp => ⟨_, rfl, wpAny_letOwnedTupleGo_zip oz fun g oz' sb => ?_⟩
  have lt : ∀ c o, s.heap.get? c = some o -> c ≠ s.heap.objs.size := fun c o q => Nat.ne_of_lt (Heap.lt_size q)
  have nz : z ≠ s.heap.objs.size := lt _ _ st.oz
  have nt : tt ≠ s.heap.objs.size := lt _ _ ot
  have n1 : j1 ≠ s.heap.objs.size := by obtain ⟨o, e, _⟩ := (st.q1.sit p1).live; exact lt _ _ e
  have n2 : j2 ≠ s.heap.objs.size := by obtain ⟨o, e, _⟩ := (st.q2.sit p2).live; exact lt _ _ e
  have kp2 : ∀ c o, c ≠ z -> c ≠ tt -> c ≠ j1 -> c ≠ j2 -> s.heap.get? c = some o -> g.get? c = some o := fun c o c1 c2 c3 c4 q => (sb.2 c c1).trans (kp c o c1 c2 c3 c4 q)
  have fr : H s.heap.objs.size = none := I.hok.fresh (Nat.le_refl _)
  have op2 : g.get? s.heap.objs.size = some { cls := .type "tuple", data := .seq #[u1, u2] } := (sb.2 _ (Ne.symm nz)).trans op
  have ne : ∀ c u, c ∈ [z, ti, tt, j1, j2] -> ∀ d, H d = some u -> d ≠ c := fun c u hc d q e => by rw [e, (hf c hc).1] at q; cases q
  have kpH : ∀ c u, H c = some u -> ∀ o, s.heap.get? c = some o -> g.get? c = some o := fun c u q o e => kp2 c o (ne z u (by simp) c q) (ne tt u (by simp) c q) (ne j1 u (by simp) c q) (ne j2 u (by simp) c q) e
  have ka : ∀ o, s.heap.get? a = some o -> g.get? a = some o := fun o e => kp2 a o (BF I s1 fz) (BF I s1 ft) (BF I s1 f1) (BF I s1 f2) e
  have kb : ∀ o, s.heap.get? b = some o -> g.get? b = some o := fun o e => kp2 b o (BF I s2 fz) (BF I s2 ft) (BF I s2 f1) (BF I s2 f2) e
  have sq : ∀ {q : Bool} {d : Addr} {is : Array Value}, JK s.heap q d is -> (∀ o, s.heap.get? d = some o -> h'.get? d = some o) -> JK h' q d is := fun {q d is} x kd => by
   cases q
   ·exact (show s.heap.IsList d is from x).at kd
   ·obtain ⟨o, e, r⟩ := (show s.heap.IsTuple d is from x)
    exact ⟨o, kd o e, r⟩
  have ka1 : ∀ o, s.heap.get? a = some o -> h'.get? a = some o := fun o e => kp a o (BF I s1 fz) (BF I s1 ft) (BF I s1 f1) (BF I s1 f2) e
  have kb1 : ∀ o, s.heap.get? b = some o -> h'.get? b = some o := fun o e => kp b o (BF I s2 fz) (BF I s2 ft) (BF I s2 f1) (BF I s2 f2) e
  refine ⟨.ref s.heap.objs.size, upd H s.heap.objs.size (.tup [x, y]), ?_, rfl, ⟨_, x, y, fr, rfl, fun zs hz => by rw [I.sqB_inj hz s1]; exact e1, fun zs hz => by rw [I.sqB_inj hz s2]; exact e2, rfl⟩, ⟨oz', (sb.2 _ N.n1).trans (kp ti _ N.n1 N.n5 N.n6 N.n7 st.oi), ⟨_, _, (sb.2 _ N.n2).trans ot'⟩, (q1.jit (sq p1 ka1)).at fun o e => (sb.2 _ N.n3).trans e, (q2.jit (sq p2 kb1)).at fun o e => (sb.2 _ N.n4).trans e⟩, ?_⟩
  ·show Inv X pins σ _ { s with heap := g, gens := s.gens, drawn := s.drawn, toks := s.toks }
   refine I.step (g' := s.gens) (d' := s.drawn) (ch := [z, tt, j1, j2]) ?_ ?_ ?_ ?_ ?_ ?_ ?_ ?_ ?_ ?_ I.bare
   ·intro c hc
    have q : Ll X pins H c := hf c (by simp only [List.mem_cons, List.not_mem_nil, or_false] at hc ⊢; rcases hc with z | z | z | z <;> simp [z])
    exact ⟨q.2.2.2.1, q.2.1, q.2.2.2.2.1, q.2.2.2.2.2⟩
   ·exact fun c o _ _ hc q _ => by
     simp only [List.mem_cons, List.not_mem_nil, or_false, not_or] at hc
     exact kp2 c o hc.1 hc.2.1 hc.2.2.1 hc.2.2.2 q
   ·exact fun c o _ _ hc q _ => by
     simp only [List.mem_cons, List.not_mem_nil, or_false, not_or] at hc
     exact ⟨o.slots, kp2 c o hc.1 hc.2.1 hc.2.2.1 hc.2.2.2 q⟩
   ·exact fun c o _ q n => by rw [Ak (lt c o q)]; exact n
   ·exact fun c o hc q => by
     simp only [List.mem_cons, List.not_mem_nil, or_false, not_or] at hc
     exact ⟨o, kp2 c o hc.1 hc.2.1 hc.2.2.1 hc.2.2.2 q⟩
   ·exact fun c ys q => by rw [Ak (A7 q fr)]; exact q
   ·exact fun c o u q => by rw [Ak (A7 q fr)]; exact q
   ·exact fun c ps q => ⟨#[], by rw [Ak (A7 q fr), q]; simp⟩
   ·rintro mm ⟨o, es, ep, ho, r⟩
    exact ⟨o, es, ep, kp2 _ o (Ne.symm fz.2.1) (Ne.symm ft.2.1) (Ne.symm f1.2.1) (Ne.symm f2.2.1) ho, r⟩
   ·intro c v q
    by_cases hb : c = s.heap.objs.size
    ·subst hb
     rw [Bb] at q
     cases q
     exact ⟨by show 2 ≤ sizeLine; decide, [u1, u2], .cons ru1 (.cons ru2 .nil), ⟨_, op2, rfl, 0, rfl⟩⟩
    ·rw [Ak hb] at q
     refine (I.hok c v q).stay (fun d o hd r => ?_) (fun d r => by rw [Ak (A7 r fr)]; exact r) (fun d ys r => by rw [Ak (A7 r fr)]; exact r)
     rcases hd with e | e
     ·rw [e] at r ⊢; exact kpH c v q o r
     ·exact kpH d _ e o r
  ·intro c hc
   have q := hf c hc
   have : c ≠ s.heap.objs.size := by
    simp only [List.mem_cons, List.not_mem_nil, or_false] at hc
    rcases hc with e | e | e | e | e
    ·rw [e]; exact nz
    ·rw [e]; exact lt _ _ st.oi
    ·rw [e]; exact nt
    ·rw [e]; exact n1
    ·rw [e]; exact n2
   rw [Ak this]; exact q.1
 done := by
  intro X hP hw hK hc i pins s σ H E I hf st hg
  subst hP hw hK
  obtain ⟨xs, ys, s1, s2, e⟩ := hg
  obtain ⟨i1, r1, p1⟩ := I.sqB s1
  obtain ⟨i2, r2, p2⟩ := I.sqB s2
  have l1 := r1.length
  have l2 := r2.length
  have hh : X.A.in1.handled = none := I.ok.hd hc
  have hh0 : X.A.handled = none := I.ok.hd hc
  have fz := hf z (by simp); have fi := hf ti (by simp); have ft := hf tt (by simp); have f1 := hf j1 (by simp); have f2 := hf j2 (by simp)
  have ap := N.apart (a := a) (b := b) (by simp [BF I s1 fz, BF I s1 ft, BF I s1 f1, BF I s1 f2]) (by simp [BF I s2 fz, BF I s2 ft, BF I s2 f1, BF I s2 f2])
  obtain ⟨v1, v2, ot⟩ := st.ot
  refine Ob hh0 ap st.oz st.oi ot (st.q1.sit p1) (st.q2.sit p2) (by rcases e with e | e; exact .inl (by simp; omega); exact .inr (by simp; omega)) fun h' kp => ⟨rfl, ?_⟩
  have ne : ∀ c u, c ∈ [z, ti, tt, j1, j2] -> ∀ d, H d = some u -> d ≠ c := fun c u hc d q e => by rw [e, (hf c hc).1] at q; cases q
  show Inv X pins σ _ { s with heap := h', gens := s.gens, drawn := s.drawn, toks := s.toks }
  refine I.step (g' := s.gens) (d' := s.drawn) (ch := [z, tt, j1, j2]) ?_ ?_ ?_ ?_ ?_ ?_ ?_ ?_ ?_ ?_ I.bare
  ·intro c hc
   have q : Ll X pins H c := hf c (by simp only [List.mem_cons, List.not_mem_nil, or_false] at hc ⊢; rcases hc with z | z | z | z <;> simp [z])
   exact ⟨q.2.2.2.1, q.2.1, q.2.2.2.2.1, q.2.2.2.2.2⟩
  ·exact fun c o _ _ hc q _ => by
    simp only [List.mem_cons, List.not_mem_nil, or_false, not_or] at hc
    exact kp c o hc.1 hc.2.1 hc.2.2.1 hc.2.2.2 q
  ·exact fun c o _ _ hc q _ => by
    simp only [List.mem_cons, List.not_mem_nil, or_false, not_or] at hc
    exact ⟨o.slots, kp c o hc.1 hc.2.1 hc.2.2.1 hc.2.2.2 q⟩
  ·exact fun c o _ q n => n
  ·exact fun c o hc q => by
    simp only [List.mem_cons, List.not_mem_nil, or_false, not_or] at hc
    exact ⟨o, kp c o hc.1 hc.2.1 hc.2.2.1 hc.2.2.2 q⟩
  ·exact fun c ys q => q
  ·exact fun c o u q => q
  ·exact fun c ps q => ⟨#[], by rw [q]; simp⟩
  ·rintro mm ⟨o, es, ep, ho, r⟩
   exact ⟨o, es, ep, kp _ o (Ne.symm fz.2.1) (Ne.symm ft.2.1) (Ne.symm f1.2.1) (Ne.symm f2.2.1) ho, r⟩
  ·intro c v q
   refine (I.hok c v q).stay (fun d o hd r => ?_) (fun d r => r) (fun d ys r => r)
   rcases hd with e | e
   ·rw [e] at r ⊢; exact kp c o (ne z v (by simp) c q) (ne tt v (by simp) c q) (ne j1 v (by simp) c q) (ne j2 v (by simp) c q) r
   ·exact kp d o (ne z _ (by simp) d e) (ne tt _ (by simp) d e) (ne j1 _ (by simp) d e) (ne j2 _ (by simp) d e) r
 self := fun _ _ _ _ _ st h => wpAny_pyIter_zip st.oz h
end L2
end
section
namespace L2
open PySem PySem.Spec PyProof.Rows
theorem zne (n : Nat) : ZNe (n + 4) (n + 2) (n + 3) n (n + 1) := ⟨fun e => by have : n + 2 = n + 4 := e; omega, fun e => by have : n + 3 = n + 4 := e; omega, fun e => by have : n = n + 4 := e; omega, fun e => by have : n + 1 = n + 4 := e; omega, fun e => by have : n + 2 = n + 3 := e; omega, fun e => by have : n + 2 = n := e; omega, fun e => by have : n + 2 = n + 1 := e; omega, fun e => by have : n + 3 = n := e; omega, fun e => by have : n + 3 = n + 1 := e; omega, fun e => by have : n = n + 1 := e; omega⟩
section
variable {X : Cx}
def ZN (K : PySem.W.Frag) (ta : TA) : TI := fun σ H R => ta σ H fun vs H1 => ∃ k a m b, vs = [.ref a, .ref b] /\ (∃ xs, SqB K H1 k a xs) /\ (∃ ys, SqB K H1 m b ys) /\ R (Itz K k a m b) H1
theorem Uy {a b : Expr} {ta : TA} {p pos tp : Pos} {elts : List Expr} {n : Nat} (hg : Gl X "zip") (hm : X.mg "zip" = none) (ha : PA X [a, b] ta) (hs : starEach [a, b] X.env = [(false, eval a X.env), (false, eval b X.env)] := by rfl) (hs2 : starEach [b] X.env = [(false, eval b X.env)] := by rfl) :
  PI X (.Tuple elts n tp) (.Call (.Name "zip" p) [a, b] [] pos) (ZN X.K ta) := by
 intro pins s σ H R I h
 refine Call_ (Hr I hg hm boot_zip (PyProof.Rows.callWith_type1 (thn (ha pos pins s σ H _ I h) fun us s1 ⟨vs, H1, I1, r1, q1⟩ => ?_) (by rw [hs, hs2]) (by rw [hs2]; rfl)))
 obtain ⟨k, a', m, b', e, ⟨xs, hq⟩, ⟨ys, hr⟩, q⟩ := q1
 subst e
 obtain ⟨u, v, rfl, ru, rv⟩ := r1.two
 cases (show u = Value.ref a' from ru)
 cases (show v = Value.ref b' from rv)
 obtain ⟨i1, v1, p1⟩ := I1.sqB hq
 obtain ⟨i2, v2, p2⟩ := I1.sqB hr
 refine PY p1 p2 fun h' oz oi ot q1 q2 kp => wpAny_pyIter_zip (s := { s1 with heap := h' }) oz ?_
 have sq : ∀ {q : Bool} {d : Addr} {is : Array Value}, JK s1.heap q d is -> JK h' q d is := fun {q d is} x => by
  cases q
  ·exact (show s1.heap.IsList d is from x).at fun o e => kp _ o e
  ·obtain ⟨o, e, r⟩ := (show s1.heap.IsTuple d is from x)
   exact ⟨o, kp _ o e, r⟩
 refine ⟨s1.heap.objs.size + 4, [s1.heap.objs.size + 4, s1.heap.objs.size + 2, s1.heap.objs.size + 3, s1.heap.objs.size, s1.heap.objs.size + 1], _, _, H1, rfl, I1.kept (t' := s1.toks) kp,
  QV k a' m b' _ _ _ _ _ (zne s1.heap.objs.size), ⟨oz, oi, ⟨_, _, ot⟩, q1.jit (sq p1), q2.jit (sq p2)⟩, fun c hc => ?_, q⟩
 simp only [List.mem_cons, List.not_mem_nil, or_false] at hc
 have : s1.heap.objs.size ≤ c := by rcases hc with rfl | rfl | rfl | rfl | rfl <;> first | exact Nat.le_refl _ | exact Nat.le_add_right _ _
 exact I1.fpOk this (I1.hok.fresh this)
end
end L2
end
section
namespace L2
open PySem PySem.Spec PyProof.Rows
section
variable {prog : Program} {w : World} {A : Around} {E : Value -> Shared -> Prop} {s : Shared}
theorem IsList.at_ext {h h' : Heap} {a : Addr} {items : Array Value} (p : h.IsList a items) (k : ∀ o, h.get? a = some o -> h'.get? a = some o) : h'.IsList a items := by
 obtain ⟨o, ho, r⟩ := p
 exact ⟨o, k o ho, r⟩
theorem K7 {it t : Addr} {items : Array Value} (hne : t ≠ it) : ∀ (n i : Nat) (s : Shared) (Q : List Value -> Shared -> Prop), s.heap.IsListIter it t i -> s.heap.IsList t items -> i + n ≤ items.size ->
    (∀ h', h'.IsListIter it t (i + n) -> Heap.SameBut it s.heap h' -> Q ((items.toList.drop i).take n) { s with heap := h' }) -> wpAny (model prog w) A (draw (.ref it) n) Q E s
  | 0, i, s, Q, hit, _, _, hQ => by
    show wpAny _ _ (pure []) Q E s
    exact wpAny_pure (by simpa using hQ s.heap hit (Heap.SameBut.refl ..))
  | n + 1, i, s, Q, hit, ht, hle, hQ => by
    have hlt : i < items.size := by omega
    show wpAny _ _ (pyNext (.ref it) >>= _) Q E s
    refine wpAny_bind (wpAny_pyNext_list_item hit ht (x := items[i]) (by simp [hlt]) fun h1 hit1 hs1 => ?_)
    refine wpAny_bind (wpAny_holding (K7 hne n (i + 1) _ _ hit1 (IsList.at_ext ht fun o e => hs1.extBut t o hne e) (by omega) fun h2 hit2 hs2 => wpAny_pure ?_))
    have hd : items.toList.drop i = items[i] :: items.toList.drop (i + 1) := by simp [List.drop_eq_getElem_cons, hlt]
    have := hQ h2 (by rw [show i + (n + 1) = i + 1 + n by omega]; exact hit2) (hs1.trans hs2)
    rw [hd, List.take_succ_cons] at this
    exact this
theorem Ht {t : Addr} {items : Array Value} {Q : List Value -> Shared -> Prop} (hh : A.handled = none) (ht : s.heap.IsList t items) (hty : s.TypeIs (.ref t) "list")
  (hQ : ∀ h', Heap.ExtBut s.heap.objs.size s.heap h' -> Q items.toList { s with heap := h' }) : wpAny (model prog w) A (unpackItems (.ref t) items.size none) Q E s := by
 have hlt : t ≠ s.heap.objs.size := by obtain ⟨o, ho, _⟩ := ht; exact Nat.ne_of_lt (Heap.lt_size ho)
 unfold unpackItems
 refine wpAny_bind ?_
 ·unfold notIterableAtAll
  refine wpAny_bind (wpAny_specialOf hty F.slot_list_iter.lookup ?_)
  refine wpAny_pure ?_
  simp only [Bool.false_eq_true, if_false]
  refine wpAny_bind (wpAny_holding (wpAny_pyIter_list ht ?_))
  refine wpAny_bind (wpAny_holding (K7 hlt items.size 0 _ _ ⟨_, Heap.get?_push_size _ rfl, rfl, rfl⟩ (IsList.at_ext ht fun o e => Heap.get?_push_of_some _ e) (by omega) fun h1 hit1 hs1 => ?_))
  have hall : List.take items.size (List.drop 0 items.toList) = items.toList := by
   rw [List.drop_zero]; exact List.take_of_length_le (by simp)
  rw [hall]
  rw [if_neg (by simp)]
  have ht1 : h1.IsList t items := IsList.at_ext (IsList.at_ext ht fun o e => Heap.get?_push_of_some _ e) fun o e => hs1.extBut t o hlt e
  refine wpAny_bind (wpAny_holding (wpAny_pyNext_list_end hh hit1 ht1 (by simp) fun h2 he2 => ?_))
  simp only [Option.isSome_none, Bool.false_eq_true, if_false]
  refine wpAny_pure (hQ h2 fun b o hb e => he2 b o hb (hs1.extBut b o hb (Heap.get?_push_of_some _ e)))
theorem HP {env : Env} {elts : List Expr} {x1} {pos : Pos} {t : Addr} {items : Array Value} {Q : Unit -> Shared -> Prop} (hh : A.handled = none) (ht : s.heap.IsList t items) (hty : s.TypeIs (.ref t) "list")
  (hn : (assignEach elts env).length = items.size) (hstar : (assignEach elts env).findIdx? (·.1) = none)
  (h : ∀ h', Heap.ExtBut s.heap.objs.size s.heap h' -> wpAny (model prog w) A (assignInOrder ((assignEach elts env).map (·.2)) items.toList) Q E { s with heap := h' }) :
  wpAny (model prog w) A (assign (.Tuple elts x1 pos) env (.ref t)) Q E s := by
 rw [PyProof.Rows.assign_Tuple]
 refine wpAny_bind (wpAny_standAt ?_)
 unfold unpack
 rw [hn, hstar]
 exact wpAny_bind (wpAny_holding (Ht hh ht hty h))
end
section
variable {X : Cx} {pos : Pos}
def Zk (K : PySem.W.Frag) (n : Nat) (t : TGs) : TG := fun v σ H Q => ∃ a xs, v = .ref a /\ (SqT K H a xs ∨ H a = some (.lst xs)) /\ xs.length = n /\ t xs σ H Q
theorem VP {es : List Expr} {k : Nat} {t : TGs} {n : Nat} (hc : X.calm = true) (h : PGs X es t)
  (hn : (assignEach es X.env).length = n := by rfl) (hst : (assignEach es X.env).findIdx? (·.1) = none := by rfl) : PG X (.Tuple es k pos) (Zk X.K n t) := by
 intro pins s σ H v u Q I r hw
 obtain ⟨a, xs, e1, hq, hl, hw⟩ := hw
 rcases hq with hq | hq
 ·exact Vi hc h hn hst pins s σ H v u Q I r ⟨a, xs, e1, hq, hl, hw⟩
 ·subst e1
  cases r
  obtain ⟨its, rv, p, hz⟩ := I.list (SqL.of hq)
  obtain ⟨z, its2, m, rv2, _, e⟩ := I.lstM hq
  refine HP (I.ok.hd hc) p.isList ⟨_, e, rfl⟩ (by simp [hn, ← hl, rv.length]) hst fun h' hx => ?_
  have I1 : Inv X pins σ H { s with heap := h' } := I.kept (t' := s.toks) fun b o e => hx b o (Nat.ne_of_lt (Heap.lt_size e)) e
  exact h pins _ σ H xs _ Q I1 (by simpa using rv) hw
end
end L2
end
section
namespace L2
open PySem PySem.Spec PyProof.Rows
theorem JIt.live {h : Heap} {k : Bool} {j l : Addr} {i : Nat} (q : JIt h k j l i) : ∃ o, h.get? j = some o /\ ∀ v, o.data ≠ .cell v := by
 cases k with
 | true => obtain ⟨o, e, c, d⟩ := q; exact ⟨o, e, fun v z => by rw [d] at z; cases z⟩
 | false => obtain ⟨o, e, c, d⟩ := q; exact ⟨o, e, fun v z => by rw [d] at z; cases z⟩
theorem JK.mono {h h' : Heap} {k : Bool} {l : Addr} {its : Array Value} (q : JK h k l its) (e : ∀ o, h.get? l = some o -> h'.get? l = some o) : JK h' k l its := by
 cases k with
 | true => obtain ⟨o, ho, r⟩ := q; exact ⟨o, e o ho, r⟩
 | false => obtain ⟨o, ho, r⟩ := q; exact ⟨o, e o ho, r⟩
theorem Oj {prog : Program} {w : World} {A : Around} (hh : A.handled = none) (it t : Addr) (hne : t ≠ it) (items : Array Value) :
  Draws prog w A it [it, t] items.size (fun i v => items[i]? = some v) (fun i h => SIt h it t i items) where
 live := fun _ _ st => let ⟨o, ho, _⟩ := st.live; ⟨o, ho⟩
 frame := fun _ _ _ st hk => st.at (fun o e => hk it (by simp) o e) fun o e => hk t (by simp) o e
 item := fun i s Q E hi st hQ => Hx st (x := items[i]) (by simp [hi]) fun h' a b => hQ _ h' s.toks (by simp [hi]) a b
 done := fun s Q E st hE => IA hh st (by simp) hE
def ItE (K : PySem.W.Frag) (kk : Bool) (a : Addr) : It :=
 ⟨fun i H => ∃ xs x, SqB K H kk a xs /\ xs[i]? = some x, fun i H x H' => ∃ p y, H p = none /\ x = .ref p /\ (∀ xs, SqB K H kk a xs -> xs[i]? = some y) /\ H' = upd H p (.tup [.int i, y]), fun i H => ∃ xs, SqB K H kk a xs /\ xs.length ≤ i⟩
theorem NK {P : Program} {w : World} {K : PySem.W.Frag} {elts : List Expr} {k : Nat} {pos : Pos} (kk : Bool) (a e it : Addr) (hei : e ≠ it) : Turn P w K (.Tuple elts k pos) (ItE K kk a) [e, it] e (fun i h => (∃ old, IsEnum h e it i old) /\ JIt h kk it a i) where
  mem := by simp
  obj := fun i h st b hb => by
    obtain ⟨⟨old, h1⟩, st2⟩ := st
    obtain ⟨o, h2, h4⟩ := st2.live
    simp only [List.mem_cons, List.not_mem_nil, or_false] at hb
    rcases hb with rfl | rfl
    · exact ⟨_, h1, fun v z => nomatch z⟩
    · exact ⟨o, h2, h4⟩
  keep := fun i h h' st k => by
    obtain ⟨⟨old, h1⟩, h2⟩ := st
    exact ⟨⟨old, k e (by simp) _ h1⟩, h2.at fun o q => k it (by simp) o q⟩
  item := by
    intro X hP hw hK hc i pins s σ H E I hf st hg
    subst hP hw hK
    obtain ⟨xs, x, hq, hx⟩ := hg
    obtain ⟨its, rv, p⟩ := I.sqB hq
    obtain ⟨u, hu, ru⟩ := rv.get hx
    obtain ⟨⟨old, h1⟩, h2⟩ := st
    obtain ⟨oi, hi1, hi2⟩ := h2.live
    have hea : a ≠ e := BF I hq (hf e (by simp))
    have hia : a ≠ it := BF I hq (hf it (by simp))
    have hil : i < its.toArray.size := by
      have := (List.getElem?_eq_some_iff.mp hu).1
      simpa using this
    have hh : X.A.in1.handled = none := I.ok.hd hc
    have D := Oj (prog := X.prog) (w := X.w) hh it a hia its.toArray
    refine wpAny_pyNext_enum_itemD D h1 (h2.sit p) hil hei (by simp [hei, Ne.symm hea]) ?_
    intro y h' tk hy out st' tup size kept
    have ey : y = u := by
      have : its[i]? = some y := by simpa using hy
      rw [hu] at this
      exact (Option.some.inj this).symm
    subst ey
    refine ⟨_, rfl, wpAny_letOwnedTupleGo_enum out fun h'' en sb => ?_⟩
    have hfe := hf e (by simp)
    have hfi := hf it (by simp)
    have lt : ∀ b o, s.heap.get? b = some o -> b ≠ s.heap.objs.size := fun b o q => Nat.ne_of_lt (Heap.lt_size q)
    have kept2 : ∀ b o, b ≠ e -> b ≠ it -> s.heap.get? b = some o -> h''.get? b = some o := fun b o b1 b2 q => (sb.2 b b1).trans (kept b o b1 b2 q)
    have fr : H s.heap.objs.size = none := I.hok.fresh (Nat.le_refl _)
    have tup2 : h''.get? s.heap.objs.size = some { cls := .type "tuple", data := .seq #[.int i tk, y] } := (sb.2 _ (Ne.symm (lt e _ h1))).trans tup
    have ne1 : ∀ b u, H b = some u -> b ≠ e := fun b u q z => by rw [z, hfe.1] at q; cases q
    have ne2 : ∀ b u, H b = some u -> b ≠ it := fun b u q z => by rw [z, hfi.1] at q; cases q
    refine ⟨.ref s.heap.objs.size, upd H s.heap.objs.size (.tup [.int i, x]), ?_, rfl, ⟨_, x, fr, rfl, fun ys hys => by rw [I.sqB_inj hys hq]; exact hx, rfl⟩, ⟨⟨y, en⟩, ?_⟩, ?_⟩
    · show Inv X pins σ _ { s with heap := h'', gens := s.gens, drawn := s.drawn, toks := tk + 1 }
      refine I.step (g' := s.gens) (d' := s.drawn) (ch := [e, it]) ?_ ?_ ?_ ?_ ?_ ?_ ?_ ?_ ?_ ?_ I.bare
      · intro b hb
        simp only [List.mem_cons, List.not_mem_nil, or_false] at hb
        rcases hb with rfl | rfl
        · exact ⟨hfe.2.2.2.1, hfe.2.1, hfe.2.2.2.2.1, hfe.2.2.2.2.2⟩
        · exact ⟨hfi.2.2.2.1, hfi.2.1, hfi.2.2.2.2.1, hfi.2.2.2.2.2⟩
      · exact fun b o _ _ hc q _ => kept2 b o (fun z => hc (by simp [z])) (fun z => hc (by simp [z])) q
      · exact fun b o _ _ hc q _ => ⟨o.slots, kept2 b o (fun z => hc (by simp [z])) (fun z => hc (by simp [z])) q⟩
      · exact fun b o _ q n => by rw [Ak (lt b o q)]; exact n
      · exact fun b o hc q => ⟨o, kept2 b o (fun z => hc (by simp [z])) (fun z => hc (by simp [z])) q⟩
      · exact fun b ys q => by rw [Ak (A7 q fr)]; exact q
      · exact fun b o u q => by rw [Ak (A7 q fr)]; exact q
      · exact fun b ps q => ⟨#[], by rw [Ak (A7 q fr), q]; simp⟩
      · rintro m ⟨o, es, ep, ho, r⟩
        exact ⟨o, es, ep, kept2 _ o (Ne.symm hfe.2.1) (Ne.symm hfi.2.1) ho, r⟩
      · intro b v q
        by_cases hb : b = s.heap.objs.size
        · subst hb
          rw [Bb] at q
          cases q
          exact ⟨by show 2 ≤ sizeLine; decide, [.int i tk, y], .cons ⟨tk, rfl⟩ (.cons ru .nil), ⟨_, tup2, rfl, 0, rfl⟩⟩
        · rw [Ak hb] at q
          refine (I.hok b v q).stay (fun c z hc r => kept2 c z ?_ ?_ r) (fun c r => by rw [Ak (A7 r fr)]; exact r) (fun c ys r => by rw [Ak (A7 r fr)]; exact r)
          · rcases hc with z | z
            · rw [z]; exact ne1 b v q
            · exact ne1 c _ z
          · rcases hc with z | z
            · rw [z]; exact ne2 b v q
            · exact ne2 c _ z
    · have pa : JK h'' kk a its.toArray := p.mono fun o q => kept2 a o hea hia q
      exact (st'.at (fun o q => (sb.2 it (Ne.symm hei)).trans q) fun o q => (sb.2 a hea).trans q).jit pa
    · intro b hb
      simp only [List.mem_cons, List.not_mem_nil, or_false] at hb
      rcases hb with rfl | rfl
      · rw [Ak (lt b _ h1)]; exact hfe.1
      · rw [Ak (lt b _ hi1)]; exact hfi.1
  done := by
    intro X hP hw hK hc i pins s σ H E I hf st hg
    subst hP hw hK
    obtain ⟨xs, hq, hx⟩ := hg
    obtain ⟨its, rv, p⟩ := I.sqB hq
    obtain ⟨⟨old, h1⟩, h2⟩ := st
    have hl := rv.length
    have hh : X.A.in1.handled = none := I.ok.hd hc
    obtain ⟨f0, f1, f2, f3, f4, f5⟩ := hf it (by simp)
    have D : Draws X.prog X.w X.A.in1 it [it, a] i (fun _ _ => True) (fun j h => j = i /\ SIt h it a i its.toArray) :=
      { live := fun _ _ st => let ⟨o, ho, _⟩ := st.2.live; ⟨o, ho⟩
        frame := fun _ _ _ st hk => ⟨st.1, st.2.at (fun o e => hk it (by simp) o e) fun o e => hk a (by simp) o e⟩
        item := fun j s Q E hj st _ => absurd st.1 (Nat.ne_of_lt hj)
        done := fun s Q E st hE => IA hh st.2 (by simp; omega) hE }
    exact wpAny_pyNext_enum_endD D h1 ⟨rfl, h2.sit p⟩ fun h' eb => ⟨rfl, I.turned (t' := s.toks) (fun b o hb q => eb b o hb q) f0 f1 f3 f4 f5⟩
  self := fun _ _ _ _ _ st h => by
    obtain ⟨⟨old, h1⟩, _⟩ := st
    exact wpAny_pyIter_enum h1 h
section
variable {X : Cx}
def US (K : PySem.W.Frag) (ta : TA) : TI := fun σ H R => ta σ H fun vs H1 => ∃ kk a, vs = [.ref a] /\ (∃ xs, SqB K H1 kk a xs) /\ R (ItE K kk a) H1
theorem QK {a : Expr} {ta : TA} {p pos tp : Pos} {elts : List Expr} {k : Nat} (hg : Gl X "enumerate") (hm : X.mg "enumerate" = none) (ha : PA X [a] ta) (hs : starEach [a] X.env = [(false, eval a X.env)] := by rfl) :
  PI X (.Tuple elts k tp) (.Call (.Name "enumerate" p) [a] [] pos) (US X.K ta) := by
 intro pins s σ H R I h
 refine Call_ (Hr I hg hm boot_enumerate (callWith_type1 (thn (ha pos pins s σ H _ I h) fun us s1 ⟨vs, H1, I1, r1, q1⟩ => ?_) hs rfl))
 obtain ⟨kk, b, e, ⟨xs, hq⟩, q⟩ := q1
 subst e
 obtain ⟨u, rfl, ru⟩ := r1.one
 cases (show u = Value.ref b from ru)
 obtain ⟨its, rv, pt⟩ := I1.sqB hq
 have fin : ∀ h' : Heap, IsEnum h' (s1.heap.objs.size + 1) s1.heap.objs.size 0 .none -> JIt h' kk s1.heap.objs.size b 0 -> (∀ b o, s1.heap.get? b = some o -> h'.get? b = some o) -> wpAny (model X.prog X.w) X.A (pyIter (.ref (s1.heap.objs.size + 1))) (PIE X pins σ (.Tuple elts k tp) R) X.xe { s1 with heap := h' } := fun h' en it kp => by
  refine wpAny_pyIter_enum (s := { s1 with heap := h' }) en ?_
  refine ⟨s1.heap.objs.size + 1, [s1.heap.objs.size + 1, s1.heap.objs.size], _, _, H1, rfl, I1.kept (t' := s1.toks) kp, NK kk b (s1.heap.objs.size + 1) s1.heap.objs.size (Nat.succ_ne_self _), ⟨⟨_, en⟩, it⟩, fun c hc => ?_, q⟩
  simp only [List.mem_cons, List.not_mem_nil, or_false] at hc
  rcases hc with rfl | rfl
  ·exact I1.fpOk (by omega) (I1.hok.fresh (by omega))
  ·exact I1.fpOk (Nat.le_refl _) (I1.hok.fresh (Nat.le_refl _))
 cases kk with
 | true => exact Mx (show s1.heap.IsTuple b its.toArray from pt) fun h' en it kp => fin h' en it kp
 | false => exact call_enumerate_list (show s1.heap.IsList b its.toArray from pt) fun h' en it _ kp => fin h' en it kp
end
end L2
end
section
namespace St
open PySem PySem.Spec L2 PyProof.Rows
inductive Kd where
 | non | bl | int | str | tup | lst | dct
 deriving DecidableEq
def Kd.ty : Kd -> String
 | .non => "NoneType" | .bl => "bool" | .int => "int" | .str => "str" | .tup => "tuple" | .lst => "list" | .dct => "dict"
def Kd.isA : Kd -> String -> Bool
 | .bl, "bool" => true | .bl, "int" => true | .int, "int" => true | .str, "str" => true | .tup, "tuple" => true | .lst, "list" => true | .dct, "dict" => true
 | _, _ => false
section
variable {K : PySem.W.Frag}
theorem T7 (k : Kd) : PySem.W.kitOne K (.type k.ty) (.type "int") = some (k.isA "int") := by
 cases k <;> first | rfl | (unfold PySem.W.kitOne; rfl)
theorem Q7 (k : Kd) : PySem.W.kitOne K (.type k.ty) (.type "bool") = some (k.isA "bool") := by
 cases k <;> rfl
theorem kit_tuple (k : Kd) : PySem.W.kitOne K (.type k.ty) (.type "tuple") = some (k.isA "tuple") := by
 cases k <;> rfl
theorem Tu (k : Kd) : PySem.W.kitOne K (.type k.ty) (.type "str") = some (k.isA "str") := by
 cases k <;> rfl
end
structure Dfn (P : Program) (w : World) (K : PySem.W.Frag) (mg : Str -> Option Value) (base : Heap) (x : Str) (k : Nat) (ps : List Str) (sp : Sp) : Prop where
 ex : ∃ f fd, mg x = some (.ref f) /\ PySem.W.keepIn K (.ref f) = true /\ Binds K fd ps [] /\ LH P w K mg base CX0 k f fd ps sp
structure Src (K : PySem.W.Frag) (mg : Str -> Option Value) (x : Str) (st : Stmt) : Prop where
 ex : ∃ f fd, Fun K x x st f fd /\ mg x = some (.ref f)
theorem Xv {X : Cx} {k : Nat} {x : Str} {ps : List Str} {sp : Sp} {e : Expr} {es : List Expr} {t : TA} {p pos : Pos} (d : Dfn X.prog X.w X.K X.mg X.base x k ps sp) (hr : Jf k X.A) (hg : Gl X x) (ha : PA X (e :: es) t)
  (hdb : (x == ("__debug__" : Str)) = false := by decide) (he : starEach (e :: es) X.env = (false, eval e X.env) :: starEach es X.env := by rfl) (hpl : (backTo pos (starEach es X.env)).any (·.1) = false := by rfl) :
  PE X (.Call (.Name x p) (e :: es) [] pos) (T9 sp [] E0 t) := by
 obtain ⟨f, fd, a, b, c, F⟩ := d.ex
 exact Tw F hr hg a b c .nil X7 ha hdb he hpl
section
variable {X : Cx}
theorem Sv {n : Nat} (h : n < 2 ^ 8000) : n.log2 < 9000 := by
 by_cases h0 : n = 0
 ·subst h0; decide
 ·exact Nat.lt_trans ((Nat.log2_lt h0).mpr h) (by decide)
theorem Qf : OpR X (binaryOp .FloorDiv) (rI (fun _ j => 0 < j /\ j.natAbs < 2 ^ 8000) fun i j => .int (i / j)) := opI fun i j _ _ _ _ _ hc q => by
 have h1 : (0 : Int) < j := hc.1
 exact floordiv_int (by omega) (by rw [Int.fdiv_eq_ediv_of_nonneg i (by omega)]; exact q) (.inl (PyProof.noPylong_of_log2 (Sv hc.2)))
theorem NA {prog : Program} {w : World} {A : Around} (hh : A.handled = none) {a it : Addr} (hne : a ≠ it) {vs : List Value} : Walks prog w A it [it, a] [it] vs.length (fun i v => vs[i]? = some v) (fun i h => h.IsListIter it a i /\ h.IsList a vs.toArray) where
 sub := fun b hb => by simp at hb; simp [hb]
 frame := fun i h h' st k => ⟨st.1.at fun o e => k it (by simp) o e, by
  obtain ⟨o, ho, r⟩ := st.2
  exact ⟨o, k a (by simp) o ho, r⟩⟩
 item := fun i s Q E hi st hQ => by
  refine wpAny_pyNext_list_item st.1 st.2 (x := vs[i]) (by simp [hi]) fun h' st' sb => ?_
  refine hQ _ h' s.toks (by simp [hi]) ⟨st', ?_⟩ fun b o hb e => (sb.2 b (by simpa using hb)).trans e
  obtain ⟨o, ho, r⟩ := st.2
  exact ⟨o, (sb.2 a hne).trans ho, r⟩
 done := fun s Q E st hQ => wpAny_pyNext_list_end hh st.1 st.2 (by simp) fun h' eb => hQ h' s.toks fun b o hb e => eb b o (by simpa using hb) e
 self := fun i s Q E st hQ => wpAny_pyIter_listiter st.1 hQ
theorem Qm {ns : List Int} {j : Nat} (h : j < ns.length) : (ns.take (j + 1)).sum = (ns.take j).sum + ns.getD j 0 := by
 have e : ns.getD j 0 = ns[j] := by simp [List.getD_eq_getElem?_getD, List.getElem?_eq_getElem h]
 rw [List.take_succ, List.getElem?_eq_getElem h, List.sum_append, e]
 show _ + (ns[j] + 0) = _
 omega
theorem Ia {ns : List Int} : ∀ {j : Nat}, j ≤ ns.length -> preSum (fun i => ns.getD i 0) j = (ns.take j).sum
  | 0, _ => by simp [preSum]
  | j + 1, h => by
    rw [preSum, Ia (by omega), Qm (by omega)]
theorem PC {ns : List Int} (h : ∀ n ∈ ns, 0 ≤ n /\ n ≤ 1000000) : 0 ≤ ns.sum /\ ns.sum ≤ 1000000 * ns.length := by
  induction ns with
  | nil => simp
  | cons a l ih =>
    have h1 := h a (by simp)
    have h2 := ih fun n hn => h n (by simp [hn])
    rw [List.sum_cons, List.length_cons]
    have : ((l.length + 1 : Nat) : Int) = (l.length : Int) + 1 := by omega
    omega
end
section
variable {prog : Program} {w : World} {A : Around} {E : Value -> Shared -> Prop} {s : Shared}
theorem HF {t sl : Addr} {items : Array Value} {vl vu : Value} {lo hi : Option Int} {Q : Value -> Shared -> Prop} (ht : IsTup s.heap t items) (hs : s.heap.IsSliceOf sl vl vu .none) (pl : IsPart vl lo) (pu : IsPart vu hi)
  (hw : HT.sIx items.size 0 lo = 0 /\ HT.sIx items.size items.size hi = items.size)
  (h : Q (.ref t) s) : wpAny (model prog w) A (getItem (.ref t) (.ref sl)) Q E s := by
 obtain ⟨os, hos, hcs, hds⟩ := id hs
 have hTs : s.TypeIs (.ref sl) "slice" := ⟨os, hos, hcs⟩
 unfold getItem
 try with_reducible refine wpAny_holding ?_
 first | refine wpAny_bind (wpAny_pure ?_) | skip
 refine wpAny_bind (wpAny_sequenceKey ht.typeIs (by decide) ?_)
 refine wpAny_bind (wpAny_callSpecial?_slot (name := Str.ofString "__getitem__") ht.typeIs PyProof.Rows.slot_tuple_getitem
  (wpAny_call_entry PyProof.Rows.slot_tuple_getitem ht.typeIs entry_tuple_getitem ?_ (args_tuple_getitem _ _)))
 show wpAny _ _ (Builtin.Tuple.tupleItemsOf (.ref t) >>= _) _ _ s
 refine wpAny_bind (tupleItemsOf_ ht ?_)
 refine wpAny_bind (wpAny_typeOf hTs ?_)
 rw [if_pos (by decide)]
 refine wpAny_bind (HT.E9 hs pl pu ?_)
 show wpAny _ _ (if (((HT.sIx items.size 0 lo : Nat) : Int) == 0 && (1 : Int) == 1 && (HT.sIx items.size items.size hi - HT.sIx items.size 0 lo) == items.size) = true then _ else _) _ _ s
 rw [if_pos (by rw [hw.1, hw.2]; simp)]
 unfold Builtin.Tuple.tupleIsExact
 refine wpAny_bind (wpAny_bind (wpAny_typeOf ht.typeIs (wpAny_pure ?_)))
 rw [if_pos (by decide)]
 exact wpAny_bind (wpAny_rule (wpAny_pure ⟨_, rfl, wpAny_pure h⟩))
end
section
variable {X : Cx}
def Z1 (K : PySem.W.Frag) : V -> Option Int -> Option Int -> Hp -> VK -> Prop := fun x lo hi H Q => ∃ a xs, x = .ref a /\ SqT K H a xs /\ HT.sIx xs.length 0 lo = 0 /\ HT.sIx xs.length xs.length hi = xs.length /\ Q x H
theorem VL : SlR X (Z1 X.K) := by
 intro pins s σ H x v vl vu lo hi sl Q I rx hs pl pu h
 obtain ⟨a, xs, rfl, hx, h1, h2, q⟩ := h
 cases rx
 obtain ⟨its, r, ht, hz⟩ := I.tuple hx
 have hlen : its.toArray.size = xs.length := by rw [List.size_toArray]; exact r.length.symm
 refine ⟨"tuple", _, PyProof.Rows.slot_tuple_getitem.lookup, ht.typeIs, ?_⟩
 exact HF ht hs pl pu (by rw [hlen]; exact ⟨h1, h2⟩) ⟨.ref a, H, I, rfl, q⟩
def Xs (K : PySem.W.Frag) : R2 := fun x y H Q => ∃ a b ys, x = .ref a /\ y = .ref b /\ SqT K H a [] /\ SqT K H b ys /\ Q (.ref b) H
theorem T8 : OpR X (binaryOp .Add) (Xs X.K) := by
 intro pins s σ H x y v u Q I rx ry h
 obtain ⟨a, b, ys, rfl, rfl, ha, hb, q⟩ := h
 cases rx
 cases ry
 obtain ⟨its, r1, p1, _⟩ := I.tuple ha
 obtain ⟨its2, r2, p2, _⟩ := I.tuple hb
 have e0 : its = [] := r1.nil_iff.mpr rfl
 subst e0
 obtain ⟨⟨cls, dd, data, sl⟩, ho, hc, n, hd⟩ := id p1
 obtain ⟨⟨cls2, dd2, data2, sl2⟩, ho2, hc2, n2, hd2⟩ := id p2
 simp only at hc hd hc2 hd2
 subst hc hd hc2 hd2
 exact concat_meets ⟨_, ho, rfl⟩ ⟨_, ho2, rfl⟩ noFill_tuple_add seq_tuple_add PySem.F.slot_tuple_add PySem.F.entry_tuple_add (PySem.F.args_tuple_add_2 _ _)
   (tuple_addW0 a b #[] its2.toArray n n2 dd dd2 sl sl2 rfl) ⟨ho, ho2, ⟨.ref b, H, I, rfl, q⟩⟩
end
end St
end
section
namespace Mi
open PySem PySem.Spec L2
inductive D where
 | non | bl (b : Bool) | int (i : Int) | str (x : Str) | ty (n : String) | tup (ds : List D) | lst (ds : List D) | dct (kvs : List (Key × D)) | scr (ns : List Int) | ref (n : Nat)
inductive Wv where
 | val (d : D) | own (ds : List D)
inductive Cl where
 | lst (ds : List D) | dct (kvs : List (Key × D))
abbrev Sto := List Cl
structure Ms where
 cel : List Addr
 tmp : List Addr
def Ms.mem (M : Ms) (a : Addr) : Prop := a ∈ M.cel ∨ a ∈ M.tmp
def Ms.no : Ms := ⟨[], []⟩
theorem Ms.no_mem {a : Addr} : ¬ Ms.no.mem a := fun z => z.elim (fun z => by cases z) fun z => by cases z
def KL (K : PySem.W.Frag) (a : Addr) (xs : List V) : Prop := ∃ (o : Obj) (its : Array Value) (n : Nat), K.lookup a = some o /\ o.cls = .type "list" /\ o.dict = none /\ o.data = .seq its n /\ its.size ≤ sizeLine /\ Vals xs its.toList
mutual
inductive C8 (K : PySem.W.Frag) (M : Ms) (H : Hp) : V -> D -> Prop
 | non : C8 K M H .non .non
 | bl (b : Bool) : C8 K M H (.bl b) (.bl b)
 | int (i : Int) : C8 K M H (.int i) (.int i)
 | str (x : Str) : C8 K M H (.str x) (.str x)
 | ty (n : String) : C8 K M H (.ty n) (.ty n)
 | tup {a : Addr} {xs : List V} {ds : List D} (h : SqT K H a xs) (r : AW K M H xs ds) : C8 K M H (.ref a) (.tup ds)
 | lst {a : Addr} {xs : List V} {ds : List D} (h : H a = some (.lst xs)) (n : ¬ M.mem a) (r : AW K M H xs ds) : C8 K M H (.ref a) (.lst ds)
 | scr {a : Addr} {ns : List Int} (h : (Rd H a (.lst (ns.map V.int)) /\ ¬ M.mem a) ∨ KL K a (ns.map V.int)) : C8 K M H (.ref a) (.scr ns)
 | dct {a : Addr} {kvs : List (Key × V)} {es : List (Key × D)} (h : H a = some (.dK kvs)) (n : ¬ M.mem a) (r : JT K M H kvs es) : C8 K M H (.ref a) (.dct es)
 | ref {a : Addr} {n : Nat} (h : M.cel[n]? = some a) : C8 K M H (.ref a) (.ref n)
inductive AW (K : PySem.W.Frag) (M : Ms) (H : Hp) : List V -> List D -> Prop
 | nil : AW K M H [] []
 | cons {v : V} {d : D} {vs : List V} {ds : List D} (h : C8 K M H v d) (t : AW K M H vs ds) : AW K M H (v :: vs) (d :: ds)
inductive JT (K : PySem.W.Frag) (M : Ms) (H : Hp) : List (Key × V) -> List (Key × D) -> Prop
 | nil : JT K M H [] []
 | cons {k : Key} {v : V} {d : D} {vs : List (Key × V)} {ds : List (Key × D)} (h : C8 K M H v d) (t : JT K M H vs ds) : JT K M H ((k, v) :: vs) ((k, d) :: ds)
end
def MOk (M : Ms) (H : Hp) : Prop := ∀ a, M.mem a -> (∃ xs, H a = some (.lst xs)) ∨ ∃ kvs, H a = some (.dK kvs)
structure Sp1 (M : Ms) (H : Hp) (M' : Ms) (H' : Hp) : Prop where
 mo : MOk M H
 pre : M.cel <+: M'.cel
 fresh : ∀ a, M'.mem a -> M.mem a ∨ H a = none
 keep : ∀ a o, H a = some o -> ¬ M.mem a -> H' a = some o
structure Gr (M : Ms) (H : Hp) (M' : Ms) (H' : Hp) : Prop where
 mo : MOk M H
 pre : M.cel <+: M'.cel
 tmp : M'.tmp = M.tmp
 fresh : ∀ a, a ∈ M'.cel -> a ∈ M.cel ∨ H a = none
 keep : ∀ a o, H a = some o -> a ∉ M.cel -> H' a = some o
 some : ∀ a, H a ≠ none -> H' a ≠ none
section
variable {K : PySem.W.Frag} {M M' M2 : Ms} {H H' H2 : Hp}
theorem MOk.some (mo : MOk M H) {a : Addr} (h : M.mem a) : H a ≠ none := fun z => by
 rcases mo a h with ⟨xs, e⟩ | ⟨xs, e⟩ <;> (rw [e] at z; cases z)
theorem Gr.st (g : Gr M H M' H') : Sp1 M H M' H' := ⟨g.mo, g.pre, fun a z => z.elim (fun z => (g.fresh a z).imp .inl id) fun z => .inl (.inr (by rw [← g.tmp]; exact z)), fun a o e n => g.keep a o e fun z => n (.inl z)⟩
theorem Gr.refl (mo : MOk M H) : Gr M H M H := ⟨mo, List.prefix_rfl, rfl, fun _ z => .inl z, fun _ _ e _ => e, fun _ e => e⟩
theorem Gr.none (g : Gr M H M' H') {a : Addr} (h : H' a = none) : H a = none := by
 cases e : H a with
 | none => rfl
 | some o => exact absurd h (g.some a (by rw [e]; intro z; cases z))
theorem Gr.trans (h : Gr M H M' H') (g : Gr M' H' M2 H2) : Gr M H M2 H2 :=
 ⟨h.mo, h.pre.trans g.pre, g.tmp.trans h.tmp, fun a z => (g.fresh a z).elim (h.fresh a) fun z => .inr (h.none z), fun a o e n => g.keep a o (h.keep a o e n) (fun z => by
  rcases h.fresh a z with z | z
  ·exact n z
  ·rw [e] at z; cases z), fun a e => g.some a (h.some a e)⟩
theorem Gr.grow (mo : MOk M H) (k : ∀ a o, H a = Option.some o -> H' a = Option.some o) : Gr M H M H' :=
 ⟨mo, List.prefix_rfl, rfl, fun _ z => .inl z, fun b u eb _ => k b u eb, fun b eb z => by
  cases h : H b with
  | none => exact eb h
  | some o => rw [k b o h] at z; cases z⟩
theorem Jx {α : Type} {xs ys : List α} (h : xs <+: ys) {n : Nat} {a : α} (e : xs[n]? = Option.some a) : ys[n]? = Option.some a := by
 obtain ⟨zs, rfl⟩ := h
 rw [List.getElem?_append_left (List.getElem?_eq_some_iff.mp e).1]
 exact e
theorem QZ {a : Addr} {xs : List V} (h : SqT K H a xs) (k : ∀ b o, H b = Option.some o -> (∀ ys, o ≠ .lst ys) -> (∀ ys, o ≠ .dK ys) -> H' b = Option.some o) : SqT K H' a xs := by
 rcases h with h | h
 ·rcases h with h | ⟨o, h⟩
  ·exact .inl (.inl (k _ _ h (fun ys z => by cases z) fun ys z => by cases z))
  ·exact .inl (.inr ⟨o, k _ _ h (fun ys z => by cases z) fun ys z => by cases z⟩)
 ·exact .inr h
theorem Sp1.sqT (g : Sp1 M H M' H') {a : Addr} {xs : List V} (h : SqT K H a xs) : SqT K H' a xs := QZ h fun b o e n1 n2 => g.keep b o e fun z => by
 rcases g.mo b z with ⟨ys, q⟩ | ⟨ys, q⟩
 ·exact n1 ys (Option.some.inj (e.symm.trans q))
 ·exact n2 ys (Option.some.inj (e.symm.trans q))
theorem Sp1.nm (g : Sp1 M H M' H') {a : Addr} {o : HO} (e : H a = Option.some o) (n : ¬ M.mem a) : ¬ M'.mem a := fun z => by
 rcases g.fresh _ z with z | z
 ·exact n z
 ·rw [z] at e; cases e
mutual
theorem C8.step (g : Sp1 M H M' H') : ∀ {v : V} {d : D}, C8 K M H v d -> C8 K M' H' v d
  | _, _, .non => .non
  | _, _, .bl b => .bl b
  | _, _, .int b => .int b
  | _, _, .str b => .str b
  | _, _, .ty b => .ty b
  | _, _, .tup h r => .tup (g.sqT h) (AW.step g r)
  | _, _, .lst (a := a) (xs := xs) h n r => .lst (g.keep _ _ h n) (g.nm h n) (AW.step g r)
  | _, _, .scr (a := a) (ns := ns) h => by
    rcases h with ⟨h, n⟩ | h
    · rcases h with h | ⟨o, h⟩
      · exact .scr (.inl ⟨.inl (g.keep _ _ h n), g.nm h n⟩)
      · exact .scr (.inl ⟨.inr ⟨o, g.keep _ _ h n⟩, g.nm h n⟩)
    · exact .scr (.inr h)
  | _, _, .dct (a := a) h n r => .dct (g.keep _ _ h n) (g.nm h n) (JT.step g r)
  | _, _, .ref h => .ref (Jx g.pre h)
theorem AW.step (g : Sp1 M H M' H') : ∀ {v : List V} {d : List D}, AW K M H v d -> AW K M' H' v d
 | _, _, .nil => .nil
 | _, _, .cons h t => .cons (C8.step g h) (AW.step g t)
theorem JT.step (g : Sp1 M H M' H') : ∀ {v : List (Key × V)} {d : List (Key × D)}, JT K M H v d -> JT K M' H' v d
 | _, _, .nil => .nil
 | _, _, .cons h t => .cons (C8.step g h) (JT.step g t)
end
theorem AW.length : ∀ {v : List V} {d : List D}, AW K M H v d -> v.length = d.length
 | _, _, .nil => rfl
 | _, _, .cons _ t => by simp [AW.length t]
theorem AW.get : ∀ {v : List V} {d : List D} {i : Nat} {y : D}, AW K M H v d -> d[i]? = Option.some y -> ∃ x, v[i]? = Option.some x /\ C8 K M H x y
  | _, _, i, y, .nil, e => by simp at e
  | _, _, 0, y, .cons h t, e => by simp at e; subst e; exact ⟨_, rfl, h⟩
  | _, _, i + 1, y, .cons h t, e => by
    obtain ⟨x, h1, h2⟩ := AW.get (i := i) t (by simpa using e)
    exact ⟨x, by simpa using h1, h2⟩
theorem AW.append : ∀ {v v' : List V} {d d' : List D}, AW K M H v d -> AW K M H v' d' -> AW K M H (v ++ v') (d ++ d')
 | _, _, _, _, .nil, s => s
 | _, _, _, _, .cons h t, s => .cons h (AW.append t s)
theorem AW.take : ∀ {v : List V} {d : List D} (n : Nat), AW K M H v d -> AW K M H (v.take n) (d.take n)
 | _, _, 0, _ => .nil
 | _, _, _ + 1, .nil => .nil
 | _, _, n + 1, .cons h t => .cons h (AW.take n t)
theorem AW.drop : ∀ {v : List V} {d : List D} (n : Nat), AW K M H v d -> AW K M H (v.drop n) (d.drop n)
 | _, _, 0, r => r
 | _, _, _ + 1, .nil => .nil
 | _, _, n + 1, .cons _ t => AW.drop n t
theorem AW.set {x : V} {y : D} (r : C8 K M H x y) : ∀ {v : List V} {d : List D} (i : Nat), AW K M H v d -> AW K M H (v.set i x) (d.set i y)
 | _, _, _, .nil => .nil
 | _, _, 0, .cons _ t => .cons r t
 | _, _, i + 1, .cons q t => .cons q (AW.set r i t)
end
abbrev En := List (Option D)
abbrev Sg := List (Option V)
structure EnR (K : PySem.W.Frag) (M : Ms) (E : En) (σ : Sg) (H : Hp) : Prop where
 len : E.length = σ.length
 val : ∀ (i : Nat) (d : D), E[i]? = some (some d) -> ∃ v, σ[i]? = some (some v) /\ C8 K M H v d
def XD (K : PySem.W.Frag) (M : Ms) (H : Hp) (a : Addr) : Cl -> Prop
 | .lst ds => ∃ xs, H a = some (.lst xs) /\ AW K M H xs ds
 | .dct es => ∃ kvs, H a = some (.dK kvs) /\ JT K M H kvs es
structure StR (K : PySem.W.Frag) (M : Ms) (S : Sto) (H : Hp) : Prop where
 mo : MOk M H
 nd : M.cel.Nodup
 nt : ∀ a ∈ M.tmp, a ∉ M.cel
 len : M.cel.length = S.length
 cell : ∀ (n : Nat) (a : Addr) (c : Cl), M.cel[n]? = some a -> S[n]? = some c -> XD K M H a c
section
variable {K : PySem.W.Frag} {M M' M2 : Ms} {H H' H2 : Hp} {E : En} {σ : Sg} {S : Sto}
theorem EnR.step (r : EnR K M E σ H) (g : Sp1 M H M' H') : EnR K M' E σ H' := ⟨r.len, fun i d e => by
 obtain ⟨v, h1, h2⟩ := r.val i d e
 exact ⟨v, h1, h2.step g⟩⟩
theorem StR.grow (r : StR K M S H) (k : ∀ a o, H a = some o -> H' a = some o) : StR K M S H' := by
 have g : Sp1 M H M H' := ⟨r.mo, List.prefix_rfl, fun _ z => .inl z, fun a o e _ => k a o e⟩
 refine ⟨fun a z => (r.mo a z).imp (fun ⟨xs, e⟩ => ⟨xs, k _ _ e⟩) fun ⟨xs, e⟩ => ⟨xs, k _ _ e⟩, r.nd, r.nt, r.len, fun n a c h1 h2 => ?_⟩
 have q := r.cell n a c h1 h2
 cases c with
 | lst ds => obtain ⟨xs, e, rr⟩ := q; exact ⟨xs, k _ _ e, rr.step g⟩
 | dct ds => obtain ⟨xs, e, rr⟩ := q; exact ⟨xs, k _ _ e, rr.step g⟩
theorem StR.chg (r : StR K M S H) {n : Nat} {a : Addr} {ds es : List D} {ys : List V} (h1 : M.cel[n]? = some a) (h2 : S[n]? = some (.lst ds)) (hy : AW K M H ys es) : StR K M (S.set n (.lst es)) (upd H a (.lst ys)) /\ Gr M H M (upd H a (.lst ys)) := by
 have ha : a ∈ M.cel := List.mem_of_getElem? h1
 have hl : n < S.length := (List.getElem?_eq_some_iff.mp h2).1
 have g : Gr M H M (upd H a (.lst ys)) := ⟨r.mo, List.prefix_rfl, rfl, fun _ z => .inl z, fun b o eb nb => by rw [Ak (fun z => nb (by rw [z]; exact ha))]; exact eb, fun b eb => by
  by_cases h : b = a
  ·subst h; rw [Bb]; intro z; cases z
  ·rw [Ak h]; exact eb⟩
 refine ⟨⟨fun b z => ?_, r.nd, r.nt, by rw [List.length_set]; exact r.len, fun m b c e1 e2 => ?_⟩, g⟩
 ·by_cases h : b = a
  ·subst h; exact .inl ⟨ys, Bb⟩
  ·rw [Ak h]; exact r.mo b z
 ·by_cases h : n = m
  ·subst h
   rw [h1] at e1; cases e1
   rw [List.getElem?_set_self hl] at e2; cases e2
   exact ⟨ys, Bb, hy.step g.st⟩
  ·rw [List.getElem?_set_ne h] at e2
   have hb : b ≠ a := fun z => by
    subst z
    exact h ((List.getElem?_inj (List.getElem?_eq_some_iff.mp h1).1 r.nd).mp (h1.trans e1.symm))
   have q := r.cell m b c e1 e2
   cases c with
   | lst fs => obtain ⟨xs, e, rr⟩ := q; exact ⟨xs, by rw [Ak hb]; exact e, rr.step g.st⟩
   | dct fs => obtain ⟨xs, e, rr⟩ := q; exact ⟨xs, by rw [Ak hb]; exact e, rr.step g.st⟩
theorem StR.cel_new (r : StR K M S H) {a : Addr} {xs : List V} {ds : List D} (e : H a = none) (k : ∀ b o, H b = some o -> H' b = some o) (ea : H' a = some (.lst xs)) (rr : AW K M H xs ds) : StR K ⟨M.cel ++ [a], M.tmp⟩ (S ++ [.lst ds]) H' /\ Gr M H ⟨M.cel ++ [a], M.tmp⟩ H' := by
  have g : Gr M H ⟨M.cel ++ [a], M.tmp⟩ H' := ⟨r.mo, List.prefix_append _ _, rfl, fun b z => by
    rcases List.mem_append.mp z with z | z
    · exact .inl z
    · simp at z; subst z; exact .inr e, fun b o eb _ => k b o eb, fun b eb z => by
    cases h : H b with
    | none => exact eb h
    | some o => rw [k b o h] at z; cases z⟩
  have na : ¬ M.mem a := fun z => r.mo.some z e
  refine ⟨⟨fun b z => ?_, ?_, fun b hb z => ?_, by simp [r.len], fun m b c e1 e2 => ?_⟩, g⟩
  · have z' : M.mem b ∨ b = a := by
      rcases z with z | z
      · rcases List.mem_append.mp z with z | z
        · exact .inl (.inl z)
        · simp at z; exact .inr z
      · exact .inl (.inr z)
    rcases z' with z | z
    · exact (r.mo b z).imp (fun ⟨xs, e⟩ => ⟨xs, k _ _ e⟩) fun ⟨xs, e⟩ => ⟨xs, k _ _ e⟩
    · subst z; exact .inl ⟨xs, ea⟩
  · rw [List.nodup_append]
    refine ⟨r.nd, by simp, fun x hx y hy => ?_⟩
    simp at hy; subst hy
    exact fun z => na (.inl (by rw [← z]; exact hx))
  · rcases List.mem_append.mp z with z | z
    · exact r.nt b hb z
    · simp at z; subst z; exact na (.inr hb)
  · by_cases h : m < S.length
    · rw [List.getElem?_append_left (by rw [r.len]; exact h)] at e1
      rw [List.getElem?_append_left h] at e2
      have q := r.cell m b c e1 e2
      cases c with
      | lst fs => obtain ⟨xs, e, rr⟩ := q; exact ⟨xs, k _ _ e, rr.step g.st⟩
      | dct fs => obtain ⟨xs, e, rr⟩ := q; exact ⟨xs, k _ _ e, rr.step g.st⟩
    · have hm : m = S.length := by
        have := (List.getElem?_eq_some_iff.mp e2).1
        simp at this; omega
      subst hm
      rw [List.getElem?_append_right (by rw [r.len]; exact Nat.le_refl _)] at e1
      rw [List.getElem?_append_right (Nat.le_refl _)] at e2
      rw [r.len] at e1
      simp at e1 e2
      subst e1 e2
      exact ⟨xs, ea, rr.step g.st⟩
end
end Mi
end
section
namespace Mi
open PySem PySem.Spec L2
abbrev Ev := En -> Sto -> Option (D × Sto)
def tD (K : PySem.W.Frag) (f : Ev) : TE := fun σ H Q => ∃ M E S d S', f E S = some (d, S') /\ EnR K M E σ H /\ StR K M S H /\ ∀ v H' M', Gr M H M' H' -> StR K M' S' H' -> C8 K M' H' v d -> Q v H'
structure DE (X : Cx) (e : Expr) (f : Ev) : Prop where
 pe : PE X e (tD X.K f)
theorem Bh {X : Cx} {e : Expr} {t t' : TE} (h : PE X e t) (m : ∀ σ H Q, t' σ H Q -> t σ H Q) : PE X e t' := fun pins s σ H Q I q => h pins s σ H Q I (m _ _ _ q)
theorem N2 {X : Cx} {e : Expr} {t t' : TT} (h : PT X e t) (m : ∀ σ H Q, t' σ H Q -> t σ H Q) : PT X e t' := fun pins s σ H Q I q => h pins s σ H Q I (m _ _ _ q)
theorem GU {K : PySem.W.Frag} {f : Ev} {σ : Sg} {H : Hp} {Q Q' : VK} (h : tD K f σ H Q) (m : ∀ v H', Q v H' -> Q' v H') : tD K f σ H Q' := by
 obtain ⟨M, E, S, d, S', e, r, st, q⟩ := h
 exact ⟨M, E, S, d, S', e, r, st, fun v H' M' g s r => m _ _ (q v H' M' g s r)⟩
theorem BJ {α β : Type} {o : Option α} {k : α -> Option β} {y : β} (e : o.bind k = some y) : ∃ x, o = some x /\ k x = some y := by
 cases o with
 | none => cases e
 | some x => exact ⟨x, rfl, e⟩
theorem Jl {α β : Type} {o : Option α} {k : α -> β} {y : β} (e : o.map k = some y) : ∃ x, o = some x /\ k x = y := by
 cases o with
 | none => cases e
 | some x => cases e; exact ⟨x, rfl, rfl⟩
def fz : Wv -> D
 | .val d => d
 | .own ds => .lst ds
def at? (E : En) (i : Nat) : Option D := (E[i]?).join
theorem at?_some {E : En} {i : Nat} {w : D} (h : at? E i = some w) : E[i]? = some (some w) := by
 unfold at? at h
 cases e : E[i]? with
 | none => rw [e] at h; cases h
 | some q => rw [e] at h; exact congrArg some h
def evs : List Ev -> En -> Sto -> Option (List D × Sto)
 | [], _, S => some ([], S)
 | f :: fs, E, S => (f E S).bind fun r => (evs fs E r.2).map fun q => (r.1 :: q.1, q.2)
def tDs (K : PySem.W.Frag) : List Ev -> TA
 | [] => Y0
 | f :: fs => VW (tD K f) (tDs K fs)
structure DEs (X : Cx) (es : List Expr) (fs : List Ev) : Prop where
 pe : PA X es (tDs X.K fs)
theorem AD {X : Cx} : DEs X [] [] := ⟨Nm⟩
theorem AA {X : Cx} {e : Expr} {es : List Expr} {f : Ev} {fs : List Ev} (h : DE X e f) (t : DEs X es fs) (hs : starEach (e :: es) X.env = (false, eval e X.env) :: starEach es X.env := by rfl) : DEs X (e :: es) (f :: fs) := ⟨J8 h.pe t.pe hs⟩
section
variable {K : PySem.W.Frag} {M M' : Ms} {E : En} {S : Sto} {σ : Sg} {H H' : Hp}
theorem GA : ∀ {fs : List Ev} {M : Ms} {S : Sto} {ds : List D} {S' : Sto} {H : Hp} {Q : List V -> Hp -> Prop}, evs fs E S = some (ds, S') -> EnR K M E σ H -> StR K M S H -> (∀ vs H' M', Gr M H M' H' -> StR K M' S' H' -> AW K M' H' vs ds -> Q vs H') -> tDs K fs σ H Q
  | [], M, S, ds, S', H, Q, e, r, st, q => by
    cases e
    exact q [] H M (.refl st.mo) st .nil
  | f :: fs, M, S, ds, S', H, Q, e, r, st, q => by
    obtain ⟨⟨d, S1⟩, e1, e⟩ := BJ e
    obtain ⟨⟨es, S2⟩, e2, e⟩ := Jl e
    cases e
    refine ⟨M, E, S, d, S1, e1, r, st, fun v H1 M1 g1 st1 d1 => ?_⟩
    exact GA e2 (r.step g1.st) st1 fun vs H2 M2 g2 st2 d2 => q _ _ M2 (g1.trans g2) st2 (.cons (d1.step g2.st) d2)
theorem Ls : ∀ {fs : List Ev} {S : Sto} {ds : List D} {S' : Sto}, evs fs E S = some (ds, S') -> ds.length = fs.length
  | [], _, _, _, e => by cases e; rfl
  | f :: fs, S, ds, S', e => by
    obtain ⟨⟨d, S1⟩, e1, e⟩ := BJ e
    obtain ⟨⟨es, S2⟩, e2, e⟩ := Jl e
    cases e
    simp [Ls e2]
def Sh (K : PySem.W.Frag) (M : Ms) (H : Hp) (v : V) : Wv -> Prop
 | .val d => C8 K M H v d
 | .own ds => ∃ a xs, v = .ref a /\ H a = some (.lst xs) /\ AW K M H xs ds
inductive Shs (K : PySem.W.Frag) (M : Ms) (H : Hp) : List V -> List Wv -> Prop
 | nil : Shs K M H [] []
 | cons {v : V} {w : Wv} {vs : List V} {ws : List Wv} (h : Sh K M H v w) (t : Shs K M H vs ws) : Shs K M H (v :: vs) (w :: ws)
def dr (S : Sto) : D -> Wv
  | .ref n => match S[n]? with
    | some (.lst ds) => .own ds
    | _ => .val (.ref n)
  | d => .val d
theorem YH (st : StR K M S H) {v : V} {d : D} (h : C8 K M H v d) : Sh K M H v (dr S d) := by
  cases h with
  | ref h =>
    rename_i a n
    show Sh K M H (.ref a) (match S[n]? with | some (.lst ds) => .own ds | _ => .val (.ref n))
    split
    · rename_i ds e
      obtain ⟨xs, h1, h2⟩ := st.cell n a _ h e
      exact ⟨a, xs, rfl, h1, h2⟩
    · exact .ref h
  | non => exact .non
  | bl b => exact .bl b
  | int b => exact .int b
  | str b => exact .str b
  | ty b => exact .ty b
  | tup h r => exact .tup h r
  | lst h n r => exact .lst h n r
  | scr h => exact .scr h
  | dct h n r => exact .dct h n r
theorem Rk (st : StR K M S H) : ∀ {vs : List V} {ds : List D}, AW K M H vs ds -> Shs K M H vs (ds.map (dr S))
 | _, _, .nil => .nil
 | _, _, .cons h t => .cons (YH st h) (Rk st t)
def NwR (K : PySem.W.Frag) (M : Ms) (H H' : Hp) (v : V) : Wv -> Prop
 | .val d => C8 K M H' v d
 | .own ds => ∃ a xs, v = .ref a /\ H a = none /\ H' a = some (.lst xs) /\ AW K M H xs ds
structure Nw (K : PySem.W.Frag) (M : Ms) (H H' : Hp) (v : V) (w : Wv) : Prop where
 grow : ∀ a o, H a = some o -> H' a = some o
 rel : NwR K M H H' v w
theorem Nw.same {v : V} {d : D} (mo : MOk M H) (h : C8 K M H v d) : Nw K M H H v (.val d) := ⟨fun _ _ e => e, h⟩
theorem Fx {a : Addr} {o : HO} (e : H a = none) : ∀ b u, H b = some u -> upd H a o b = some u := fun b u eb => by rw [Ak (fun z => by subst z; rw [e] at eb; cases eb)]; exact eb
theorem Nw.lst {a : Addr} {xs : List V} {ds : List D} (mo : MOk M H) (e : H a = none) (h : AW K M H xs ds) : Nw K M H (upd H a (.lst xs)) (.ref a) (.own ds) := ⟨Fx e, a, xs, rfl, e, Bb, h⟩
theorem Nw.tup {a : Addr} {xs : List V} {ds : List D} (mo : MOk M H) (e : H a = none) (h : AW K M H xs ds) : Nw K M H (upd H a (.tup xs)) (.ref a) (.val (.tup ds)) := ⟨Fx e, .tup (.of Bb) (h.step (Gr.grow mo (Fx e)).st)⟩
def fin : Bool -> Wv -> Sto -> Option (D × Sto)
 | _, .val d, S => some (d, S)
 | false, .own ds, S => some (.lst ds, S)
 | true, .own ds, S => some (.ref S.length, S ++ [.lst ds])
theorem Nw.fin {c : Bool} {v : V} {w : Wv} {d : D} {S' : Sto} (n : Nw K M H H' v w) (st : StR K M S H) (e : fin c w S = some (d, S')) : ∃ M', Gr M H M' H' /\ StR K M' S' H' /\ C8 K M' H' v d := by
  cases w with
  | val d' =>
    cases e
    exact ⟨M, .grow st.mo n.grow, st.grow n.grow, n.rel⟩
  | own ds =>
    obtain ⟨a, xs, rfl, h1, h2, h3⟩ := n.rel
    cases c with
    | false =>
      cases e
      exact ⟨M, .grow st.mo n.grow, st.grow n.grow, .lst h2 (fun z => st.mo.some z h1) (h3.step (Gr.grow st.mo n.grow).st)⟩
    | true =>
      cases e
      obtain ⟨s1, g1⟩ := st.cel_new h1 n.grow h2 h3
      refine ⟨_, g1, s1, .ref ?_⟩
      rw [← st.len]
      exact List.getElem?_concat_length
abbrev Op1 := Wv -> Option Wv
abbrev Op2 := Wv -> Wv -> Option Wv
abbrev OpN := List Wv -> Option Wv
def rOp (K : PySem.W.Frag) (op : Op2) : R2 := fun x y H Q => ∃ M w1 w2 r, op w1 w2 = some r /\ MOk M H /\ Sh K M H x w1 /\ Sh K M H y w2 /\ ∀ v H', Nw K M H H' v r -> Q v H'
def rUn (K : PySem.W.Frag) (op : Op1) : V -> Hp -> VK -> Prop := fun x H Q => ∃ M w r, op w = some r /\ MOk M H /\ Sh K M H x w /\ ∀ v H', Nw K M H H' v r -> Q v H'
def rN (K : PySem.W.Frag) (op : OpN) : List V -> Hp -> VK -> Prop := fun xs H Q => ∃ M ws r, op ws = some r /\ MOk M H /\ Shs K M H xs ws /\ ∀ v H', Nw K M H H' v r -> Q v H'
def MI (c : Bool) (op : OpN) (fs : List Ev) : Ev := fun E S => (evs fs E S).bind fun r => (op (r.1.map (dr r.2))).bind fun w => fin c w r.2
abbrev eOp := MI false
abbrev Xp := MI true
def o1 (op : Op1) : OpN | [a] => op a | _ => none
def o2 (op : Op2) : OpN | [a, b] => op a b | _ => none
theorem Jo {c : Bool} {op : OpN} {fs : List Ev} {Q : VK} {d : D} {S' : Sto} (e : MI c op fs E S = some (d, S')) (r : EnR K M E σ H) (st : StR K M S H) (h : ∀ v H' M', Gr M H M' H' -> StR K M' S' H' -> C8 K M' H' v d -> Q v H') : tDs K fs σ H fun vs H1 => rN K op vs H1 Q := by
 obtain ⟨⟨ds, S1⟩, e1, e⟩ := BJ e
 obtain ⟨w, e2, e⟩ := BJ e
 refine GA e1 r st fun vs H1 M1 g1 st1 d1 => ⟨M1, _, w, e2, st1.mo, Rk st1 d1, fun v H2 n => ?_⟩
 obtain ⟨M2, g2, st2, d2⟩ := n.fin st1 e
 exact h v H2 M2 (g1.trans g2) st2 d2
end
theorem VA {K : PySem.W.Frag} {f : Op2} {x y : V} {H : Hp} {Q : VK} (h : rN K (o2 f) [x, y] H Q) : rOp K f x y H Q := by
  obtain ⟨M, ws, r, e, mo, s, q⟩ := h
  cases s with
  | cons h1 s =>
    cases s with
    | cons h2 s =>
      cases s
      exact ⟨M, _, _, r, e, mo, h1, h2, q⟩
theorem VB {K : PySem.W.Frag} {f : Op1} {x : V} {H : Hp} {Q : VK} (h : rN K (o1 f) [x] H Q) : rUn K f x H Q := by
  obtain ⟨M, ws, r, e, mo, s, q⟩ := h
  cases s with
  | cons h1 s =>
    cases s
    exact ⟨M, _, r, e, mo, h1, q⟩
theorem Lw {K : PySem.W.Frag} {c : Bool} {f : Op2} {fa fb : Ev} {σ : Sg} {H : Hp} {Q : VK} (h : tD K (MI c (o2 f) [fa, fb]) σ H Q) : tOp (rOp K f) (tD K fa) (tD K fb) σ H Q := by
 obtain ⟨M, E, S, d, S', e, r, st, q⟩ := h
 have z : tD K fa σ H fun x H1 => tD K fb σ H1 fun y H2 => rN K (o2 f) [x, y] H2 Q := Jo (Q := Q) e r st q
 exact GU z fun x H1 z1 => GU z1 fun y H2 z2 => VA z2
theorem Vk {K : PySem.W.Frag} {c : Bool} {f : Op1} {fa : Ev} {σ : Sg} {H : Hp} {Q : VK} (h : tD K (MI c (o1 f) [fa]) σ H Q) : tUn (rUn K f) (tD K fa) σ H Q := by
 obtain ⟨M, E, S, d, S', e, r, st, q⟩ := h
 have z : tD K fa σ H fun x H1 => rN K (o1 f) [x] H1 Q := Jo (Q := Q) e r st q
 exact GU z fun x H1 z1 => VB z1
section
variable {X : Cx} {a b e : Expr} {es : List Expr} {fa fb : Ev} {fs : List Ev} {pos p : Pos} {c : Bool}
theorem AX {op : Operator} {f : Op2} (ho : OpR X (binaryOp op) (rOp X.K f)) (ha : DE X a fa) (hb : DE X b fb) : DE X (.BinOp a op b pos) (MI c (o2 f) [fa, fb]) := ⟨Bh (XO ho ha.pe hb.pe) fun _ _ _ h => Lw h⟩
theorem HV {op : CmpOp} {f : Op2} (ho : OpR X (compareOp op) (rOp X.K f)) (ha : DE X a fa) (hb : DE X b fb) (hm : behindInMarks op b = false := by rfl) : DE X (.Compare a [op] [b] pos) (MI c (o2 f) [fa, fb]) := ⟨Bh (Ta ho ha.pe hb.pe hm) fun _ _ _ h => Lw h⟩
theorem Lm {op : UnaryOp} {f : Op1} (ho : UnR X (unaryOp op) (rUn X.K f)) (ha : DE X a fa) : DE X (.UnaryOp op a pos) (MI c (o1 f) [fa]) := ⟨Bh (Xk ho ha.pe) fun _ _ _ h => Vk h⟩
theorem AK {f : Op2} (hr : IxR X (rOp X.K f)) (ha : DE X a fa) (hb : DE X b fb) (hs : O6 b := by exact fun _ _ => rfl) : DE X (.Subscript a b pos) (MI c (o2 f) [fa, fb]) := ⟨Bh (X0 hr ha.pe hb.pe hs) fun _ _ _ h => Lw h⟩
theorem Aq {id : String} {x : Str} {f : OpN} (hc : Dh X (.builtin id) (rN X.K f)) (hg : Gl X x) (hm : X.mg x = none) (hv : bootBuiltins x = some (.builtin id)) (ha : DEs X (e :: es) fs) (hn : x ≠ "__name__" := by decide) (hdb : (x == ("__debug__" : Str)) = false := by decide)
  (he : starEach (e :: es) X.env = (false, eval e X.env) :: starEach es X.env := by rfl) (hpl : (backTo pos (starEach es X.env)).any (·.1) = false := by rfl) : DE X (.Call (.Name x p) (e :: es) [] pos) (MI c f fs) := ⟨
 Bh (RJ hc hg hm hv ha.pe hn hdb he hpl) fun _ _ _ h => by
  obtain ⟨M, E, S, d, S', e, r, st, q⟩ := h
  exact Jo e r st q⟩
theorem CP {T : String} {x : Str} {f : OpN} (hc : Dh X (.type T) (rN X.K f)) (hg : Gl X x) (hm : X.mg x = none) (hv : bootBuiltins x = some (.type T)) (ha : DEs X (e :: es) fs) (hn : x ≠ "__name__" := by decide) (hdb : (x == ("__debug__" : Str)) = false := by decide)
  (he : starEach (e :: es) X.env = (false, eval e X.env) :: starEach es X.env := by rfl) (hpl : (backTo pos (starEach es X.env)).any (·.1) = false := by rfl) : DE X (.Call (.Name x p) (e :: es) [] pos) (MI c f fs) := ⟨
 Bh (Om hc hg hm hv ha.pe hn hdb he hpl) fun _ _ _ h => by
  obtain ⟨M, E, S, d, S', e, r, st, q⟩ := h
  exact Jo e r st q⟩
def eC (d : D) : Ev := fun _ S => some (d, S)
theorem K5 {v : V} {d : D} (h : PE X e (tC v)) (r : ∀ K M H, C8 K M H v d) : DE X e (eC d) := ⟨Bh h fun σ H Q z => by
 obtain ⟨M, E, S, w, S', e, rr, st, q⟩ := z
 cases e
 exact q _ _ M (.refl st.mo) st (r _ _ _)⟩
theorem AE {i : Int} {j : Nat} : DE X (.Constant (.int i) j pos) (eC (.int i)) := K5 VD fun _ _ _ => .int _
theorem Ko {i : Bool} {j : Nat} : DE X (.Constant (.bool i) j pos) (eC (.bl i)) := K5 XT fun _ _ _ => .bl _
theorem Ca {i : Str} {j : Nat} : DE X (.Constant (.str i) j pos) (eC (.str i)) := K5 Ug fun _ _ _ => .str _
theorem Oe {j : Nat} : DE X (.Constant .none j pos) (eC .non) := K5 VE fun _ _ _ => .non
def eV (i : Nat) : Ev := fun E S => (at? E i).map fun d => (d, S)
theorem AB (i : Nat) {x : Str} (hN : X.N[i]? = some x := by rfl) (hv : Vis X.env.scope x := by first | exact Or.inl rfl | exact Or.inr (Or.inl rfl) | exact Or.inr (Or.inr rfl)) (hd : (x == ("__debug__" : Str)) = false := by decide)
  (hcd : (x == ("__classdict__" : Str)) = false := by decide) : DE X (.Name x pos) (eV i) := ⟨Bh (U4 hN hv hd hcd) fun σ H Q z => by
 obtain ⟨M, E, S, d, S', e, r, st, q⟩ := z
 obtain ⟨d', e1, e⟩ := Jl e
 cases e
 obtain ⟨v, hv, rd⟩ := r.val i d (at?_some e1)
 exact ⟨v, hv, q v H M (.refl st.mo) st rd⟩⟩
end
end Mi
end
section
namespace Mi
open PySem PySem.Spec L2
theorem FF : fillsNumberSlot (.type "tuple") "mul" = pure false :=
 fillsNumberSlot_seq (id := "tuple.__mul__") (r := some (.builtin "tuple.__rmul__")) F.slot_tuple_mul.lookup (by decide +kernel) F.slot_tuple_rmul.lookup (by decide +kernel)
theorem Hc : seqRepeat? (.type "tuple") = pure (some (.builtin "tuple.__mul__")) := by
 unfold seqRepeat?
 rw [seqSlot_of (T := "tuple") (name := "__mul__") (id := "tuple.__mul__") F.slot_tuple_mul.lookup (by decide +kernel), seqSlot_of (T := "tuple") (name := "__rmul__") (id := "tuple.__rmul__") F.slot_tuple_rmul.lookup (by decide +kernel)]
 rfl
theorem GC (a : Int) (t : Tok) (l : Addr) (items : Array Value) (n : Nat) (dd : Option Addr) (sl : Array (Option Value)) :
  Meets (Builtin.«int.__rmul__» ⟨[.int a t, .ref l], []⟩) (fun _ R s => s.heap.get? l = some { cls := .type "tuple", dict := dd, data := .seq items n, slots := sl } /\ R (.ok (.ret Value.notImplemented)) s) :=
 .of_wp fun prog w A R s h => by obtain ⟨hp, g, d, tk, os⟩ := s; obtain ⟨hl, h⟩ := h; wp_walk; exact ⟨_, rfl, h⟩
theorem K8 (its : List Value) (m : Nat) : List.foldl (fun x1 x2 => x1 ++ x2) #[] (List.replicate m its.toArray) = (List.replicate m its).flatten.toArray := by
 have := foldl_rep its m []
 rw [List.nil_append] at this
 exact this
theorem Sm {X : Cx} : OpR X (binaryOp .Mult) (fun x y H Q => ∃ a xs k, x = .ref a /\ y = .int k /\ SqT X.K H a xs /\ xs ≠ [] /\ 1 ≤ k /\ xs.length * k.toNat ≤ sizeLine /\ (k = 1 -> Q (.ref a) H) /\ (k ≠ 1 -> ∀ p, H p = none -> Q (.ref p) (upd H p (.tup (List.replicate k.toNat xs).flatten)))) := by
  intro pins s σ H x y v u Q I rx ry h
  obtain ⟨a, xs, k, rfl, rfl, hx, hne, hk, hz, q1, q2⟩ := h
  cases rx
  obtain ⟨t, rfl⟩ := ry
  obtain ⟨its, r, ⟨⟨c, dd, data, sl⟩, ho, hc, n, hd⟩, hzz⟩ := I.tuple hx
  simp only at hc hd
  subst hc hd
  have hl := r.length
  have hsz : its.toArray.size = xs.length := by rw [List.size_toArray]; exact hl.symm
  have hpos : 0 < xs.length := List.length_pos_iff.mpr hne
  have hkl : k.toNat ≤ sizeLine := Nat.le_trans (Nat.le_mul_of_pos_left _ hpos) hz
  have hk63 : k < 2 ^ 63 := by
    have : (sizeLine : Nat) < 2 ^ 63 := by decide
    omega
  refine wpAny_binaryOp_repeat_ref (T := "tuple") (U := "int") (by decide) ⟨_, ho, rfl⟩ (fun s' => typeIs_int s' k t) FF F.fills_int_mul F.slot_int_rmul Hc F.slot_int_index.lookup
    (call_meets F.slot_int_rmul (typeIs_int s k t) F.entry_int_rmul (F.args_int_rmul_2 _ _) (GC k t a its.toArray n dd sl) ⟨ho, rfl, ⟨_, ho, rfl⟩, ?_⟩)
  refine wpAny_call_entry F.slot_tuple_mul ⟨_, ho, rfl⟩ F.entry_tuple_mul ?_ (F.args_tuple_mul_2 _ _)
  unfold Builtin.«tuple.__mul__»
  wp_walk using AutoSeq1.wpAny_loadPart' ho
  rw [if_neg (show ¬ (decide (k < -2 ^ 63) || decide (k ≥ 2 ^ 63)) = true by
    rw [Bool.or_eq_true]
    rintro (z | z)
    · have := of_decide_eq_true z; omega
    · have := of_decide_eq_true z; omega)]
  wp_walk using AutoSeq1.wpAny_loadPart' ho
  by_cases h1 : k = 1
  · subst h1
    rw [if_pos (show (its.toArray.isEmpty || (1 : Int) == 1) = true by simp)]
    wp_walk using AutoSeq1.wpAny_loadPart' ho
    exact ⟨_, rfl, .ref a, H, I, rfl, q1 rfl⟩
  · have hemp : its.toArray.isEmpty = false := by
      cases its with
      | nil => rw [List.length_nil] at hl; omega
      | cons b bs => rfl
    rw [if_neg (show ¬ (its.toArray.isEmpty || k == 1) = true by rw [hemp]; simpa using h1)]
    wp_walk using AutoSeq1.wpAny_loadPart' ho
    have hmul : ((its.toArray.size : Int) * k) = ((xs.length * k.toNat : Nat) : Int) := by
      rw [hsz, Int.natCast_mul]
      congr 1
      omega
    rw [if_neg (show ¬ (decide (k ≤ 0) || its.toArray.isEmpty) = true by
      rw [hemp, Bool.or_false]
      intro z
      have := of_decide_eq_true z
      omega)]
    wp_walk
    rw [if_neg (show ¬ ((its.toArray.size : Int) * k > (2 ^ 63 - 1) / 8) by
      rw [hmul]
      have : (sizeLine : Nat) ≤ (2 ^ 63 - 1) / 8 := by decide
      omega)]
    wp_walk
    rw [if_neg (show ¬ Builtin.Tuple.tupleTooMany ((its.toArray.size : Int) * k) = true by
      unfold Builtin.Tuple.tupleTooMany
      rw [hmul]
      intro z
      have := of_decide_eq_true z
      omega)]
    rw [K8]
    wp_walk
    have hlen : (List.replicate k.toNat its).flatten.length ≤ sizeLine := by rw [len_rep, Nat.mul_comm, ← hl]; exact hz
    rw [if_neg (show ¬ ((List.replicate k.toNat its).flatten.toArray.size > sizeLine) by rw [List.size_toArray]; omega)]
    wp_walk
    refine ⟨_, rfl, .ref _, _, I.laid (o := .tup (List.replicate k.toNat xs).flatten) (t' := s.toks) (fun b ob q => Heap.get?_push_of_some _ q) (Nat.le_refl _) ?_, rfl, q2 h1 _ (I.hok.fresh (Nat.le_refl _))⟩
    exact ⟨by rw [len_rep, Nat.mul_comm]; exact hz, _, r.rep k.toNat, PyProof.Rows.IsTup.new _ _⟩
end Mi
end
section
namespace Mi
open PySem PySem.Spec L2
mutual
def D.py : D -> PyData
 | .non => .none | .bl b => .bool b | .int i => .int i | .str x => .str x | .ty _ => .none
 | .tup ds => .tuple (D.pys ds) | .lst ds => .list (D.pys ds) | .dct _ => .none | .scr _ => .none | .ref _ => .none
def D.pys : List D -> List PyData
 | [] => []
 | d :: ds => D.py d :: D.pys ds
end
mutual
def D.lay : D -> Bool
 | .non => true | .bl _ => true | .int _ => true | .str x => PySem.PyData.strOk x | .ty _ => false | .dct _ => false | .scr _ => false | .ref _ => false
 | .tup ds => D.lays ds | .lst ds => D.lays ds
def D.lays : List D -> Bool
 | [] => true
 | d :: ds => D.lay d && D.lays ds
end
mutual
theorem HI : ∀ {d : D}, d.lay = true -> d.py.canLay0 = true
 | .non, _ => rfl
 | .bl _, _ => rfl
 | .int _, _ => rfl
 | .str x, h => h
 | .ty _, h => Bool.noConfusion h
 | .dct _, h => Bool.noConfusion h
 | .scr _, h => Bool.noConfusion h
 | .ref _, h => Bool.noConfusion h
 | .tup ds, h => by show PyData.canLayAll0 (D.pys ds) = true; exact J6 h
 | .lst ds, h => by show PyData.canLayAll0 (D.pys ds) = true; exact J6 h
theorem J6 : ∀ {ds : List D}, D.lays ds = true -> PyData.canLayAll0 (D.pys ds) = true
  | [], _ => rfl
  | d :: ds, h => by
    have h' : (D.lay d && D.lays ds) = true := h
    rw [Bool.and_eq_true] at h'
    show (PyData.canLay0 d.py && PyData.canLayAll0 (D.pys ds)) = true
    rw [HI h'.1, J6 h'.2]; rfl
end
section
variable {X : Cx} {pins : List (Addr × Obj)} {σ : Sg} {H : Hp} {s : Shared} {M : Ms}
theorem Iy (I : Inv X pins σ H s) {a : Addr} {xs : List V} (h : Rd H a (.lst xs)) : ∃ its : List Value, Vals xs its /\ ∃ o n, s.heap.get? a = some o /\ o.cls = .type "list" /\ o.data = .seq its.toArray n := by
 obtain ⟨z, its, n, r, e⟩ := h.ok I.hok
 exact ⟨its, r, _, n, e, rfl, rfl⟩
mutual
theorem C8.reads (I : Inv X pins σ H s) : ∀ {v : V} {d : D} {u : Value}, C8 X.K M H v d -> RelV v u -> d.lay = true -> ∃ as, Reads s.heap u d.py as
  | _, _, _, .non, r, _ => by cases r; exact ⟨_, .none⟩
  | _, _, _, .bl b, r, _ => by cases r; exact ⟨_, .bool b⟩
  | _, _, _, .int b, r, _ => by obtain ⟨t, rfl⟩ := r; exact ⟨_, .int b t⟩
  | _, _, _, .str b, r, _ => by obtain ⟨t, rfl⟩ := r; exact ⟨_, .str b t⟩
  | _, _, _, .ty _, _, h => Bool.noConfusion h
  | _, _, _, .dct _ _ _, _, h => Bool.noConfusion h
  | _, _, _, .ref _, _, h => Bool.noConfusion h
  | _, _, _, .scr _, _, h => Bool.noConfusion h
  | _, _, _, .tup h rs, r, hl => by
    cases r
    obtain ⟨its, rv, ⟨o, e, hc, n, hd⟩, _⟩ := I.tuple h
    obtain ⟨as, ra⟩ := AW.reads I rs rv hl
    exact ⟨as, .tuple e hc hd ra⟩
  | _, _, _, .lst h _ rs, r, hl => by
    cases r
    obtain ⟨its, rv, o, n, e, hc, hd⟩ := Iy I (.inl h)
    obtain ⟨as, ra⟩ := AW.reads I rs rv hl
    exact ⟨_, .list e hc hd ra⟩
theorem AW.reads (I : Inv X pins σ H s) : ∀ {vs : List V} {ds : List D} {us : List Value}, AW X.K M H vs ds -> Vals vs us -> D.lays ds = true -> ∃ as, ReadsAll s.heap us (D.pys ds) as
  | _, _, _, .nil, r, _ => by cases r; exact ⟨_, .nil⟩
  | _, _, _, .cons (d := d) (ds := ds) h t, r, hl => by
    cases r with
    | cons r1 r2 =>
      have hl' : (D.lay d && D.lays ds) = true := hl
      rw [Bool.and_eq_true] at hl'
      obtain ⟨as, ra⟩ := C8.reads I h r1 hl'.1
      obtain ⟨bs, rb⟩ := AW.reads I t r2 hl'.2
      exact ⟨_, .cons ra rb⟩
end
end
def deq (a b : D) : Bool := PyData.eqv a.py b.py
def Cu (a b : D) : Bool := a.lay && b.lay && decide (min a.py.depth b.py.depth ≤ 60)
def wEq : Op2 := fun a b => if Cu (fz a) (fz b) = true then some (.val (.bl (deq (fz a) (fz b)))) else none
def wNe : Op2 := fun a b => if Cu (fz a) (fz b) = true then some (.val (.bl (!deq (fz a) (fz b)))) else none
section
variable {X : Cx}
theorem Sh.reads {pins : List (Addr × Obj)} {σ : Sg} {H : Hp} {s : Shared} {M : Ms} {v : V} {u : Value} {w : Wv} (h : Sh X.K M H v w) (I : Inv X pins σ H s) (r : RelV v u) (hl : (fz w).lay = true) : ∃ as, Reads s.heap u (fz w).py as := by
  cases w with
  | val d => exact C8.reads I h r hl
  | own ds =>
    obtain ⟨a, xs, rfl, h1, h2⟩ := h
    cases r
    obtain ⟨its, rv, o, n, e, hc, hd⟩ := Iy I (.inl h1)
    obtain ⟨as, ra⟩ := AW.reads I h2 rv hl
    exact ⟨_, .list e hc hd ra⟩
theorem Ds (hu : X.A.units + 100 < cLine) : OpR X (compareOp .Eq) (rOp X.K wEq) := by
 intro pins s σ H x y v u Q I rx ry h
 obtain ⟨M, w1, w2, r, e, mo, s1, s2, q⟩ := h
 unfold wEq at e
 split at e
 ·rename_i hk
  unfold Cu at hk
  rw [Bool.and_eq_true, Bool.and_eq_true] at hk
  cases e
  obtain ⟨as, ra⟩ := s1.reads I rx hk.1.1
  obtain ⟨bs, rb⟩ := s2.reads I ry hk.1.2
  have hd := of_decide_eq_true hk.2
  exact SeqAt.compareEq_reads ra rb (HI hk.1.1) (HI hk.1.2) (by omega) ⟨.bl _, H, I, rfl, q _ _ (.same mo (.bl _))⟩
 ·cases e
theorem Gg (hu : X.A.units + 100 < cLine) : OpR X (compareOp .NotEq) (rOp X.K wNe) := by
 intro pins s σ H x y v u Q I rx ry h
 obtain ⟨M, w1, w2, r, e, mo, s1, s2, q⟩ := h
 unfold wNe at e
 split at e
 ·rename_i hk
  unfold Cu at hk
  rw [Bool.and_eq_true, Bool.and_eq_true] at hk
  cases e
  obtain ⟨as, ra⟩ := s1.reads I rx hk.1.1
  obtain ⟨bs, rb⟩ := s2.reads I ry hk.1.2
  have hd := of_decide_eq_true hk.2
  exact SeqAt.compareNe_reads ra rb (HI hk.1.1) (HI hk.1.2) (by omega) ⟨.bl _, H, I, rfl, q _ _ (.same mo (.bl _))⟩
 ·cases e
def wI2 (f : Int -> Int -> Option D) : Op2
 | .val (.int i), .val (.int j) => (f i j).map .val
 | _, _ => none
theorem MB {g : Value -> Value -> Sem Value} {C : Int -> Int -> Prop} {h : Int -> Int -> V} {f : Int -> Int -> Option D} (o : OpR X g (rI C h)) (hf : ∀ i j d, f i j = some d -> C i j /\ ∀ K M H, C8 K M H (h i j) d) : OpR X g (rOp X.K (wI2 f)) := by
  intro pins s σ H x y v u Q I rx ry hh
  obtain ⟨M, w1, w2, r, e, mo, s1, s2, q⟩ := hh
  unfold wI2 at e
  split at e
  · cases s1
    cases s2
    rename_i i j
    cases e1 : f i j with
    | none => rw [e1] at e; cases e
    | some d =>
      rw [e1] at e
      cases e
      obtain ⟨c, rd⟩ := hf i j d e1
      exact o pins s σ H _ _ v u Q I rx ry ⟨i, j, rfl, rfl, c, q _ _ (.same mo (rd _ _ _))⟩
  · cases e
theorem IX {g : Value -> Value -> Sem Value} {h : Int -> Int -> V} {f : Int -> Int -> Option D} (o : OpR X g (rI0 h)) (hf : ∀ i j d, f i j = some d -> ∀ K M H, C8 K M H (h i j) d) : OpR X g (rOp X.K (wI2 f)) := by
  intro pins s σ H x y v u Q I rx ry hh
  obtain ⟨M, w1, w2, r, e, mo, s1, s2, q⟩ := hh
  unfold wI2 at e
  split at e
  · cases s1
    cases s2
    rename_i i j
    cases e1 : f i j with
    | none => rw [e1] at e; cases e
    | some d =>
      rw [e1] at e
      cases e
      exact o pins s σ H _ _ v u Q I rx ry ⟨i, j, rfl, rfl, q _ _ (.same mo (hf i j d e1 _ _ _))⟩
  · cases e
def P1 : Op2 := wI2 fun i j => some (.int (i - j))
def Rp : Nat := 2 ^ 60000
def EM : Nat := 2 ^ 8000
def Cp (i j : Int) : Bool := decide (i.natAbs < 2 ^ 64) || (decide (j.natAbs < 2 ^ 64) || (decide (i.natAbs < Rp) && decide (j.natAbs < Rp)))
theorem Tj : OpR X (binaryOp .Mult) (rI (fun i j => Cp i j = true) fun i j => .int (i * j)) := by
 intro pins s σ H x y v u Q I rx ry h
 obtain ⟨i, j, rfl, rfl, hk, q⟩ := h
 unfold Cp at hk
 rw [Bool.or_eq_true, Bool.or_eq_true, Bool.and_eq_true] at hk
 rcases hk with hk | hk | hk
 ·have := of_decide_eq_true hk
  exact SD pins s σ H _ _ v u Q I rx ry ⟨i, j, rfl, rfl, .inl ⟨by omega, by omega⟩, q⟩
 ·have := of_decide_eq_true hk
  exact SD pins s σ H _ _ v u Q I rx ry ⟨i, j, rfl, rfl, .inr ⟨by omega, by omega⟩, q⟩
 ·have h1 : i.natAbs < 2 ^ 60000 := of_decide_eq_true hk.1
  have h2 : j.natAbs < 2 ^ 60000 := of_decide_eq_true hk.2
  obtain ⟨t1, rfl⟩ := rx
  obtain ⟨t2, rfl⟩ := ry
  exact PyProof.Rows.mul_int ⟨.int _, H, I.tok _, ⟨_, rfl⟩, q⟩ (PyProof.Rows.mulOk_of_bits (m := 60000) (n := 60000) (PySem.intBits_le_iff.mpr h1) (PySem.intBits_le_iff.mpr h2) (by decide))
def VN : Op2 := wI2 fun i j => if Cp i j = true then some (.int (i * j)) else none
def Ju : Op2 := wI2 fun i j => if (decide (0 < j) && decide (j.natAbs < EM)) = true then some (.int (i / j)) else none
def MO : Op2 := wI2 fun i j => if 0 < j then some (.int (i % j)) else none
def WI : Op2 := wI2 fun i j => if (decide (0 ≤ j) && decide (j ≤ 1000) && decide (i.natAbs < 2 ^ 64)) = true then some (.int (i ^ j.toNat)) else none
def wLt : Op2 := wI2 fun i j => some (.bl (decide (i < j)))
def wLe : Op2 := wI2 fun i j => some (.bl (decide (i ≤ j)))
def wGt : Op2 := wI2 fun i j => some (.bl (decide (j < i)))
def wGe : Op2 := wI2 fun i j => some (.bl (decide (j ≤ i)))
theorem G7 : OpR X (binaryOp .Sub) (rOp X.K P1) := IX VI fun i j d e K M H => by cases e; exact .int _
theorem SW : OpR X (binaryOp .Mult) (rOp X.K VN) := MB Tj fun i j d e => by
 split at e
 ·rename_i hk
  cases e
  exact ⟨hk, fun _ _ _ => .int _⟩
 ·cases e
theorem E5 : OpR X (binaryOp .FloorDiv) (rOp X.K Ju) := MB St.Qf fun i j d e => by
 split at e
 ·rename_i hk
  rw [Bool.and_eq_true] at hk
  cases e
  exact ⟨⟨of_decide_eq_true hk.1, of_decide_eq_true hk.2⟩, fun _ _ _ => .int _⟩
 ·cases e
theorem Ey : OpR X (binaryOp .Mod) (rOp X.K MO) := MB Vt fun i j d e => by
 split at e
 ·rename_i hk
  cases e
  exact ⟨hk, fun _ _ _ => .int _⟩
 ·cases e
theorem OW : OpR X (binaryOp .Pow) (rOp X.K WI) := MB Ua fun i j d e => by
 split at e
 ·rename_i hk
  rw [Bool.and_eq_true, Bool.and_eq_true] at hk
  cases e
  have := of_decide_eq_true hk.1.2
  exact ⟨⟨of_decide_eq_true hk.1.1, by omega, of_decide_eq_true hk.2⟩, fun _ _ _ => .int _⟩
 ·cases e
theorem Rt : OpR X (compareOp .Lt) (rOp X.K wLt) := IX XC fun i j d e K M H => by cases e; exact .bl _
theorem UT : OpR X (compareOp .LtE) (rOp X.K wLe) := IX Xw fun i j d e K M H => by cases e; exact .bl _
theorem OY : OpR X (compareOp .Gt) (rOp X.K wGt) := IX Xn fun i j d e K M H => by cases e; exact .bl _
theorem PX : OpR X (compareOp .GtE) (rOp X.K wGe) := IX Yd fun i j d e K M H => by cases e; exact .bl _
def asL : Wv -> Option (List D)
 | .own ds => some ds
 | .val (.lst ds) => some ds
 | _ => none
def asT : Wv -> Option (List D)
 | .val (.tup ds) => some ds
 | _ => none
def asC : Wv -> Option (List D)
 | .val (.scr ns) => some (ns.map .int)
 | _ => none
def asS (w : Wv) : Option (List D) := (asL w).or ((asT w).or (asC w))
section
variable {K : PySem.W.Frag} {M : Ms} {H : Hp} {v : V} {w : Wv} {ds : List D}
theorem Sh.l (h : Sh K M H v w) (e : asL w = some ds) : ∃ a xs, v = .ref a /\ H a = some (.lst xs) /\ AW K M H xs ds := by
  cases w with
  | own es => cases e; obtain ⟨a, xs, rfl, h1, h2⟩ := h; exact ⟨a, xs, rfl, h1, h2⟩
  | val d =>
    cases d <;> first | (cases e; done) | skip
    cases e
    cases h with
    | lst h n r => exact ⟨_, _, rfl, h, r⟩
theorem Sh.t (h : Sh K M H v w) (e : asT w = some ds) : ∃ a xs, v = .ref a /\ SqT K H a xs /\ AW K M H xs ds := by
  cases w with
  | own es => cases e
  | val d =>
    cases d <;> first | (cases e; done) | skip
    cases e
    cases h with
    | tup h r => exact ⟨_, _, rfl, h, r⟩
theorem Hu : ∀ {ns : List Int}, AW K M H (ns.map V.int) (ns.map D.int)
 | [] => .nil
 | n :: ns => .cons (.int n) Hu
theorem Sh.c (h : Sh K M H v w) (e : asC w = some ds) : ∃ a xs, v = .ref a /\ SqL K H a xs /\ AW K M H xs ds := by
  cases w with
  | own es => cases e
  | val d =>
    cases d <;> first | (cases e; done) | skip
    cases e
    cases h with
    | scr h =>
      refine ⟨_, _, rfl, ?_, Hu⟩
      rcases h with h | h
      · exact .inl h.1
      · exact .inr h
theorem Sh.s (h : Sh K M H v w) (e : asS w = some ds) : ∃ a xs, v = .ref a /\ (SqL K H a xs ∨ SqT K H a xs) /\ AW K M H xs ds := by
  unfold asS at e
  cases e1 : asL w with
  | some es =>
    rw [e1] at e
    cases e
    obtain ⟨a, xs, h1, h2, h3⟩ := h.l e1
    exact ⟨a, xs, h1, .inl (.of h2), h3⟩
  | none =>
    rw [e1] at e
    cases e2 : asT w with
    | some es =>
      rw [e2] at e
      cases e
      obtain ⟨a, xs, h1, h2, h3⟩ := h.t e2
      exact ⟨a, xs, h1, .inr h2, h3⟩
    | none =>
      rw [e2] at e
      obtain ⟨a, xs, h1, h2, h3⟩ := h.c e
      exact ⟨a, xs, h1, .inl h2, h3⟩
end
def GW : Op1 := fun w => match w with
 | .val (.str z) => if z.length ≤ sizeLine then some (.val (.int z.length)) else none
 | _ => (asS w).map fun ds => .val (.int ds.length)
theorem B0 : Dh X (.builtin "len") (rN X.K (o1 GW)) := by
  intro pins s σ H xs us Q I r h
  obtain ⟨M, ws, w, e, mo, sh, q⟩ := h
  cases sh with
  | nil => cases e
  | cons h1 t =>
    cases t with
    | cons h2 t => cases e
    | nil =>
      rename_i v w1
      have e' : GW w1 = some w := e
      unfold GW at e'
      split at e'
      · split at e'
        · rename_i z hz
          cases e'
          cases h1
          exact Kj pins s σ H _ us Q I r ⟨z, rfl, hz, q _ _ (.same mo (.int _))⟩
        · cases e'
      · cases e1 : asS w1 with
        | none => rw [e1] at e'; cases e'
        | some ds =>
          rw [e1] at e'
          cases e'
          obtain ⟨a, ys, rfl, h3, h4⟩ := h1.s e1
          refine LG pins s σ H _ us Q I r ⟨a, ys, rfl, h3, q _ _ ?_⟩
          rw [h4.length]
          exact .same mo (.int _)
def wIx : Op2 := fun a b => match a, b with
 | a, .val (.int i) => (asS a).bind fun ds => (atI ds i).map .val
 | _, _ => none
theorem UA {K : PySem.W.Frag} {M : Ms} {H : Hp} {xs : List V} {ds : List D} {i : Int} {d : D} (h : AW K M H xs ds) (e : atI ds i = some d) : ∃ x, atI xs i = some x /\ C8 K M H x d := by
  unfold atI at e ⊢
  rw [h.length]
  cases e1 : ixN ds.length i with
  | none => rw [e1] at e; cases e
  | some j =>
    rw [e1] at e
    exact h.get e
theorem Ag : IxR X (rOp X.K wIx) := by
  intro value slice pins s σ H x y v u Q I rx ry h hs
  obtain ⟨M, w1, w2, r, e, mo, s1, s2, q⟩ := h
  unfold wIx at e
  split at e
  · rename_i i
    cases e1 : asS w1 with
    | none => rw [e1] at e; cases e
    | some ds =>
      rw [e1] at e
      simp only [Option.bind_some] at e
      cases e2 : atI ds i with
      | none => rw [e2] at e; cases e
      | some d =>
        rw [e2] at e
        cases e
        cases s2
        obtain ⟨a, ys, rfl, h3, h4⟩ := s1.s e1
        obtain ⟨z, h5, h6⟩ := UA h4 e2
        rcases h3 with h3 | h3
        · exact Tx value slice pins s σ H _ _ v u Q I rx ry ⟨a, ys, i, z, rfl, rfl, h3, h5, q _ _ (.same mo h6)⟩ hs
        · exact Uc value slice pins s σ H _ _ v u Q I rx ry ⟨a, ys, i, z, rfl, rfl, h3, h5, q _ _ (.same mo h6)⟩ hs
  · cases e
end
end Mi
end
section
namespace Mi
open PySem PySem.Spec L2
section
variable {X : Cx}
def EE : Op2 := fun a b => match a, b with
 | .val (.int i), .val (.int j) => some (.val (.int (i + j)))
 | .val (.str x), .val (.str y) => if x.length + y.length ≤ sizeLine then some (.val (.str (x ++ y))) else none
 | .val (.tup xs), .val (.tup ys) => if xs.length + ys.length ≤ sizeLine then some (.val (.tup (xs ++ ys))) else none
 | a, b => (asL a).bind fun xs => (asL b).bind fun ys => if xs.length + ys.length ≤ sizeLine then some (.own (xs ++ ys)) else none
theorem Al : OpR X (binaryOp .Add) (rOp X.K EE) := by
  intro pins s σ H x y v u Q I rx ry h
  obtain ⟨M, w1, w2, r, e, mo, s1, s2, q⟩ := h
  unfold EE at e
  split at e
  · cases e
    cases s1; cases s2
    exact Vy pins s σ H _ _ v u Q I rx ry ⟨_, _, rfl, rfl, q _ _ (.same mo (.int _))⟩
  · split at e
    · cases e
      cases s1; cases s2
      exact NJ pins s σ H _ _ v u Q I rx ry ⟨_, _, rfl, rfl, by assumption, q _ _ (.same mo (.str _))⟩
    · cases e
  · split at e
    · rename_i xs ys hz
      cases e
      cases s1 with
      | tup h1 r1 =>
        cases s2 with
        | tup h2 r2 =>
          rename_i a xs' b ys'
          have l1 := r1.length
          have l2 := r2.length
          by_cases hx : xs' = []
          · subst hx
            cases r1
            refine St.T8 pins s σ H _ _ v u Q I rx ry ⟨_, _, _, rfl, rfl, h1, h2, q _ _ (.same mo ?_)⟩
            exact .tup h2 r2
          · refine UC pins s σ H _ _ v u Q I rx ry ⟨_, _, _, _, rfl, rfl, h1, h2, hx, by omega, fun z => ?_, fun _ p hp => q _ _ (.tup mo hp (r1.append r2))⟩
            subst z
            cases r2
            rw [List.append_nil] at q
            exact q _ _ (.same mo (.tup h1 r1))
    · cases e
  · cases e1 : asL w1 with
    | none => rw [e1] at e; cases e
    | some xs =>
      rw [e1] at e
      cases e2 : asL w2 with
      | none => rw [e2] at e; cases e
      | some ys =>
        rw [e2] at e
        simp only [Option.bind_some] at e
        split at e
        · rename_i hz
          cases e
          obtain ⟨a, xs', rfl, h1, r1⟩ := s1.l e1
          obtain ⟨b, ys', rfl, h2, r2⟩ := s2.l e2
          have l1 := r1.length
          have l2 := r2.length
          exact VY pins s σ H _ _ v u Q I rx ry ⟨a, b, xs', ys', rfl, rfl, h1, h2, by omega, fun p hp => q _ _ (.lst mo hp (r1.append r2))⟩
        · cases e
def W9 : Op2 := fun a b => match a, b with
 | .val (.int i), .val (.int j) => if Cp i j = true then some (.val (.int (i * j))) else none
 | .val (.tup xs), .val (.int k) => if (!xs.isEmpty && decide (1 ≤ k) && decide (xs.length * k.toNat ≤ sizeLine)) = true then some (.val (.tup (List.replicate k.toNat xs).flatten)) else none
 | a, .val (.int k) => (asL a).bind fun xs => if (decide (k < 2 ^ 63) && decide (-(2 ^ 63) ≤ k) && decide (xs.length * k.toNat ≤ sizeLine)) = true then some (.own (List.replicate k.toNat xs).flatten) else none
 | _, _ => none
theorem AW.rep {K : PySem.W.Frag} {M : Ms} {H : Hp} {xs : List V} {ds : List D} (h : AW K M H xs ds) : ∀ n : Nat, AW K M H (List.replicate n xs).flatten (List.replicate n ds).flatten
  | 0 => .nil
  | n + 1 => by
    rw [List.replicate_succ, List.replicate_succ, List.flatten_cons, List.flatten_cons]
    exact h.append (AW.rep h n)
theorem PU : OpR X (binaryOp .Mult) (rOp X.K W9) := by
  intro pins s σ H x y v u Q I rx ry h
  obtain ⟨M, w1, w2, r, e, mo, s1, s2, q⟩ := h
  unfold W9 at e
  split at e
  · rename_i i j
    refine SW pins s σ H x y v u Q I rx ry ⟨M, _, _, r, ?_, mo, s1, s2, q⟩
    unfold VN wI2
    show Option.map Wv.val (if Cp i j = true then some (D.int (i * j)) else none) = some r
    split at e
    · rename_i hk
      rw [if_pos hk]
      exact e
    · cases e
  · rename_i xs k
    split at e
    · rename_i hk
      rw [Bool.and_eq_true, Bool.and_eq_true] at hk
      cases e
      cases s2
      cases s1 with
      | @tup a ys _ h1 r1 =>
        have l1 := r1.length
        have z := of_decide_eq_true hk.2
        have hk1 := of_decide_eq_true hk.1.2
        have hne : ys ≠ [] := fun zz => by
          subst zz
          cases r1
          exact absurd hk.1.1 (by decide)
        refine Sm pins s σ H _ _ v u Q I rx ry ⟨a, ys, k, rfl, rfl, h1, hne, hk1, by rw [l1]; exact z, fun e1 => ?_, fun _ p hp => q _ _ (.tup mo hp (r1.rep _))⟩
        subst e1
        have : (List.replicate (1 : Int).toNat xs).flatten = xs := by simp
        rw [this] at q
        exact q _ _ (.same mo (.tup h1 r1))
    · cases e
  · rename_i k hn hn2
    cases e1 : asL w1 with
    | none => rw [e1] at e; cases e
    | some xs =>
      rw [e1] at e
      simp only [Option.bind_some] at e
      split at e
      · rename_i hk
        rw [Bool.and_eq_true, Bool.and_eq_true] at hk
        cases e
        cases s2
        obtain ⟨a, xs', rfl, h1, r1⟩ := s1.l e1
        have l1 := r1.length
        have z := of_decide_eq_true hk.2
        exact V5 pins s σ H _ _ v u Q I rx ry ⟨a, k, xs', rfl, rfl, h1, of_decide_eq_true hk.1.2, of_decide_eq_true hk.1.1, by rw [l1]; exact z, fun p hp => q _ _ (.lst mo hp (r1.rep _))⟩
      · cases e
  · cases e
def Lx : Op1
 | .val (.int i) => some (.val (.int (-i)))
 | _ => none
theorem GK : UnR X (unaryOp .USub) (rUn X.K Lx) := by
 intro pins s σ H x v Q I rx h
 obtain ⟨M, w, r, e, mo, s1, q⟩ := h
 unfold Lx at e
 split at e
 ·cases e
  cases s1
  exact U5 pins s σ H _ v Q I rx ⟨_, rfl, q _ _ (.same mo (.int _))⟩
 ·cases e
def HK : D -> Bool
 | .non => true | .bl _ => true | .int _ => true | .str _ => true
 | _ => false
theorem Sh.flat {K : PySem.W.Frag} {M : Ms} {H : Hp} {v : V} {w : Wv} (h : Sh K M H v w) (f : HK (fz w) = true) : C8 K M H v (fz w) := by
 cases w with
 | val d => exact h
 | own ds => cases f
def inD (x : D) (xs : List D) : Bool := xs.any fun y => deq y x
theorem MA {K : PySem.W.Frag} {M : Ms} {H : Hp} {v : V} {d : D} (h : C8 K M H v d) (f : HK d = true) : JS v = true := by
 cases h <;> first | rfl | cases f
theorem TF {K : PySem.W.Frag} {M : Ms} {H : Hp} {v u : V} {d e : D} (h : C8 K M H v d) (g : C8 K M H u e) (f : HK d = true) (f' : HK e = true) : eqV v u = deq d e := by
 cases h <;> first | (cases f; done) | skip
 all_goals (cases g <;> first | (cases f'; done) | rfl)
theorem Ke {K : PySem.W.Frag} {M : Ms} {H : Hp} : ∀ {vs : List V} {ds : List D}, AW K M H vs ds -> ds.all HK = true -> vs.all JS = true
  | _, _, .nil, _ => rfl
  | _, _, .cons h t, f => by
    rw [List.all_cons, Bool.and_eq_true] at f ⊢
    exact ⟨MA h f.1, Ke t f.2⟩
theorem O1 {K : PySem.W.Frag} {M : Ms} {H : Hp} {u : V} {e : D} (g : C8 K M H u e) (f' : HK e = true) : ∀ {vs : List V} {ds : List D}, AW K M H vs ds -> ds.all HK = true -> inV u vs = inD e ds
  | _, _, .nil, _ => rfl
  | _, _, .cons h t, f => by
    rw [List.all_cons, Bool.and_eq_true] at f
    have ih := O1 g f' t f.2
    unfold inV inD at ih ⊢
    rw [List.any_cons, List.any_cons, ih, TF h g f.1 f']
def wIn (neg : Bool) : Op2 := fun a b => (asS b).bind fun ds => if (HK (fz a) && ds.all HK) = true then some (.val (.bl (if neg then !inD (fz a) ds else inD (fz a) ds))) else none
theorem R4 {M : Ms} {H : Hp} {x y : V} {w1 w2 r : Wv} {neg : Bool} {Q : VK} (e : wIn neg w1 w2 = some r) (mo : MOk M H) (s1 : Sh X.K M H x w1) (s2 : Sh X.K M H y w2) (q : ∀ v H', Nw X.K M H H' v r -> Q v H') : rIn X.K neg x y H Q := by
  unfold wIn at e
  cases e1 : asS w2 with
  | none => rw [e1] at e; cases e
  | some ds =>
    rw [e1] at e
    simp only [Option.bind_some] at e
    split at e
    · rename_i hk
      rw [Bool.and_eq_true] at hk
      cases e
      obtain ⟨a, xs, rfl, h3, h4⟩ := s2.s e1
      have g1 := s1.flat hk.1
      refine ⟨a, xs, rfl, h3, MA g1 hk.1, Ke h4 hk.2, ?_⟩
      rw [O1 g1 hk.1 h4 hk.2]
      exact q _ _ (.same mo (.bl _))
    · cases e
theorem LK : OpR X (compareOp .In) (rOp X.K (wIn false)) := by
 intro pins s σ H x y v u Q I rx ry h
 obtain ⟨M, w1, w2, r, e, mo, s1, s2, q⟩ := h
 exact Od pins s σ H _ _ v u Q I rx ry (R4 e mo s1 s2 q)
theorem Nk : OpR X (compareOp .NotIn) (rOp X.K (wIn true)) := by
 intro pins s σ H x y v u Q I rx ry h
 obtain ⟨M, w1, w2, r, e, mo, s1, s2, q⟩ := h
 exact LC pins s σ H _ _ v u Q I rx ry (R4 e mo s1 s2 q)
def isN : Wv -> Bool
 | .val .non => true
 | _ => false
def UL (neg : Bool) : Op2 := fun a b => match b with
 | .val .non => some (.val (.bl (if neg then !isN a else isN a)))
 | _ => none
theorem TK {K : PySem.W.Frag} {M : Ms} {H : Hp} {x : V} {w : Wv} (s : Sh K M H x w) : decide (x = .non) = isN w := by
 cases w with
 | own ds => obtain ⟨a, xs, rfl, _⟩ := s; rfl
 | val d => cases s <;> rfl
theorem Ly : OpR X (compareOp .IsNot) (rOp X.K (UL true)) := by
 intro pins s σ H x y v u Q I rx ry h
 obtain ⟨M, w1, w2, r, e, mo, s1, s2, q⟩ := h
 unfold UL at e
 split at e
 ·cases e
  cases s2
  refine TM pins s σ H _ _ v u Q I rx ry ⟨rfl, ?_⟩
  rw [TK s1]
  exact q _ _ (.same mo (.bl _))
 ·cases e
theorem G9 {K : PySem.W.Frag} {M : Ms} {H : Hp} {xs : List V} {ws : List Wv} {f : Op1} {r : Wv} (h : Shs K M H xs ws) (e : o1 f ws = some r) : ∃ v w, xs = [v] /\ ws = [w] /\ Sh K M H v w /\ f w = some r := by
  cases h with
  | nil => cases e
  | cons h1 t =>
    cases t with
    | cons h2 t => cases e
    | nil => exact ⟨_, _, rfl, rfl, h1, e⟩
theorem Li {K : PySem.W.Frag} {M : Ms} {H : Hp} {xs : List V} {ws : List Wv} {f : Op2} {r : Wv} (h : Shs K M H xs ws) (e : o2 f ws = some r) : ∃ v w v' w', xs = [v, v'] /\ ws = [w, w'] /\ Sh K M H v w /\ Sh K M H v' w' /\ f w w' = some r := by
  cases h with
  | nil => cases e
  | cons h1 t =>
    cases t with
    | nil => cases e
    | cons h2 t =>
      cases t with
      | cons h3 t => cases e
      | nil => exact ⟨_, _, _, _, rfl, rfl, h1, h2, e⟩
def UM : Op1
 | .val (.int i) => some (.val (.int (if i < 0 then -i else i)))
 | _ => none
theorem Ie : Dh X (.builtin "abs") (rN X.K (o1 UM)) := by
 intro pins s σ H xs us Q I r h
 obtain ⟨M, ws, w, e, mo, sh, q⟩ := h
 obtain ⟨v, w1, rfl, rfl, s1, e1⟩ := G9 sh e
 unfold UM at e1
 split at e1
 ·cases e1
  cases s1
  exact Qu pins s σ H _ us Q I r ⟨_, rfl, q _ _ (.same mo (.int _))⟩
 ·cases e1
def Wf : Op2 := wI2 fun i j => some (.int (if j > i then j else i))
def UN : Op2 := wI2 fun i j => some (.int (if j < i then j else i))
theorem Ma {f : Int -> Int -> Option D} {a b r : Wv} (e : wI2 f a b = some r) : ∃ i j d, a = .val (.int i) /\ b = .val (.int j) /\ f i j = some d /\ r = .val d := by
 unfold wI2 at e
 split at e
 ·rename_i i j
  cases e1 : f i j with
  | none => rw [e1] at e; cases e
  | some d => rw [e1] at e; cases e; exact ⟨i, j, d, rfl, rfl, e1, rfl⟩
 ·cases e
theorem OS (hc : X.calm = true) : Dh X (.builtin "max") (rN X.K (o2 Wf)) := by
 intro pins s σ H xs us Q I r h
 obtain ⟨M, ws, w, e, mo, sh, q⟩ := h
 obtain ⟨v, w1, v', w2, rfl, rfl, s1, s2, e1⟩ := Li sh e
 obtain ⟨i, j, d, rfl, rfl, e2, rfl⟩ := Ma e1
 cases e2; cases s1; cases s2
 exact OO hc pins s σ H _ us Q I r ⟨_, _, rfl, q _ _ (.same mo (.int _))⟩
theorem Kw (hc : X.calm = true) : Dh X (.builtin "min") (rN X.K (o2 UN)) := by
 intro pins s σ H xs us Q I r h
 obtain ⟨M, ws, w, e, mo, sh, q⟩ := h
 obtain ⟨v, w1, v', w2, rfl, rfl, s1, s2, e1⟩ := Li sh e
 obtain ⟨i, j, d, rfl, rfl, e2, rfl⟩ := Ma e1
 cases e2; cases s1; cases s2
 exact OL hc pins s σ H _ us Q I r ⟨_, _, rfl, q _ _ (.same mo (.int _))⟩
def FY : Op1 := fun w => (asS w).map fun ds => .val (.tup ds)
theorem CY : Dh X (.type "tuple") (rN X.K (o1 FY)) := by
  intro pins s σ H xs us Q I r h
  obtain ⟨M, ws, w, e, mo, sh, q⟩ := h
  obtain ⟨v, w1, rfl, rfl, s1, e1⟩ := G9 sh e
  unfold FY at e1
  cases e2 : asS w1 with
  | none => rw [e2] at e1; cases e1
  | some ds =>
    rw [e2] at e1
    cases e1
    obtain ⟨a, ys, rfl, h3, h4⟩ := s1.s e2
    refine Jy pins s σ H _ us Q I r ⟨a, ys, rfl, ?_⟩
    rcases h3 with h3 | h3
    · exact .inl ⟨h3, fun l hl => q _ _ (.tup mo hl h4)⟩
    · exact .inr ⟨h3, q _ _ (.same mo (.tup h3 h4))⟩
def N8 : Op1 := fun w => (asS w).map fun ds => .own ds
theorem Ji : Dh X (.type "list") (rN X.K (o1 N8)) := by
  intro pins s σ H xs us Q I r h
  obtain ⟨M, ws, w, e, mo, sh, q⟩ := h
  obtain ⟨v, w1, rfl, rfl, s1, e1⟩ := G9 sh e
  unfold N8 at e1
  cases e2 : asS w1 with
  | none => rw [e2] at e1; cases e1
  | some ds =>
    rw [e2] at e1
    cases e1
    obtain ⟨a, ys, rfl, h3, h4⟩ := s1.s e2
    exact Kl pins s σ H _ us Q I r ⟨a, ys, rfl, h3, fun l hl => q _ _ (.lst mo hl h4)⟩
def W4 : Op1
 | .val (.int i) => some (.val (.int i))
 | .val (.bl b) => some (.val (.int (if b then 1 else 0)))
 | _ => none
theorem OD : Dh X (.type "int") (rN X.K (o1 W4)) := by
 intro pins s σ H xs us Q I r h
 obtain ⟨M, ws, w, e, mo, sh, q⟩ := h
 obtain ⟨v, w1, rfl, rfl, s1, e1⟩ := G9 sh e
 unfold W4 at e1
 split at e1
 ·cases e1; cases s1
  exact LM pins s σ H _ us Q I r (.inl ⟨_, rfl, q _ _ (.same mo (.int _))⟩)
 ·cases e1; cases s1
  exact LM pins s σ H _ us Q I r (.inr ⟨_, rfl, q _ _ (.same mo (.int _))⟩)
 ·cases e1
def kdW : Wv -> Option St.Kd
 | .own _ => some .lst
 | .val .non => some .non | .val (.bl _) => some .bl | .val (.int _) => some .int | .val (.str _) => some .str | .val (.lst _) => some .lst | .val (.dct _) => some .dct | .val (.tup _) => some .tup
 | .val (.ty _) => none | .val (.scr _) => none | .val (.ref _) => none
end
end Mi
end
section
namespace Mi
open PySem PySem.Spec L2
section
variable {X : Cx}
theorem Qs {K : PySem.W.Frag} (k : St.Kd) : PySem.W.kitOne K (.type k.ty) (.type "list") = some (k.isA "list") := by
 cases k <;> rfl
def My (T : String) : Bool := T == "int" || T == "bool" || T == "tuple" || T == "str" || T == "list"
theorem Vr {K : PySem.W.Frag} {T : String} (h : My T = true) (k : St.Kd) : PySem.W.kitOne K (.type k.ty) (.type T) = some (k.isA T) := by
 unfold My at h
 simp only [Bool.or_eq_true, beq_iff_eq] at h
 rcases h with (((rfl | rfl) | rfl) | rfl) | rfl
 ·exact St.T7 k
 ·exact St.Q7 k
 ·exact St.kit_tuple k
 ·exact St.Tu k
 ·exact Qs k
def Uq : Op2 := fun a t => match t with
 | .val (.ty T) => if My T = true then (kdW a).map fun k => .val (.bl (k.isA T)) else none
 | _ => none
theorem LS : Dh X (.builtin "isinstance") (rN X.K (o2 Uq)) := by
  intro pins s σ H xs us Q I r h
  obtain ⟨M, ws, w, e, mo, sh, q⟩ := h
  obtain ⟨v, w1, v', w2, rfl, rfl, s1, s2, e1⟩ := Li sh e
  unfold Uq at e1
  split at e1
  · rename_i T
    split at e1
    · rename_i hT
      cases e2 : kdW w1 with
      | none => rw [e2] at e1; cases e1
      | some k =>
        rw [e2] at e1
        cases e1
        cases s2
        obtain ⟨u1, u2, rfl, r1, r2⟩ := r.two
        cases (show u2 = Value.type T from r2)
        have fin : ∀ tk, EP X pins σ Q (.bool (k.isA T)) { s with toks := tk } := fun tk => ⟨.bl _, H, I.tok tk, rfl, q _ _ (.same mo (.bl _))⟩
        have kk := Vr (K := X.K) hT k
        cases w1 with
        | own ds =>
          cases e2
          obtain ⟨a, ys, rfl, h1, _⟩ := s1
          exact Dt I r1 (.lst h1) kk fin
        | val d =>
          have s1' : C8 X.K M H v d := s1
          cases s1' with
          | non => cases e2; exact Dt I r1 .non kk fin
          | bl b => cases e2; exact Dt I r1 (.bl b) kk fin
          | int b => cases e2; exact Dt I r1 (.int b) kk fin
          | str b => cases e2; exact Dt I r1 (.str b) kk fin
          | ty b => cases e2
          | scr h => cases e2
          | lst h n rr => cases e2; exact Dt I r1 (.lst h) kk fin
          | dct h n rr => cases e2; exact Dt I r1 (.dK h) kk fin
          | ref h => cases e2
          | tup h rr =>
            cases e2
            rename_i a ys ds
            cases (show u1 = Value.ref a from r1)
            obtain ⟨its, _, ⟨o, h1, h2, _⟩, _⟩ := I.tuple h
            exact PySem.W.kia_one PySem.W.kitx_tuple I.kIn ⟨o, h1, h2⟩ kk (fun z => nomatch z) fin
    · cases e1
  · cases e1
def D9 (fs : List Ev) : Ev := fun E S => (evs fs E S).bind fun r => if r.1.length ≤ sizeLine then some (.tup r.1, r.2) else none
def RV (c : Bool) (fs : List Ev) : Ev := fun E S => (evs fs E S).bind fun r => if r.1.length ≤ sizeLine then fin c (.own r.1) r.2 else none
abbrev K6 := RV false
abbrev Mh := RV true
theorem Bx {es : List Expr} {fs : List Ev} {k : Nat} {pos : Pos} (h : DEs X es fs) : DE X (.Tuple es k pos) (D9 fs) := ⟨Bh (U2 h.pe) fun σ H Q z => by
 obtain ⟨M, E, S, d, S', e, r, st, q⟩ := z
 obtain ⟨⟨ds, S1⟩, e1, e⟩ := BJ e
 dsimp only at e
 split at e
 ·cases e
  refine GA e1 r st fun vs H1 M1 g1 st1 d1 => ⟨by rw [d1.length]; assumption, fun p hp => ?_⟩
  have n := Nw.tup st1.mo hp d1
  exact q _ _ M1 (g1.trans (.grow st1.mo n.grow)) (st1.grow n.grow) n.rel
 ·cases e⟩
theorem DJ {c : Bool} {es : List Expr} {fs : List Ev} {pos : Pos} (h : DEs X es fs) : DE X (.List es pos) (RV c fs) := ⟨Bh (Vc h.pe) fun σ H Q z => by
 obtain ⟨M, E, S, d, S', e, r, st, q⟩ := z
 obtain ⟨⟨ds, S1⟩, e1, e⟩ := BJ e
 dsimp only at e
 split at e
 ·refine GA e1 r st fun vs H1 M1 g1 st1 d1 => ⟨by rw [d1.length]; assumption, fun p hp => ?_⟩
  obtain ⟨M2, g2, st2, d2⟩ := (Nw.lst st1.mo hp d1).fin st1 e
  exact q _ _ M2 (g1.trans g2) st2 d2
 ·cases e⟩
def Nd (f g : Ev) : Ev := fun E S => (f E S).bind fun r => match r.1 with
 | .bl true => g E r.2
 | .bl false => some (.bl false, r.2)
 | _ => none
def eOr (f g : Ev) : Ev := fun E S => (f E S).bind fun r => match r.1 with
 | .bl false => g E r.2
 | .bl true => some (.bl true, r.2)
 | _ => none
def Ry (f : Ev) : Ev := fun E S => (f E S).bind fun r => match r.1 with
 | .bl b => some (.bl (!b), r.2)
 | _ => none
def eIf (c f g : Ev) : Ev := fun E S => (c E S).bind fun r => match r.1 with
 | .bl true => f E r.2
 | .bl false => g E r.2
 | _ => none
theorem L5 {K : PySem.W.Frag} {M : Ms} {H : Hp} {v : V} {b : Bool} (h : C8 K M H v (.bl b)) : v = .bl b := by cases h; rfl
variable {a b c : Expr} {rest : List Expr} {f g h : Ev} {pos : Pos}
theorem Ik {op : BoolOp} (h : DE X a f) : DE X (.BoolOp op [a] pos) f := ⟨Ue h.pe⟩
theorem Ha (ha : DE X a f) (hb : DE X (.BoolOp .And (b :: rest) pos) g) : DE X (.BoolOp .And (a :: b :: rest) pos) (Nd f g) := ⟨Bh (V9 ha.pe hb.pe) fun σ H Q z => by
 obtain ⟨M, E, S, d, S', e, r, st, q⟩ := z
 obtain ⟨⟨d1, S1⟩, e1, e⟩ := BJ e
 dsimp only at e
 refine ⟨M, E, S, d1, S1, e1, r, st, fun v H1 M1 g1 st1 r1 => ?_⟩
 split at e
 ·cases L5 r1
  refine ⟨_, rfl, ?_⟩
  refine Se ?_
  exact ⟨M1, E, S1, d, S', e, r.step g1.st, st1, fun v H2 M2 g2 st2 r2 => q _ _ M2 (g1.trans g2) st2 r2⟩
 ·cases e
  cases L5 r1
  refine ⟨_, rfl, ?_⟩
  refine Tt ?_
  exact q _ _ M1 g1 st1 r1
 ·cases e⟩
theorem Ur (ha : DE X a f) : DE X (.UnaryOp .Not a pos) (Ry f) := ⟨Bh (VJ ha.pe) fun σ H Q z => by
 obtain ⟨M, E, S, d, S', e, r, st, q⟩ := z
 obtain ⟨⟨d1, S1⟩, e1, e⟩ := BJ e
 dsimp only at e
 split at e
 ·cases e
  refine ⟨M, E, S, _, _, e1, r, st, fun v H1 M1 g1 st1 r1 => ?_⟩
  cases L5 r1
  exact ⟨_, rfl, q _ _ M1 g1 st1 (.bl _)⟩
 ·cases e⟩
def tDT (K : PySem.W.Frag) (f : Ev) : TT := fun σ H Q => ∃ M E S b S', f E S = some (.bl b, S') /\ EnR K M E σ H /\ StR K M S H /\ ∀ H' M', Gr M H M' H' -> StR K M' S' H' -> Q b H'
structure DT (X : Cx) (e : Expr) (f : Ev) : Prop where
 pe : PT X e (tDT X.K f)
structure DW (X : Cx) (e : Expr) (f : Ev) : Prop where
 pe : PW X e (tDT X.K f)
theorem DW.dt (h : DW X a f) : DT X a f := ⟨PW.pt h.pe⟩
theorem Vb {t : TE} (h : PT X a (Vz t)) (m : ∀ σ H Q, tD X.K f σ H Q -> t σ H Q) : DT X a f := ⟨N2 h fun σ H Q z => by
 obtain ⟨M, E, S, b, S', e, r, st, q⟩ := z
 refine m _ _ _ ⟨M, E, S, _, S', e, r, st, fun v H1 M1 g1 st1 r1 => ?_⟩
 cases L5 r1
 exact ⟨_, rfl, q _ M1 g1 st1⟩⟩
theorem Oo (h : DE X a f) (he : ∀ whole, isTrue a X.env whole = (do let v ← whole; standAt a.pos; holding [v] (truthy v)) := by intro _; rfl) : DT X a f := Vb (t := tD X.K f) (U0 h.pe he) fun _ _ _ z => z
theorem BH {fa fb : Ev} {op : CmpOp} {f : Op2} (ho : OpR X (compareOp op) (rOp X.K f)) (ha : DE X a fa) (hb : DE X b fb) (hm : behindInMarks op b = false := by rfl) : DT X (.Compare a [op] [b] pos) (eOp (o2 f) [fa, fb]) :=
 Vb (TV ho ha.pe hb.pe hm) fun _ _ _ h => Lw h
theorem Nq (ha : DT X a f) : DT X (.UnaryOp .Not a pos) (Ry f) := ⟨N2 (UW ha.pe) fun σ H Q z => by
 obtain ⟨M, E, S, b, S', e, r, st, q⟩ := z
 obtain ⟨⟨w1, S1⟩, e1, e⟩ := BJ e
 dsimp only at e
 split at e
 ·cases e
  exact ⟨M, E, S, _, _, e1, r, st, q⟩
 ·cases e⟩
theorem TN (ha : DT X a f) : DW X (.BoolOp .And [a] pos) f := ⟨Sx ha.pe⟩
theorem Ui (ha : DT X a f) : DW X (.BoolOp .Or [a] pos) f := ⟨Ut ha.pe⟩
theorem Oq {e : Expr} {t t' : TT} (h : PW X e t) (m : ∀ σ H Q, t' σ H Q -> t σ H Q) : PW X e t' := fun wh pins s σ H Q I q => h wh pins s σ H Q I (m _ _ _ q)
theorem U3 (ha : DT X a f) (hb : DW X (.BoolOp .And (b :: rest) pos) g) : DW X (.BoolOp .And (a :: b :: rest) pos) (Nd f g) := ⟨Oq (Ux ha.pe hb.pe) fun σ H Q z => by
 obtain ⟨M, E, S, k, S', e, r, st, q⟩ := z
 obtain ⟨⟨w1, S1⟩, e1, e⟩ := BJ e
 dsimp only at e
 split at e
 ·refine ⟨M, E, S, _, S1, e1, r, st, fun H1 M1 g1 st1 => ?_⟩
  refine Se ?_
  exact ⟨M1, E, S1, k, S', e, r.step g1.st, st1, fun H2 M2 g2 st2 => q _ M2 (g1.trans g2) st2⟩
 ·cases e
  refine ⟨M, E, S, _, _, e1, r, st, fun H1 M1 g1 st1 => ?_⟩
  refine Tt ?_
  exact q _ M1 g1 st1
 ·cases e⟩
theorem Uu (ha : DT X a f) (hb : DW X (.BoolOp .Or (b :: rest) pos) g) : DW X (.BoolOp .Or (a :: b :: rest) pos) (eOr f g) := ⟨Oq (Xg ha.pe hb.pe) fun σ H Q z => by
 obtain ⟨M, E, S, k, S', e, r, st, q⟩ := z
 obtain ⟨⟨w1, S1⟩, e1, e⟩ := BJ e
 dsimp only at e
 split at e
 ·refine ⟨M, E, S, _, S1, e1, r, st, fun H1 M1 g1 st1 => ?_⟩
  refine Tt ?_
  exact ⟨M1, E, S1, k, S', e, r.step g1.st, st1, fun H2 M2 g2 st2 => q _ M2 (g1.trans g2) st2⟩
 ·cases e
  refine ⟨M, E, S, _, _, e1, r, st, fun H1 M1 g1 st1 => ?_⟩
  refine Se ?_
  exact q _ M1 g1 st1
 ·cases e⟩
theorem Xc (hc : DT X c f) (ha : DE X a g) (hb : DE X b h) : DE X (.IfExp c a b pos) (eIf f g h) := ⟨Bh (Qk hc.pe ha.pe hb.pe) fun σ H Q z => by
 obtain ⟨M, E, S, d, S', e, r, st, q⟩ := z
 obtain ⟨⟨w1, S1⟩, e1, e⟩ := BJ e
 dsimp only at e
 split at e
 ·refine ⟨M, E, S, _, S1, e1, r, st, fun H1 M1 g1 st1 => ?_⟩
  refine Se ?_
  exact ⟨M1, E, S1, d, S', e, r.step g1.st, st1, fun v H2 M2 g2 st2 r2 => q _ _ M2 (g1.trans g2) st2 r2⟩
 ·refine ⟨M, E, S, _, S1, e1, r, st, fun H1 M1 g1 st1 => ?_⟩
  refine Tt ?_
  exact ⟨M1, E, S1, d, S', e, r.step g1.st, st1, fun v H2 M2 g2 st2 r2 => q _ _ M2 (g1.trans g2) st2 r2⟩
 ·cases e⟩
end
end Mi
end
section
namespace Mi
open PySem PySem.Spec L2
inductive Fl where
 | nx
 | ret (d : D)
abbrev Ex := En -> Sto -> Option (Fl × En × Sto)
def End (K : PySem.W.Frag) (M : Ms) (H : Hp) (Dn : Ends) (E' : En) (S' : Sto) : Fl -> Prop
 | .nx => ∀ σ' H' M', Gr M H M' H' -> EnR K M' E' σ' H' -> StR K M' S' H' -> Dn.nx σ' H'
 | .ret d => ∀ v H' M', Gr M H M' H' -> StR K M' S' H' -> C8 K M' H' v d -> Dn.rt v H'
def tX (K : PySem.W.Frag) (f : Ex) : TS := fun Dn σ H => ∃ M E S fl E' S', f E S = some (fl, E', S') /\ EnR K M E σ H /\ StR K M S H /\ End K M H Dn E' S' fl
structure DS (X : Cx) (st : Stmt) (f : Ex) : Prop where
 pe : PS X st (tX X.K f)
structure DSs (X : Cx) (st : List Stmt) (f : Ex) : Prop where
 pe : PSs X st (tX X.K f)
theorem EO {X : Cx} {e : Stmt} {t t' : TS} (h : PS X e t) (m : ∀ Dn σ H, t' Dn σ H -> t Dn σ H) : PS X e t' := fun pins s σ H Dn I q => h pins s σ H Dn I (m _ _ _ q)
theorem Mf {X : Cx} {e : List Stmt} {t t' : TS} (h : PSs X e t) (m : ∀ Dn σ H, t' Dn σ H -> t Dn σ H) : PSs X e t' := fun pins s σ H Dn I q => h pins s σ H Dn I (m _ _ _ q)
theorem End.later {K : PySem.W.Frag} {M M1 : Ms} {H H1 : Hp} {Dn : Ends} {E' : En} {S' : Sto} {fl : Fl} (q : End K M H Dn E' S' fl) (g : Gr M H M1 H1) : End K M1 H1 Dn E' S' fl := by
 cases fl with
 | nx => exact fun σ' H' M' g' r st => q σ' H' M' (g.trans g') r st
 | ret d => exact fun v H' M' g' st r => q v H' M' (g.trans g') st r
def Am (f g : Ex) : Ex := fun E S => (f E S).bind fun r => match r.1 with
 | .nx => g r.2.1 r.2.2
 | .ret w => some (.ret w, r.2)
def Ep : Ex := fun E S => some (.nx, E, S)
section
variable {X : Cx} {st : Stmt} {rest a b : List Stmt} {f g h : Ex} {c e : Expr} {k : Ev} {pos : Pos}
theorem Az : DSs X [] Ep := ⟨Mf Sq fun Dn σ H z => by
 obtain ⟨M, E, S, fl, E', S', e, r, st, q⟩ := z
 cases e
 exact q _ _ M (.refl st.mo) r st⟩
theorem AF (h1 : DS X st f) (h2 : DSs X rest g) : DSs X (st :: rest) (Am f g) := ⟨Mf (Qo h1.pe h2.pe) fun Dn σ H z => by
 obtain ⟨M, E, S, fl, E', S', e, r, st, q⟩ := z
 obtain ⟨⟨f1, E1, S1⟩, e1, e⟩ := BJ e
 dsimp only at e
 split at e
 ·exact ⟨M, E, S, .nx, E1, S1, e1, r, st, fun σ1 H1 M1 g1 r1 st1 => ⟨M1, E1, S1, fl, E', S', e, r1, st1, q.later g1⟩⟩
 ·cases e
  exact ⟨M, E, S, .ret _, _, _, e1, r, st, q⟩⟩
theorem AI (h1 : DS X st f) : DSs X [st] f := ⟨S9 h1.pe⟩
def xIf (c : Ev) (f g : Ex) : Ex := fun E S => (c E S).bind fun r => match r.1 with
 | .bl true => f E r.2
 | .bl false => g E r.2
 | _ => none
theorem Ck (hc : DT X c k) (ha : DSs X a f) (hb : DSs X b g) : DS X (.If c a b pos) (xIf k f g) := ⟨EO (YO hc.pe ha.pe hb.pe) fun Dn σ H z => by
 obtain ⟨M, E, S, fl, E', S', e, r, st, q⟩ := z
 obtain ⟨⟨w1, S1⟩, e1, e⟩ := BJ e
 dsimp only at e
 split at e
 ·refine ⟨M, E, S, _, S1, e1, r, st, fun H1 M1 g1 st1 => ?_⟩
  refine Se ?_
  exact ⟨M1, E, S1, fl, E', S', e, r.step g1.st, st1, q.later g1⟩
 ·refine ⟨M, E, S, _, S1, e1, r, st, fun H1 M1 g1 st1 => ?_⟩
  refine Tt ?_
  exact ⟨M1, E, S1, fl, E', S', e, r.step g1.st, st1, q.later g1⟩
 ·cases e⟩
def Bq (k : Ev) : Ex := fun E S => (k E S).map fun r => (.ret r.1, E, r.2)
theorem AR (h : DE X e k) : DS X (.Return (some e) pos) (Bq k) := ⟨EO (VH h.pe) fun Dn σ H z => by
 obtain ⟨M, E, S, fl, E', S', e, r, st, q⟩ := z
 obtain ⟨⟨d, S1⟩, e1, e⟩ := Jl e
 cases e
 exact ⟨M, E, S, d, S1, e1, r, st, fun v H1 M1 g1 st1 r1 => q _ _ M1 g1 st1 r1⟩⟩
end
section
variable {K : PySem.W.Frag} {M : Ms} {E : En} {σ : Sg} {H : Hp} {i : Nat} {d : D} {v : V}
theorem EnR.put (r : EnR K M E σ H) (rd : C8 K M H v d) : EnR K M (E.set i (some d)) (σ.set i (some v)) H := by
 refine ⟨by rw [List.length_set, List.length_set]; exact r.len, fun j e ej => ?_⟩
 by_cases h : i = j
 ·subst h
  by_cases hi : i < E.length
  ·rw [List.getElem?_set_self hi] at ej
   cases ej
   exact ⟨v, List.getElem?_set_self (by rw [← r.len]; exact hi), rd⟩
  ·rw [List.getElem?_eq_none_iff.mpr (by rw [List.length_set]; omega)] at ej; cases ej
 ·rw [List.getElem?_set_ne h] at ej
  obtain ⟨v', h1, h2⟩ := r.val j e ej
  exact ⟨v', by rw [List.getElem?_set_ne h]; exact h1, h2⟩
end
def CB (i : Nat) (k : Ev) : Ex := fun E S => (k E S).map fun r => (.nx, E.set i (some r.1), r.2)
theorem An {X : Cx} {e : Expr} {k : Ev} {pos pos' : Pos} (i : Nat) {x : Str} (h : DE X e k) (hN : X.N.Nodup) (hi : X.N[i]? = some x := by rfl) (hx : Loc X.env.scope x := by first | exact Or.inl rfl | exact Or.inr rfl)
  (hs : swapsWith e (some (.Name x pos')) pos.line X.env = pure false := by rfl) (hf : X.fn x = true ∨ X.env.scope.names.lookup x = some .local := by first | exact .inl rfl | exact .inr rfl) : DS X (.Assign [.Name x pos'] e pos) (CB i k) := ⟨
 EO (VF hN hi hx h.pe hs hf) fun Dn σ H z => by
  obtain ⟨M, E, S, fl, E', S', e, r, st, q⟩ := z
  obtain ⟨⟨d, S1⟩, e1, e⟩ := Jl e
  cases e
  exact ⟨M, E, S, d, S1, e1, r, st, fun v H1 M1 g1 st1 r1 => q _ _ M1 g1 ((r.step g1.st).put r1) st1⟩⟩
def Gj (k : Ev) : Ex := fun E S => (k E S).map fun r => (.nx, E, r.2)
theorem GO {X : Cx} {e : Expr} {k : Ev} {pos : Pos} (h : DE X e k) (hs : swapsWith e none pos.line X.env = pure false := by rfl) : DS X (.Expr e pos) (Gj k) := ⟨EO (Td h.pe hs) fun Dn σ H z => by
 obtain ⟨M, E, S, fl, E', S', e, r, st, q⟩ := z
 obtain ⟨⟨d, S1⟩, e1, e⟩ := Jl e
 cases e
 exact ⟨M, E, S, d, S1, e1, r, st, fun v H1 M1 g1 st1 r1 => q _ _ M1 g1 (r.step g1.st) st1⟩⟩
def FI (S : Sto) (n : Nat) : Option (List D) := match S[n]? with
 | some (.lst ds) => some ds
 | _ => none
theorem Dl {S : Sto} {n : Nat} {ds : List D} (h : FI S n = some ds) : S[n]? = some (.lst ds) := by
 unfold FI at h
 split at h
 ·rename_i e
  cases h
  exact e
 ·cases h
abbrev Mo := Sto -> List D -> List D -> Option (D × List D)
def Md (op : Mo) (f : Ev) (fs : List Ev) : Ev := fun E S => (f E S).bind fun r => match r.1 with
 | .ref n => (FI r.2 n).bind fun _ => (evs fs E r.2).bind fun p => (FI p.2 n).bind fun ds => (op p.2 ds p.1).map fun q => (q.1, p.2.set n (.lst q.2))
 | _ => none
def Wm (K : PySem.W.Frag) (op : Mo) : V -> List V -> Hp -> VK -> Prop := fun x vs H Q => ∃ M S n a ds args d ds', x = .ref a /\ M.cel[n]? = some a /\ S[n]? = some (.lst ds) /\ op S ds args = some (d, ds') /\ StR K M S H /\ AW K M H vs args /\ ∀ v H', StR K M (S.set n (.lst ds')) H' -> Gr M H M H' -> C8 K M H' v d -> Q v H'
section
variable {X : Cx}
theorem Vx {op : Mo} {f : Ev} {fs : List Ev} {σ : Sg} {H : Hp} {Q : VK} (h : tD X.K (Md op f fs) σ H Q) : tBM X.K "list" (Wm X.K op) (tD X.K f) (tDs X.K fs) σ H Q := by
  obtain ⟨M, E, S, d, S', e, r, st, q⟩ := h
  obtain ⟨⟨d1, S1⟩, e1, e⟩ := BJ e
  dsimp only at e
  split at e
  · rename_i n
    obtain ⟨ds0, e2, e⟩ := BJ e
    obtain ⟨⟨args, S2⟩, e3, e⟩ := BJ e
    obtain ⟨ds, e4, e⟩ := BJ e
    obtain ⟨⟨dd, ds'⟩, e5, e⟩ := Jl e
    cases e
    refine ⟨M, E, S, _, S1, e1, r, st, fun v H1 M1 g1 st1 r1 => ?_⟩
    cases r1 with
    | ref hc =>
      rename_i a
      obtain ⟨xs, h1, h2⟩ := st1.cell n a _ hc (Dl e2)
      refine ⟨.inl ⟨rfl, xs, .of h1⟩, ?_⟩
      refine GA e3 (r.step g1.st) st1 fun vs H2 M2 g2 st2 r2 => ?_
      exact ⟨M2, S2, n, a, ds, args, dd, ds', rfl, Jx g2.pre hc, Dl e4, e5, st2, r2, fun v H3 st3 g3 r3 => q _ _ M2 ((g1.trans g2).trans g3) st3 r3⟩
  · cases e
theorem Nn {id : String} {name : Str} {o e : Expr} {es : List Expr} {op : Mo} {f : Ev} {fs : List Ev} {apos cpos : Pos} (slot : Slot "list" name id) (hty : typeOf (.builtin id) = pure (.type "method_descriptor")) (hm : MtR X id (Wm X.K op)) (ho : DE X o f) (ha : DEs X (e :: es) fs)
  (hbase : attributeBase o name X.env (eval o X.env) = eval o X.env := by rfl)
  (hfew : ((backTo cpos (starEach (e :: es) X.env)).all (fun x => !x.1) && (backToKw cpos (keywordEach [] X.env)).all (fun x => x.1.isSome)
   && decide ((e :: es).length + ([] : List Keyword).length + (if ([] : List Keyword).isEmpty then 0 else 1) < 30)) = true := by rfl)
  (hline : (apos.endLine == cpos.line) = true := by rfl) (hs : starEach (e :: es) X.env = (false, eval e X.env) :: starEach es X.env := by rfl) (hplain : (backTo cpos (starEach es X.env)).any (·.1) = false := by rfl) :
  DE X (.Call (.Attribute o name apos) (e :: es) [] cpos) (Md op f fs) := ⟨Bh (YS PySem.F.plainAttrs_list slot hty hm ho.pe ha.pe hbase hfew hline hs hplain) fun σ H Q z => Vx z⟩
def Pl : Mo
 | _, ds, [x] => if ds.length < sizeLine then some (.non, ds ++ [x]) else none
 | _, _, _ => none
theorem QE {K : PySem.W.Frag} {M : Ms} {H : Hp} {vs : List V} {d : D} (h : AW K M H vs [d]) : ∃ v, vs = [v] /\ C8 K M H v d := by
 cases h with
 | cons h t => cases t; exact ⟨_, rfl, h⟩
theorem Oi : MtR X "list.append" (Wm X.K Pl) := by
 intro pins s σ H x vs v us Q I rx rv h
 obtain ⟨M, S, n, a, ds, args, d, ds', rfl, hc, hn, e, st, ra, q⟩ := h
 unfold Pl at e
 split at e
 ·split at e
  ·rename_i hz
   cases e
   obtain ⟨xs, h1, h2⟩ := st.cell n a _ hc hn
   obtain ⟨y, rfl, ry⟩ := QE ra
   obtain ⟨st2, g2⟩ := st.chg hc hn (h2.append (.cons ry .nil))
   exact KZ pins s σ H _ _ v us Q I rx rv ⟨a, xs, y, rfl, rfl, h1, by rw [h2.length]; exact hz, q _ _ st2 g2 .non⟩
  ·cases e
 ·cases e
end
def RO (k f o : Ev) : Ex := fun E S => (k E S).bind fun r => (f E r.2).bind fun b => (o E b.2).bind fun i => match b.1, i.1 with
 | .ref n, .int j => (FI i.2 n).bind fun ds => (ixN ds.length j).map fun m => (.nx, E, i.2.set n (.lst (ds.set m r.1)))
 | _, _ => none
theorem Fo {X : Cx} {e t bs : Expr} {k f o : Ev} {ps pos : Pos} (h : DE X e k) (hb : DE X bs f) (ht : DE X t o)
    (ha : ∀ v, assign (.Subscript bs t ps) X.env v = (do
      let ov ← holding [v] (eval bs X.env)
      let iv ← holding [v, ov] (eval t X.env)
      standAt ps
      holding [v, ov, iv] (setItem ov iv v)
      release [v, ov, iv] []) := by intro _; rfl)
    (hs : swapsWithSole [.Subscript bs t ps] e pos.line X.env = pure false := by rfl) (hw : swappedStores [.Subscript bs t ps] e X.env = pure none := by rfl)
    (h1 : (assignEach [.Subscript bs t ps] X.env).map (·.2) = [assign (.Subscript bs t ps) X.env] := by rfl) :
    DS X (.Assign [.Subscript bs t ps] e pos) (RO k f o) := ⟨
  EO (R7 h.pe (VS hb.pe ht.pe set_list ha) hs hw h1) fun Dn σ H z => by
    obtain ⟨M, E, S, fl, E', S', e, r, st, q⟩ := z
    obtain ⟨⟨d, S1⟩, e1, e⟩ := BJ e
    obtain ⟨⟨b, S2⟩, e2, e⟩ := BJ e
    obtain ⟨⟨i, S3⟩, e3, e⟩ := BJ e
    dsimp only at e e1 e2 e3
    split at e
    · rename_i n j _
      obtain ⟨ds, e4, e⟩ := BJ e
      obtain ⟨m, e5, e⟩ := Jl e
      cases e
      refine ⟨M, E, S, d, S1, e1, r, st, fun v H1 M1 g1 st1 r1 => ?_⟩
      refine ⟨M1, E, S1, _, S2, e2, r.step g1.st, st1, fun bv H2 M2 g2 st2 r2 => ?_⟩
      refine ⟨M2, E, S2, _, S3, e3, (r.step g1.st).step g2.st, st2, fun iv H3 M3 g3 st3 r3 => ?_⟩
      cases r3
      cases r2 with
      | ref hc =>
        rename_i a
        have hc3 := Jx g3.pre hc
        obtain ⟨xs, h1, h2⟩ := st3.cell n a _ hc3 (Dl e4)
        obtain ⟨st4, g4⟩ := st3.chg hc3 (Dl e4) (h2.set ((r1.step g2.st).step g3.st) m)
        have g := ((g1.trans g2).trans g3).trans g4
        exact ⟨a, xs, j, m, rfl, rfl, h1, by rw [h2.length]; exact e5, q _ _ M3 g (r.step g.st) st4⟩
    · cases e⟩
end Mi
end
noncomputable section
namespace Mi
open PySem PySem.Spec L2
abbrev Fn := List D -> Sto -> Option (D × Sto)
def flD : Fl -> D
 | .nx => .non
 | .ret d => d
def BC (N : Nat) (body : Ex) : Fn := fun ds S => (body (ds.map some ++ List.replicate (N - ds.length) none) S).map fun r => (flD r.1, r.2.2)
def A8 {α : Type} (a : α) : α := Classical.choose (⟨a, rfl⟩ : ∃ x, x = a)
theorem Nx {α : Type} (a : α) : A8 a = a := Classical.choose_spec (⟨a, rfl⟩ : ∃ x, x = a)
def spD (K : PySem.W.Frag) (np : Nat) (f : Fn) : Sp := fun vs H Q _ => ∃ M ds S d S', ds.length = np /\ f ds S = some (d, S') /\ AW K M H vs ds /\ StR K M S H /\ ∀ v H' M', Gr M H M' H' -> StR K M' S' H' -> C8 K M' H' v d -> Q v H'
theorem Ks {α : Type} {xs : List α} {i : Nat} {x : α} (h : (xs.map some)[i]? = some (some x)) : xs[i]? = some x := by
 rw [List.getElem?_map] at h
 cases e : xs[i]? with
 | none => rw [e] at h; cases h
 | some y => rw [e] at h; cases h; rfl
theorem PF {α : Type} {xs : List (Option α)} {k i : Nat} {x : α} (h : (xs ++ List.replicate k none)[i]? = some (some x)) : xs[i]? = some (some x) := by
 by_cases hi : i < xs.length
 ·rw [List.getElem?_append_left hi] at h; exact h
 ·rw [List.getElem?_append_right (by omega), List.getElem?_replicate] at h
  split at h <;> cases h
theorem TU {α : Type} {xs : List (Option α)} {k i : Nat} {x : Option α} (h : xs[i]? = some x) : (xs ++ List.replicate k none)[i]? = some x := by
 rw [List.getElem?_append_left (List.getElem?_eq_some_iff.mp h).1]; exact h
theorem EnR.args {K : PySem.W.Frag} {M : Ms} {H : Hp} {vs : List V} {ds : List D} (r : AW K M H vs ds) (k : Nat) : EnR K M (ds.map some ++ List.replicate k none) (vs.map some ++ List.replicate k none) H := by
 refine ⟨by simp [r.length], fun i d e => ?_⟩
 obtain ⟨v, h1, h2⟩ := r.get (Ks (PF e))
 exact ⟨v, TU (by rw [List.getElem?_map, h1]; rfl), h2⟩
section
variable {P : Program} {w : World} {K : PySem.W.Frag} {mg : Str -> Option Value} {base : Heap}
theorem Uv {x : Str} {st : Stmt} {f : Addr} {fd : FuncData} {N ps : List Str} {k np : Nat} {b : Ex} (Fu : Fun K x x st f fd) (S : AQ N ps (AG st)) (hp : ps.length = np)
  (hb : ∀ (cdv : Value) (A : Around) (outer : List PySem.Env) (s : Shared) (H : Hp) (E : XK), Jf k (A.deeper (PyProof.Rows.envOfC x (AG st) s.heap.objs.size f cdv)) -> DSs (SN CX0 P w K mg base N x (AG st) f cdv A outer s H E).nox (Es st) b) :
  LH P w K mg base CX0 (k + 1) f fd ps (spD K np (A8 (BC N.length b))) := by
 rw [Nx]
 refine Fu.ok S (fun vs H Q E h => ?_) (fun cdv A outer s H vs Q E hr h => ?_)
 ·obtain ⟨M, ds, S0, d, S', hl, _, r, _⟩ := h
  have := r.length
  omega
 ·obtain ⟨M, ds, S0, d, S', hl, e, r, st, q⟩ := h
  have hlen := r.length
  refine ⟨_, (hb cdv A outer s H E hr).pe, ?_⟩
  obtain ⟨⟨fl, E', S1⟩, e1, e⟩ := Jl e
  cases e
  refine ⟨M, _, S0, fl, E', S1, e1, ?_, st, ?_⟩
  ·rw [show L2.start N vs = vs.map some ++ List.replicate (N.length - ds.length) none from by unfold L2.start; rw [hlen]]
   exact .args r _
  ·cases fl with
   | nx => exact fun σ' H' M' g _ st' => q _ _ M' g st' .non
   | ret d => exact fun v H' M' g st' r' => q _ _ M' g st' r'
theorem Af {x : Str} {st : Stmt} {N ps : List Str} {k np : Nat} {b : Ex} (S : St.Src K mg x st) (sc : AQ N ps (AG st)) (hp : ps.length = np)
  (hbi : ∀ f fd, Fun K x x st f fd -> Binds K fd ps [])
  (hb : ∀ (f : Addr) (cdv : Value) (A : Around) (outer : List PySem.Env) (s : Shared) (H : Hp) (E : XK), Jf k (A.deeper (PyProof.Rows.envOfC x (AG st) s.heap.objs.size f cdv)) -> DSs (SN CX0 P w K mg base N x (AG st) f cdv A outer s H E).nox (Es st) b) :
  St.Dfn P w K mg base x (k + 1) ps (spD K np (A8 (BC N.length b))) := by
 obtain ⟨f, fd, Fu, hm⟩ := S.ex
 exact ⟨f, fd, hm, Fu.kp, hbi f fd Fu, Uv Fu sc hp fun cdv A outer s H E hr => hb f cdv A outer s H E hr⟩
end
def AJ (f : Fn) (fs : List Ev) : Ev := fun E S => (evs fs E S).bind fun r => f r.1 r.2
theorem Tq {K : PySem.W.Frag} {np : Nat} {f : Fn} {fs : List Ev} {σ : Sg} {H : Hp} {Q : VK} (hn : fs.length = np) (h : tD K (AJ f fs) σ H Q) : T9 (spD K np f) [] E0 (tDs K fs) σ H Q := by
 obtain ⟨M, E, S, d, S', e, r, st, q⟩ := h
 obtain ⟨⟨ds, S1⟩, e1, e⟩ := BJ e
 refine GA e1 r st fun vs H1 M1 g1 st1 r1 => ?_
 rw [List.append_nil]
 exact ⟨M1, ds, S1, d, S', by rw [Ls e1]; exact hn, e, r1, st1, fun v H2 M2 g2 st2 r2 => q _ _ M2 (g1.trans g2) st2 r2⟩
theorem AH {X : Cx} {k np : Nat} {x : Str} {ps : List Str} {f : Fn} {e : Expr} {es : List Expr} {fs : List Ev} {p pos : Pos} (d : St.Dfn X.prog X.w X.K X.mg X.base x k ps (spD X.K np f)) (hr : Jf k X.A) (hg : Gl X x) (ha : DEs X (e :: es) fs)
  (hn : fs.length = np := by rfl) (hdb : (x == ("__debug__" : Str)) = false := by decide) (he : starEach (e :: es) X.env = (false, eval e X.env) :: starEach es X.env := by rfl) (hpl : (backTo pos (starEach es X.env)).any (·.1) = false := by rfl) :
  DE X (.Call (.Name x p) (e :: es) [] pos) (AJ f fs) := ⟨Bh (St.Xv d hr hg ha.pe hdb he hpl) fun σ H Q z => Tq hn z⟩
abbrev Tf := D -> En -> Sto -> Option En
def tG (K : PySem.W.Frag) (t : Tf) : TG := fun v σ H Q => ∃ M d E E' S, t d E S = some E' /\ EnR K M E σ H /\ StR K M S H /\ C8 K M H v d /\ ∀ σ', EnR K M E' σ' H -> Q σ' H
structure DG (X : Cx) (tg : Expr) (t : Tf) : Prop where
 pe : PG X tg (tG X.K t)
def tNm (i : Nat) : Tf := fun d E _ => some (E.set i (some d))
theorem PB {X : Cx} {e : Expr} {t t' : TG} (h : PG X e t) (m : ∀ v σ H Q, t' v σ H Q -> t v σ H Q) : PG X e t' := fun pins s σ H v u Q I r q => h pins s σ H v u Q I r (m _ _ _ _ q)
theorem Ap {X : Cx} {pos : Pos} (i : Nat) {x : Str} (hN : X.N.Nodup) (hi : X.N[i]? = some x := by rfl) (hx : Loc X.env.scope x := by first | exact Or.inl rfl | exact Or.inr rfl)
  (hf : X.fn x = true ∨ X.env.scope.names.lookup x = some .local := by first | exact .inl rfl | exact .inr rfl) : DG X (.Name x pos) (tNm i) := ⟨PB (Te hN hi hx hf) fun v σ H Q z => by
 obtain ⟨M, d, E, E', S, e, r, st, rd, q⟩ := z
 cases e
 exact q _ (r.put rd)⟩
def tMs : List Tf -> List D -> En -> Sto -> Option En
 | [], [], E, _ => some E
 | t :: ts, d :: ds, E, S => (t d E S).bind fun E1 => tMs ts ds E1 S
 | _, _, _, _ => none
def tTp (ts : List Tf) : Tf := fun d E S => match d with
 | .tup ds => tMs ts ds E S
 | .lst ds => tMs ts ds E S
 | .ref n => (FI S n).bind fun ds => tMs ts ds E S
 | _ => none
def tGs (K : PySem.W.Frag) : List Tf -> TGs
 | [] => Yu
 | t :: ts => Uz (tG K t) (tGs K ts)
theorem MR {K : PySem.W.Frag} {M : Ms} {H : Hp} {S : Sto} (st : StR K M S H) : ∀ {ts : List Tf} {ds : List D} {vs : List V} {E E' : En} {σ : Sg} {Q : Sg -> Hp -> Prop}, tMs ts ds E S = some E' -> EnR K M E σ H -> AW K M H vs ds -> (∀ σ', EnR K M E' σ' H -> Q σ' H) -> tGs K ts vs σ H Q
  | [], [], _, E, E', σ, Q, e, r, rd, q => by
    cases e
    cases rd
    exact ⟨rfl, q _ r⟩
  | t :: ts, d :: ds, _, E, E', σ, Q, e, r, rd, q => by
    obtain ⟨E1, e1, e⟩ := BJ e
    cases rd with
    | cons h1 h2 => exact ⟨_, _, rfl, M, d, E, E1, S, e1, r, st, h1, fun σ1 r1 => MR st e r1 h2 q⟩
  | [], _ :: _, _, E, E', σ, Q, e, r, rd, q => by cases e
  | _ :: _, [], _, E, E', σ, Q, e, r, rd, q => by cases e
theorem KA : ∀ {ts : List Tf} {ds : List D} {E E' : En} {S : Sto}, tMs ts ds E S = some E' -> ds.length = ts.length
  | [], [], _, _, _, _ => rfl
  | t :: ts, d :: ds, E, E', S, e => by
    obtain ⟨E1, e1, e⟩ := BJ e
    simp [KA e]
  | [], _ :: _, _, _, _, e => by cases e
  | _ :: _, [], _, _, _, e => by cases e
structure DGs (X : Cx) (es : List Expr) (ts : List Tf) : Prop where
 pe : PGs X es (tGs X.K ts)
theorem Bw {X : Cx} : DGs X [] [] := ⟨So⟩
theorem AO {X : Cx} {e : Expr} {es : List Expr} {t : Tf} {ts : List Tf} (h : DG X e t) (g : DGs X es ts) (hs : (assignEach (e :: es) X.env).map (·.2) = assign e X.env :: (assignEach es X.env).map (·.2) := by rfl) : DGs X (e :: es) (t :: ts) := ⟨Rh h.pe g.pe hs⟩
theorem Eo {X : Cx} {k : Nat} {es : List Expr} {ts : List Tf} {pos : Pos} (hc : X.calm = true) (h : DGs X es ts) (hn : (assignEach es X.env).length = ts.length := by rfl) (hst : (assignEach es X.env).findIdx? (·.1) = none := by rfl) : DG X (.Tuple es k pos) (tTp ts) := ⟨
  PB (VP hc h.pe hn hst) fun v σ H Q z => by
    obtain ⟨M, d, E, E', S, e, r, st, rd, q⟩ := z
    unfold tTp at e
    split at e
    · cases rd with
      | tup h1 h2 => exact ⟨_, _, rfl, .inl h1, by rw [h2.length]; exact KA e, MR st e r h2 q⟩
    · cases rd with
      | lst h1 n h2 => exact ⟨_, _, rfl, .inr h1, by rw [h2.length]; exact KA e, MR st e r h2 q⟩
    · obtain ⟨ds, e1, e⟩ := BJ e
      cases rd with
      | ref hc =>
        obtain ⟨xs, h1, h2⟩ := st.cell _ _ _ hc (Dl e1)
        exact ⟨_, _, rfl, .inr h1, by rw [h2.length]; exact KA e, MR st e r h2 q⟩
    · cases e⟩
def ND (t : Tf) (k : Ev) : Ex := fun E S => (k E S).bind fun r => (t r.1 E r.2).map fun E' => (.nx, E', r.2)
theorem FO {X : Cx} {tg e : Expr} {t : Tf} {k : Ev} {pos : Pos} (h : DE X e k) (hg : DG X tg t) (hs : swapsWithSole [tg] e pos.line X.env = pure false := by rfl) (hw : swappedStores [tg] e X.env = pure none := by rfl)
  (h1 : (assignEach [tg] X.env).map (·.2) = [assign tg X.env] := by rfl) : DS X (.Assign [tg] e pos) (ND t k) := ⟨EO (R7 h.pe hg.pe hs hw h1) fun Dn σ H z => by
 obtain ⟨M, E, S, fl, E', S', e, r, st, q⟩ := z
 obtain ⟨⟨d, S1⟩, e1, e⟩ := BJ e
 obtain ⟨E2, e2, e⟩ := Jl e
 cases e
 exact ⟨M, E, S, d, S1, e1, r, st, fun v H1 M1 g1 st1 r1 => ⟨M1, d, E, _, S1, e2, r.step g1.st, st1, r1, fun σ' r2 => q _ _ M1 g1 r2 st1⟩⟩⟩
def Pf (i j : Nat) (f g : Ev) : Ex := fun E S => (evs [f, g] E S).bind fun r => match r.1 with
 | [d, d'] => some (.nx, (E.set i (some d)).set j (some d'), r.2)
 | _ => none
theorem K4 {X : Cx} {i j : Nat} {x y : Str} {a b : Expr} {f g : Ev} {px py pt : Pos} {kt k2 : Nat} {pt2 pos : Pos} (hc : X.calm = true) (hN : X.N.Nodup) (hi : X.N[i]? = some x) (hj : X.N[j]? = some y) (hij : i ≠ j)
    (hx : X.env.scope.names.lookup x = some .local) (hy : X.env.scope.names.lookup y = some .local) (ha : DE X a f) (hb : DE X b g)
    (hw : swappedStores [.Tuple [.Name x px, .Name y py] kt pt] (.Tuple [a, b] k2 pt2) X.env = pure (some [x, y]) := by rfl)
    (hsa : starEach [a, b] X.env = (false, eval a X.env) :: starEach [b] X.env := by rfl) (hsb : starEach [b] X.env = (false, eval b X.env) :: starEach [] X.env := by rfl)
    (hs : swapsWithSole [.Tuple [.Name x px, .Name y py] kt pt] (.Tuple [a, b] k2 pt2) pos.line X.env = pure false := by rfl) : DS X (.Assign [.Tuple [.Name x px, .Name y py] kt pt] (.Tuple [a, b] k2 pt2) pos) (Pf i j f g) := ⟨by
  refine EO (V7 hc hN hi hj hij hx hy (J8 ha.pe (J8 hb.pe Nm hsb) hsa) hw hs) fun Dn σ H z => ?_
  obtain ⟨M, E, S, fl, E', S', e, r, st, q⟩ := z
  obtain ⟨⟨ds, S1⟩, e1, e⟩ := BJ e
  refine GA (K := X.K) (fs := [f, g]) e1 r st fun vs H1 M1 g1 st1 r1 => ?_
  dsimp only at e
  split at e
  · rename_i d d'
    cases e
    cases r1 with
    | cons h1 t =>
      cases t with
      | cons h2 t =>
        cases t
        exact ⟨_, _, rfl, q _ _ M1 g1 (((r.step g1.st).put h1).put h2) st1⟩
  · cases e⟩
def MP : Ex := fun _ _ => none
theorem KW {X : Cx} {st : Stmt} : DS X st MP := ⟨fun _ _ _ _ _ _ z => by
 obtain ⟨M, E, S, fl, E', S', e, _⟩ := z
 cases e⟩
end Mi
end
noncomputable section
namespace Mi
open PySem PySem.Spec L2
abbrev Gd := List (Nat × List D)
def gOk (gs : Gd) (S : Sto) : Prop := ∀ g ∈ gs, FI S g.1 = some g.2
abbrev Sr := En -> Sto -> Option ((List D × Gd) × Sto)
structure Va (K : PySem.W.Frag) (M : Ms) (H : Hp) (gs : Gd) (ds : List D) (J : It) : Prop where
 go : ∀ (i : Nat) (H2 : Hp) (M2 : Ms) (S2 : Sto), Sp1 M H M2 H2 -> StR K M2 S2 H2 -> gOk gs S2 -> i < ds.length -> J.go i H2
 stop : ∀ (i : Nat) (H2 : Hp) (M2 : Ms) (S2 : Sto), Sp1 M H M2 H2 -> StR K M2 S2 H2 -> gOk gs S2 -> ds.length ≤ i -> J.stop i H2
 yld : ∀ (i : Nat) (H2 : Hp) (M2 : Ms) (S2 : Sto) (x : V) (H3 : Hp) (d : D), Sp1 M H M2 H2 -> StR K M2 S2 H2 -> gOk gs S2 -> ds[i]? = some d -> J.yld i H2 x H3 -> (∀ a o, H2 a = some o -> H3 a = some o) /\ C8 K M2 H3 x d
def tI (K : PySem.W.Frag) (s : Sr) : TI := fun σ H R => ∃ M E S ds gs S', s E S = some ((ds, gs), S') /\ EnR K M E σ H /\ StR K M S H /\ ∀ J H' M', Gr M H M' H' -> StR K M' S' H' -> Va K M' H' gs ds J -> R J H'
structure DI (X : Cx) (tg iter : Expr) (s : Sr) : Prop where
 pe : PI X tg iter (tI X.K s)
theorem J0 {X : Cx} {tg e : Expr} {t t' : TI} (h : PI X tg e t) (m : ∀ σ H R, t' σ H R -> t σ H R) : PI X tg e t' := fun pins s σ H R I q => h pins s σ H R I (m _ _ _ q)
def Zw (K : PySem.W.Frag) (tl : TE) : TI := fun σ H R => tl σ H fun x H1 => ∃ a, x = .ref a /\ (((∃ xs, SqL K H1 a xs) /\ R (Itl K a) H1) ∨ ((∃ xs, SqT K H1 a xs) /\ R (Itt K a) H1))
theorem Vp {X : Cx} {tg l : Expr} {tl : TE} (hl : PE X l tl) : PI X tg l (Zw X.K tl) := by
 intro pins s σ H R I h
 refine thn (hl pins s σ H _ I h) fun v s1 ⟨x, H1, I1, r1, q1⟩ => ?_
 obtain ⟨a, e, q1⟩ := q1
 subst e
 cases r1
 rcases q1 with ⟨⟨xs, hq⟩, q⟩ | ⟨⟨xs, hq⟩, q⟩
 ·obtain ⟨its, rv, p, hz⟩ := I1.list hq
  refine wpAny_pyIter_list p.isList ?_
  refine ⟨s1.heap.objs.size, [s1.heap.objs.size], _, _, H1, rfl, I1.kept (t' := s1.toks) fun b o e => Heap.get?_push_of_some _ e, O9 a _, ⟨_, Heap.get?_push_size _ rfl, rfl, rfl⟩, fun b hb => ?_, q⟩
  have e : b = s1.heap.objs.size := by simpa using hb
  subst e
  exact I1.fpOk (Nat.le_refl _) (I1.hok.fresh (Nat.le_refl _))
 ·obtain ⟨its, rv, p, hz⟩ := I1.tuple hq
  refine wpAny_pyIter_tuple (show s1.heap.IsTuple a its.toArray from p) ?_
  refine ⟨s1.heap.objs.size, [s1.heap.objs.size], _, _, H1, rfl, I1.kept (t' := s1.toks) fun b o e => Heap.get?_push_of_some _ e, NX a _, ⟨_, Heap.get?_push_size _ rfl, rfl, rfl⟩, fun b hb => ?_, q⟩
  have e : b = s1.heap.objs.size := by simpa using hb
  subst e
  exact I1.fpOk (Nat.le_refl _) (I1.hok.fresh (Nat.le_refl _))
theorem AW.get' {K : PySem.W.Frag} {M : Ms} {H : Hp} {vs : List V} {ds : List D} {i : Nat} (h : AW K M H vs ds) (hi : i < ds.length) : ∃ x, vs[i]? = some x := by
 have := h.length
 exact ⟨vs[i], List.getElem?_eq_getElem (by omega)⟩
structure SqF (K : PySem.W.Frag) (M : Ms) (H : Hp) (gs : Gd) (k : Bool) (a : Addr) (ds : List D) : Prop where
 keep : ∀ (H2 : Hp) (M2 : Ms) (S2 : Sto), Sp1 M H M2 H2 -> StR K M2 S2 H2 -> gOk gs S2 -> ∃ xs, (if k = true then SqT K H2 a xs else SqL K H2 a xs) /\ AW K M2 H2 xs ds
def sqD (S : Sto) : D -> Option (List D × Gd)
 | .tup ds => some (ds, [])
 | .lst ds => some (ds, [])
 | .ref n => (FI S n).map fun ds => (ds, [(n, ds)])
 | .scr ns => some (ns.map .int, [])
 | _ => none
theorem Lv {K : PySem.W.Frag} {M : Ms} {H : Hp} {S : Sto} {v : V} {d : D} {ds : List D} {gs : Gd} (st : StR K M S H) (h : C8 K M H v d) (e : sqD S d = some (ds, gs)) : ∃ k a, v = .ref a /\ SqF K M H gs k a ds := by
  cases h with
  | tup h r => cases e; exact ⟨true, _, rfl, ⟨fun H2 M2 S2 g _ _ => ⟨_, g.sqT h, r.step g⟩⟩⟩
  | lst h n r => cases e; exact ⟨false, _, rfl, ⟨fun H2 M2 S2 g _ _ => ⟨_, SqL.of (g.keep _ _ h n), r.step g⟩⟩⟩
  | scr h =>
    cases e
    refine ⟨false, _, rfl, ⟨fun H2 M2 S2 g _ _ => ⟨_, ?_, Hu⟩⟩⟩
    rcases h with ⟨h, n⟩ | h
    · rcases h with h | ⟨o, h⟩
      · exact .inl (.inl (g.keep _ _ h n))
      · exact .inl (.inr ⟨o, g.keep _ _ h n⟩)
    · exact .inr h
  | ref h =>
    obtain ⟨es, e1, e⟩ := Jl e
    cases e
    refine ⟨false, _, rfl, ⟨fun H2 M2 S2 g st2 ok => ?_⟩⟩
    obtain ⟨xs, h1, h2⟩ := st2.cell _ _ _ (Jx g.pre h) (Dl (ok _ (List.mem_singleton.mpr rfl)))
    exact ⟨xs, SqL.of h1, h2⟩
  | non => cases e
  | bl b => cases e
  | int b => cases e
  | str b => cases e
  | ty b => cases e
  | dct h n r => cases e
theorem YD {K : PySem.W.Frag} {M : Ms} {H : Hp} {gs : Gd} {k : Bool} {a : Addr} {ds : List D} (h : SqF K M H gs k a ds) : Va K M H gs ds (if k = true then Itt K a else Itl K a) := by
  cases k with
  | true =>
    exact {
      go := fun i H2 M2 S2 g st ok hi => let ⟨xs, h1, h2⟩ := h.keep H2 M2 S2 g st ok; let ⟨x, hx⟩ := h2.get' hi; ⟨xs, x, h1, hx⟩
      stop := fun i H2 M2 S2 g st ok hi => let ⟨xs, h1, h2⟩ := h.keep H2 M2 S2 g st ok; ⟨xs, h1, by have := h2.length; omega⟩
      yld := fun i H2 M2 S2 x H3 d g st ok hd hy => by
        obtain ⟨xs, h1, h2⟩ := h.keep H2 M2 S2 g st ok
        obtain ⟨rfl, hy⟩ := hy
        refine ⟨fun _ _ e => e, ?_⟩
        have hx := hy xs h1
        obtain ⟨x', h3, h4⟩ := h2.get hd
        rw [hx] at h3; cases h3
        exact h4 }
  | false =>
    exact {
      go := fun i H2 M2 S2 g st ok hi => let ⟨xs, h1, h2⟩ := h.keep H2 M2 S2 g st ok; let ⟨x, hx⟩ := h2.get' hi; ⟨xs, x, h1, hx⟩
      stop := fun i H2 M2 S2 g st ok hi => let ⟨xs, h1, h2⟩ := h.keep H2 M2 S2 g st ok; ⟨xs, h1, by have := h2.length; omega⟩
      yld := fun i H2 M2 S2 x H3 d g st ok hd hy => by
        obtain ⟨xs, h1, h2⟩ := h.keep H2 M2 S2 g st ok
        obtain ⟨rfl, hy⟩ := hy
        refine ⟨fun _ _ e => e, ?_⟩
        have hx := hy xs h1
        obtain ⟨x', h3, h4⟩ := h2.get hd
        rw [hx] at h3; cases h3
        exact h4 }
def Im (f : Ev) : Sr := fun E S => (f E S).bind fun r => (sqD r.2 r.1).map fun p => (p, r.2)
theorem J5 {S : Sto} {d : D} {ds : List D} {gs : Gd} (e : sqD S d = some (ds, gs)) : gOk gs S := by
  cases d <;> first | (cases e; done) | skip
  all_goals first
    | (cases e; intro g hg; cases hg; done)
    | (obtain ⟨es, e1, e⟩ := Jl e
       cases e
       intro g hg
       rw [List.mem_singleton.mp hg]
       exact e1)
theorem Ec {X : Cx} {tg e : Expr} {f : Ev} (h : DE X e f) : DI X tg e (Im f) := ⟨J0 (Vp h.pe) fun σ H R z => by
 obtain ⟨M, E, S, ds, gs, S', e, r, st, q⟩ := z
 obtain ⟨⟨d, S1⟩, e1, e⟩ := BJ e
 obtain ⟨⟨ds', gs'⟩, e2, e⟩ := Jl e
 cases e
 refine ⟨M, E, S, d, S1, e1, r, st, fun v H1 M1 g1 st1 r1 => ?_⟩
 obtain ⟨k, a, rfl, sq⟩ := Lv st1 r1 e2
 obtain ⟨xs, hs, _⟩ := sq.keep H1 M1 S1 (Gr.refl st1.mo).st st1 (J5 e2)
 have it := YD sq
 refine ⟨a, rfl, ?_⟩
 cases k with
 | true => exact .inr ⟨⟨xs, hs⟩, q _ _ M1 g1 st1 it⟩
 | false => exact .inl ⟨⟨xs, hs⟩, q _ _ M1 g1 st1 it⟩⟩
def GV (lo : Int) (n : Nat) : List D := (List.range n).map fun (i : Nat) => .int (lo + (i : Int))
theorem Us {K : PySem.W.Frag} {M : Ms} {H : Hp} {lo : Int} {n : Nat} : Va K M H [] (GV lo n) (Itr lo n) where
  go := fun i H2 M2 S2 g st ok hi => by
    have : i < n := by unfold GV at hi; simpa using hi
    exact this
  stop := fun i H2 M2 S2 g st ok hi => by
    have : n ≤ i := by unfold GV at hi; simpa using hi
    exact this
  yld := fun i H2 M2 S2 x H3 d g st ok hd hy => by
    obtain ⟨rfl, rfl⟩ := hy
    refine ⟨fun _ _ e => e, ?_⟩
    unfold GV at hd
    rw [List.getElem?_map] at hd
    cases e : (List.range n)[i]? with
    | none => rw [e] at hd; cases hd
    | some j =>
      rw [e] at hd
      cases hd
      have : j = i := by
        obtain ⟨h1, h2⟩ := List.getElem?_eq_some_iff.mp e
        simpa using h2.symm
      subst this
      exact .int _
def JQ (fs : List Ev) : Sr := fun E S => (evs fs E S).bind fun r => match r.1 with
 | [.int j] => if (decide (-(2 ^ 62) ≤ j) && decide (j < 2 ^ 62)) = true then some ((GV 0 j.toNat, []), r.2) else none
 | [.int i, .int j] => if (decide (-(2 ^ 62) ≤ i) && decide (i < 2 ^ 62) && decide (-(2 ^ 62) ≤ j) && decide (j < 2 ^ 62)) = true then some ((GV i (j - i).toNat, []), r.2) else none
 | _ => none
theorem KH {K : PySem.W.Frag} {M : Ms} {H : Hp} {vs : List V} {j : Int} (h : AW K M H vs [.int j]) : vs = [.int j] := by
 cases h with
 | cons h t => cases t; cases h; rfl
theorem Ek {X : Cx} {tg a : Expr} {o : Ev} {p pos : Pos} (hg : Gl X "range") (hm : X.mg "range" = none) (ha : DEs X [a] [o]) (hs : starEach [a] X.env = [(false, eval a X.env)] := by rfl) : DI X tg (.Call (.Name "range" p) [a] [] pos) (JQ [o]) := ⟨
 J0 (OE hg hm ha.pe hs) fun σ H R z => by
  obtain ⟨M, E, S, ds, gs, S', e, r, st, q⟩ := z
  obtain ⟨⟨ws, S1⟩, e1, e⟩ := BJ e
  have hl := Ls e1
  refine GA e1 r st fun vs H1 M1 g1 st1 r1 => ?_
  dsimp only at e
  split at e
  ·split at e
   ·rename_i j hk
    rw [Bool.and_eq_true] at hk
    cases e
    exact ⟨j, KH r1, of_decide_eq_true hk.1, of_decide_eq_true hk.2, q _ _ M1 g1 st1 Us⟩
   ·cases e
  ·simp at hl
  ·cases e⟩
open Classical in
def J3 (gs : Gd) (t : Tf) (body : Ex) : List D -> En -> Sto -> Option (Fl × En × Sto)
  | [], E, S => if gOk gs S then some (.nx, E, S) else none
  | d :: ds, E, S => if gOk gs S then (t d E S).bind fun E1 => (body E1 S).bind fun r => match r.1 with
    | .nx => J3 gs t body ds r.2.1 r.2.2
    | .ret w => some (.ret w, r.2)
    else none
def Kn (s : Sr) (t : Tf) (body : Ex) : Ex := fun E S => (s E S).bind fun r => J3 r.1.2 t body r.1.1 E r.2
theorem K9 {α : Type} {xs : List α} {i : Nat} {x : α} {r : List α} (h : xs.drop i = x :: r) : xs[i]? = some x /\ xs.drop (i + 1) = r /\ i < xs.length := by
 have hi : i < xs.length := by
  by_cases hi : i < xs.length
  ·exact hi
  ·rw [List.drop_eq_nil_of_le (by omega)] at h; cases h
 rw [List.drop_eq_getElem_cons hi] at h
 cases h
 exact ⟨List.getElem?_eq_getElem hi, rfl, hi⟩
theorem Hn {X : Cx} {tg iter : Expr} {body : List Stmt} {s : Sr} {t : Tf} {b : Ex} {pos : Pos} (hp : PassesOwn (model X.prog X.w) X.A X.env X.xe) (hc : X.calm = true) (hi : DI X tg iter s) (hg : DG X tg t) (hb : DSs X body b)
    (hs : ∀ x, foldedSetIterable iter X.env x = pure x := by intro _; rfl) : DS X (.For tg iter body [] pos) (Kn s t b) := ⟨EO (VC hp hc hi.pe hg.pe hb.pe hs) fun Dn σ H z => by
  obtain ⟨M, E, S, fl, E', S', e, r, st, q⟩ := z
  obtain ⟨⟨⟨ds, gs⟩, S1⟩, e1, e⟩ := BJ e
  dsimp only at e
  refine ⟨M, E, S, ds, gs, S1, e1, r, st, fun J H1 M1 g1 st1 it => ?_⟩
  refine ⟨fun i m σ' H' => m = ds.length - i /\ ∃ E2 S2 M2, J3 gs t b (ds.drop i) E2 S2 = some (fl, E', S') /\ Gr M1 H1 M2 H' /\ EnR X.K M2 E2 σ' H' /\ StR X.K M2 S2 H', ⟨_, rfl, E, S1, M1, e, .refl st1.mo, r.step g1.st, st1⟩, fun i m σ2 H2 hW => ?_⟩
  obtain ⟨rfl, E2, S2, M2, e2, g2, r2, st2⟩ := hW
  cases ed : ds.drop i with
  | nil =>
    rw [ed] at e2
    unfold J3 at e2
    split at e2
    · rename_i ok
      cases e2
      left
      exact ⟨it.stop i H2 M2 _ g2.st st2 ok (List.drop_eq_nil_iff.mp ed), q _ _ M2 (g1.trans g2) r2 st2⟩
    · cases e2
  | cons d rest =>
    obtain ⟨d1, d2, d3⟩ := K9 ed
    rw [ed] at e2
    unfold J3 at e2
    split at e2
    · rename_i ok
      obtain ⟨E3, e3, e2⟩ := BJ e2
      obtain ⟨⟨f4, E4, S4⟩, e4, e2⟩ := BJ e2
      dsimp only at e2
      right
      refine ⟨it.go i H2 M2 S2 g2.st st2 ok d3, fun σ' H' => ∃ m', m' < ds.length - i /\ (m' = ds.length - (i + 1) /\ ∃ E2 S2 M2, J3 gs t b (ds.drop (i + 1)) E2 S2 = some (fl, E', S') /\ Gr M1 H1 M2 H' /\ EnR X.K M2 E2 σ' H' /\ StR X.K M2 S2 H'), fun σ' H' z => z, fun x H3 hy => ?_⟩
      obtain ⟨k3, rx⟩ := it.yld i H2 M2 S2 x H3 d g2.st st2 ok d1 hy
      have g3 : Gr M2 H2 M2 H3 := .grow st2.mo k3
      refine ⟨M2, d, E2, E3, S2, e3, r2.step g3.st, st2.grow k3, rx, fun σ4 r4 => ?_⟩
      refine ⟨M2, E3, S2, f4, E4, S4, e4, r4, st2.grow k3, ?_⟩
      split at e2
      · exact fun σ6 H6 M6 g6 r6 st6 => ⟨_, by omega, rfl, E4, S4, M6, by rw [d2]; exact e2, (g2.trans g3).trans g6, r6, st6⟩
      · cases e2
        exact fun v H6 M6 g6 st6 r6 => q _ _ M6 (((g1.trans g2).trans g3).trans g6) st6 r6
    · cases e2⟩
def FN (c : Ev) (b : Ex) : Nat -> En -> Sto -> Option (Fl × En × Sto)
  | 0, _, _ => none
  | k + 1, E, S => (c E S).bind fun r => match r.1 with
    | .bl true => (b E r.2).bind fun p => match p.1 with
      | .nx => FN c b k p.2.1 p.2.2
      | .ret w => some (.ret w, p.2)
    | .bl false => some (.nx, E, r.2)
    | _ => none
def LL (fuel : En -> Nat) (c : Ev) (b : Ex) : Ex := fun E S => FN c b (fuel E) E S
theorem MG {X : Cx} {c : Expr} {body : List Stmt} {k : Ev} {b : Ex} {pos : Pos} (fuel : En -> Nat) (hp : PassesOwn (model X.prog X.w) X.A X.env X.xe) (hc : DT X c k) (hb : DSs X body b) : DS X (.While c body [] pos) (LL fuel k b) := ⟨
  EO (QC hp hc.pe hb.pe) fun Dn σ H z => by
    obtain ⟨M, E, S, fl, E', S', e, r, st, q⟩ := z
    refine ⟨fun m σ' H' => ∃ E2 S2 M2, FN k b m E2 S2 = some (fl, E', S') /\ Gr M H M2 H' /\ EnR X.K M2 E2 σ' H' /\ StR X.K M2 S2 H', ⟨fuel E, E, S, M, e, .refl st.mo, r, st⟩, fun m σ2 H2 hW => ?_⟩
    obtain ⟨E2, S2, M2, e2, g2, r2, st2⟩ := hW
    cases m with
    | zero => cases e2
    | succ m =>
      obtain ⟨⟨w3, S3⟩, e3, e2⟩ := BJ e2
      dsimp only at e2
      split at e2
      · obtain ⟨⟨f4, E4, S4⟩, e4, e2⟩ := BJ e2
        refine ⟨M2, E2, S2, true, S3, e3, r2, st2, fun H3 M3 g3 st3 => ?_⟩
        refine Se ⟨fun σ' H' => ∃ m', m' < m + 1 /\ ∃ E2 S2 M2, FN k b m' E2 S2 = some (fl, E', S') /\ Gr M H M2 H' /\ EnR X.K M2 E2 σ' H' /\ StR X.K M2 S2 H', fun σ' H' z => z, ?_⟩
        refine ⟨M3, E2, S3, f4, E4, S4, e4, r2.step g3.st, st3, ?_⟩
        dsimp only at e2
        split at e2
        · exact fun σ5 H5 M5 g5 r5 st5 => ⟨m, by omega, E4, S4, M5, e2, (g2.trans g3).trans g5, r5, st5⟩
        · cases e2
          exact fun v H5 M5 g5 st5 r5 => q _ _ M5 ((g2.trans g3).trans g5) st5 r5
      · cases e2
        refine ⟨M2, _, S2, false, _, e3, r2, st2, fun H3 M3 g3 st3 => ?_⟩
        refine Tt ?_
        exact q _ _ M3 (g2.trans g3) (r2.step g3.st) st3
      · cases e2⟩
def M8 (i : Nat) : En -> Nat := fun E => match at? E i with
 | some (.int j) => j.natAbs + 2
 | _ => 0
end Mi
end
noncomputable section
namespace Mi
open PySem PySem.Spec L2
section
variable {K : PySem.W.Frag} {M M' M2 : Ms} {H H' H2 : Hp} {S : Sto}
structure GrX (M : Ms) (H : Hp) (M' : Ms) (H' : Hp) : Prop where
 pre : M.cel <+: M'.cel
 fresh : ∀ a, a ∈ M'.cel -> a ∈ M.cel ∨ H a = none
 keep : ∀ a o, H a = some o -> a ∉ M.cel -> H' a = some o
 some : ∀ a, H a ≠ none -> H' a ≠ none
theorem GrX.none (g : GrX M H M' H') {a : Addr} (h : H' a = none) : H a = none := by
 cases e : H a with
 | none => rfl
 | some o => exact absurd h (g.some a (by rw [e]; intro z; cases z))
theorem Gr.x (g : Gr M H M' H') : GrX M H M' H' := ⟨g.pre, g.fresh, g.keep, g.some⟩
theorem GrX.trans (h : GrX M H M' H') (g : GrX M' H' M2 H2) : GrX M H M2 H2 :=
 ⟨h.pre.trans g.pre, fun a z => (g.fresh a z).elim (h.fresh a) fun z => .inr (h.none z), fun a o e n => g.keep a o (h.keep a o e n) (fun z => by
  rcases h.fresh a z with z | z
  ·exact n z
  ·rw [e] at z; cases z), fun a e => g.some a (h.some a e)⟩
theorem StR.tmp_on (r : StR K M S H) {a : Addr} (e : H a = none) : StR K ⟨M.cel, a :: M.tmp⟩ S (upd H a (.lst [])) /\ GrX M H ⟨M.cel, a :: M.tmp⟩ (upd H a (.lst [])) /\ Sp1 M H ⟨M.cel, a :: M.tmp⟩ (upd H a (.lst [])) := by
 have k : ∀ b o, H b = some o -> upd H a (.lst []) b = some o := Fx e
 have na : ¬ M.mem a := fun z => r.mo.some z e
 have s1 : Sp1 M H ⟨M.cel, a :: M.tmp⟩ (upd H a (.lst [])) := ⟨r.mo, List.prefix_rfl, fun b z => by
  rcases z with z | z
  ·exact .inl (.inl z)
  ·rcases List.mem_cons.mp z with z | z
   ·subst z; exact .inr e
   ·exact .inl (.inr z), fun b o eb _ => k b o eb⟩
 refine ⟨⟨fun b z => ?_, r.nd, fun b hb z => ?_, r.len, fun n b c h1 h2 => ?_⟩, ⟨List.prefix_rfl, fun b z => .inl z, fun b o eb _ => k b o eb, fun b eb z => ?_⟩, s1⟩
 ·by_cases h : b = a
  ·subst h; exact .inl ⟨[], Bb⟩
  ·rw [Ak h]
   refine r.mo b ?_
   rcases z with z | z
   ·exact .inl z
   ·rcases List.mem_cons.mp z with z | z
    ·exact absurd z h
    ·exact .inr z
 ·rcases List.mem_cons.mp hb with hb | hb
  ·subst hb; exact na (.inl z)
  ·exact r.nt b hb z
 ·have q := r.cell n b c h1 h2
  cases c with
  | lst ds => obtain ⟨xs, e, rr⟩ := q; exact ⟨xs, k _ _ e, rr.step s1⟩
  | dct ds => obtain ⟨xs, e, rr⟩ := q; exact ⟨xs, k _ _ e, rr.step s1⟩
 ·cases h : H b with
  | none => exact eb h
  | some o => rw [k b o h] at z; cases z
theorem StR.tmp_app (r : StR K M S H) {a : Addr} {ys : List V} (ha : a ∈ M.tmp) : StR K M S (upd H a (.lst ys)) /\ Sp1 M H M (upd H a (.lst ys)) := by
 have s1 : Sp1 M H M (upd H a (.lst ys)) := ⟨r.mo, List.prefix_rfl, fun b z => .inl z, fun b o eb nb => by rw [Ak (fun z => nb (by rw [z]; exact .inr ha))]; exact eb⟩
 refine ⟨⟨fun b z => ?_, r.nd, r.nt, r.len, fun n b c h1 h2 => ?_⟩, s1⟩
 ·by_cases h : b = a
  ·subst h; exact .inl ⟨ys, Bb⟩
  ·rw [Ak h]; exact r.mo b z
 ·have hb : b ≠ a := fun z => r.nt a ha (by rw [← z]; exact List.mem_of_getElem? h1)
  have q := r.cell n b c h1 h2
  cases c with
  | lst ds => obtain ⟨xs, e, rr⟩ := q; exact ⟨xs, by rw [Ak hb]; exact e, rr.step s1⟩
  | dct ds => obtain ⟨xs, e, rr⟩ := q; exact ⟨xs, by rw [Ak hb]; exact e, rr.step s1⟩
theorem StR.tmp_off {c : List Addr} {t : List Addr} {a : Addr} {xs : List V} {ds : List D} {cf : Bool} {d : D} {S' : Sto} (r : StR K ⟨c, a :: t⟩ S H) (nt : a ∉ t) (e : H a = some (.lst xs)) (rr : AW K ⟨c, a :: t⟩ H xs ds) (ef : fin cf (.own ds) S = some (d, S')) :
    ∃ c', StR K ⟨c', t⟩ S' H /\ C8 K ⟨c', t⟩ H (.ref a) d /\ c <+: c' /\ (∀ b ∈ c', b ∈ c ∨ b = a) := by
  have nc : a ∉ c := r.nt a List.mem_cons_self
  cases cf with
  | false =>
    cases ef
    have s1 : Sp1 ⟨c, a :: t⟩ H ⟨c, t⟩ H := ⟨r.mo, List.prefix_rfl, fun b z => .inl (z.imp id (List.mem_cons_of_mem _)), fun _ _ e _ => e⟩
    refine ⟨c, ⟨fun b z => r.mo b (z.imp id (List.mem_cons_of_mem _)), r.nd, fun b hb => r.nt b (List.mem_cons_of_mem _ hb), r.len, fun n b cl h1 h2 => ?_⟩, .lst e (fun z => z.elim nc nt) (rr.step s1), List.prefix_rfl, fun b z => .inl z⟩
    have q := r.cell n b cl h1 h2
    cases cl with
    | lst ds => obtain ⟨xs, e, rr⟩ := q; exact ⟨xs, e, rr.step s1⟩
    | dct ds => obtain ⟨xs, e, rr⟩ := q; exact ⟨xs, e, rr.step s1⟩
  | true =>
    cases ef
    have s1 : Sp1 ⟨c, a :: t⟩ H ⟨c ++ [a], t⟩ H := ⟨r.mo, List.prefix_append _ _, fun b z => by
      rcases z with z | z
      · rcases List.mem_append.mp z with z | z
        · exact .inl (.inl z)
        · exact .inl (.inr (by rw [List.mem_singleton.mp z]; exact List.mem_cons_self))
      · exact .inl (.inr (List.mem_cons_of_mem _ z)), fun _ _ e _ => e⟩
    have hl : c.length = S.length := r.len
    refine ⟨c ++ [a], ⟨fun b z => ?_, ?_, fun b hb z => ?_, by simp [hl], fun n b cl h1 h2 => ?_⟩, .ref ?_, List.prefix_append _ _, fun b z => ?_⟩
    · refine r.mo b ?_
      rcases z with z | z
      · rcases List.mem_append.mp z with z | z
        · exact .inl z
        · exact .inr (by rw [List.mem_singleton.mp z]; exact List.mem_cons_self)
      · exact .inr (List.mem_cons_of_mem _ z)
    · rw [List.nodup_append]
      refine ⟨r.nd, by simp, fun x hx y hy z => ?_⟩
      simp at hy; subst hy
      exact nc (by rw [← z]; exact hx)
    · rcases List.mem_append.mp z with z | z
      · exact r.nt b (List.mem_cons_of_mem _ hb) z
      · rw [List.mem_singleton.mp z] at hb; exact nt hb
    · by_cases h : n < S.length
      · rw [List.getElem?_append_left (by rw [hl]; exact h)] at h1
        rw [List.getElem?_append_left h] at h2
        have q := r.cell n b cl h1 h2
        cases cl with
        | lst ds => obtain ⟨xs, e, rr⟩ := q; exact ⟨xs, e, rr.step s1⟩
        | dct ds => obtain ⟨xs, e, rr⟩ := q; exact ⟨xs, e, rr.step s1⟩
      · have hm : n = S.length := by
          have := (List.getElem?_eq_some_iff.mp h2).1
          simp at this; omega
        subst hm
        rw [List.getElem?_append_right (by rw [hl]; exact Nat.le_refl _)] at h1
        rw [List.getElem?_append_right (Nat.le_refl _)] at h2
        rw [hl] at h1
        simp at h1 h2
        subst h1 h2
        exact ⟨xs, e, rr.step s1⟩
    · rw [← hl]; exact List.getElem?_concat_length
    · rcases List.mem_append.mp z with z | z
      · exact .inl z
      · exact .inr (List.mem_singleton.mp z)
end
open Classical in
def By (gs : Gd) (t : Tf) (c : Ev) (f : Ev) : List D -> List D -> En -> Sto -> Option (List D × Sto)
  | [], acc, _, S => if gOk gs S then some (acc, S) else none
  | d :: ds, acc, E, S => if gOk gs S then (if acc.length < sizeLine then (t d E S).bind fun E1 => (c E1 S).bind fun r => match r.1 with
      | .bl true => (f E1 r.2).bind fun p => By gs t c f ds (acc ++ [p.1]) E1 p.2
      | .bl false => By gs t c f ds acc E1 r.2
      | _ => none
    else none) else none
def BM : Ev := fun _ S => some (.bl true, S)
def Nc (cap : List Nat) (m : Nat) (E : En) : En := cap.map (at? E) ++ List.replicate m none
def Jk (cf : Bool) (cap : List Nat) (m : Nat) (s : Sr) (t : Tf) (c : Ev) (f : Ev) : Ev := fun E S => (s E S).bind fun r => (By r.1.2 t c f r.1.1 [] (Nc cap m E) r.2).bind fun q => fin cf (.own q.1) q.2
noncomputable abbrev C2 := Jk false
noncomputable abbrev SH := Jk true
def ixC (cap : List Nat) (m : Nat) : List (Option Nat) := cap.map some ++ List.replicate m none
theorem EnR.cap {K : PySem.W.Frag} {M : Ms} {E : En} {σ : Sg} {H : Hp} (r : EnR K M E σ H) (cap : List Nat) (m : Nat) : EnR K M (Nc cap m E) (sig (ixC cap m) σ) H := by
  unfold Nc sig ixC
  refine ⟨by simp, fun i d e => ?_⟩
  have h1 := PF e
  rw [List.getElem?_map] at h1
  cases e1 : cap[i]? with
  | none => rw [e1] at h1; cases h1
  | some j =>
    rw [e1] at h1
    have h2 : at? E j = some d := by simpa using h1
    obtain ⟨v, hv, rd⟩ := r.val j d (at?_some h2)
    refine ⟨v, ?_, rd⟩
    have hi : i < cap.length := (List.getElem?_eq_some_iff.mp e1).1
    rw [List.map_append, List.getElem?_append_left (by simpa using hi), List.getElem?_map, List.getElem?_map, e1]
    show some ((σ[j]?).join) = some (some v)
    rw [hv]
    rfl
theorem OP {K : PySem.W.Frag} {cf : Bool} {cap : List Nat} {m : Nat} {s : Sr} {t : Tf} {c f : Ev} {σ : Sg} {H : Hp} {Q : VK} (h : tD K (Jk cf cap m s t c f) σ H Q) : UE (ixC cap m) (tI K s) (tG K t) (tDT K c) (tD K f) σ H Q := by
  obtain ⟨M, E, S, d, S', e, r, st, q⟩ := h
  obtain ⟨⟨⟨ds, gs⟩, S1⟩, e1, e⟩ := BJ e
  obtain ⟨⟨accf, Sf⟩, e3, e⟩ := BJ e
  dsimp only at e e3
  refine ⟨M, E, S, ds, gs, S1, e1, r, st, fun J H1 M1 g1 st1 it A0 hD => ?_⟩
  obtain ⟨st0, gx0, s0⟩ := st1.tmp_on hD
  have nt : A0 ∉ M1.tmp := fun z => st1.mo.some (.inr z) hD
  refine ⟨fun i mm σ' H' ys => mm = ds.length - i /\ ∃ Ei Si Mi acc, By gs t c f (ds.drop i) acc Ei Si = some (accf, Sf) /\ GrX M1 H1 Mi H' /\ Mi.tmp = A0 :: M1.tmp /\ EnR K Mi Ei σ' H' /\ StR K Mi Si H' /\ H' A0 = some (.lst ys) /\ AW K Mi H' ys acc,
    ⟨_, rfl, _, S1, _, [], e3, gx0, rfl, ((r.step g1.st).step s0).cap cap m, st0, Bb, .nil⟩, fun i mm σ2 H2 ys hW => ?_⟩
  obtain ⟨rfl, Ei, Si, Mi, acc, ec, gx, ht, r2, st2, hy, ry⟩ := hW
  have sp : Sp1 M1 H1 Mi H2 := ⟨st1.mo, gx.pre, fun a z => by
    rcases z with z | z
    · exact (gx.fresh a z).imp .inl id
    · rw [ht] at z
      rcases List.mem_cons.mp z with z | z
      · subst z; exact .inr hD
      · exact .inl (.inr z), fun a o eo no => gx.keep a o eo fun z => no (.inl z)⟩
  refine ⟨hy, ?_⟩
  cases ed : ds.drop i with
  | nil =>
    rw [ed] at ec
    unfold By at ec
    split at ec
    · rename_i ok
      cases ec
      left
      obtain ⟨ci, ti⟩ := Mi
      have ht' : ti = A0 :: M1.tmp := ht
      subst ht'
      obtain ⟨c', st', rd', pr', sub'⟩ := st2.tmp_off nt hy ry e
      refine ⟨it.stop i H2 _ _ sp st2 ok (List.drop_eq_nil_iff.mp ed), q _ _ ⟨c', M1.tmp⟩ (g1.trans ⟨st1.mo, gx.pre.trans pr', rfl, fun a z => ?_, gx.keep, gx.some⟩) st' rd'⟩
      rcases sub' a z with z | z
      · exact gx.fresh a z
      · subst z; exact .inr hD
    · cases ec
  | cons d rest =>
    obtain ⟨d1, d2, d3⟩ := K9 ed
    rw [ed] at ec
    unfold By at ec
    split at ec
    · rename_i ok
      split at ec
      · rename_i hz
        obtain ⟨E3, e4, ec⟩ := BJ ec
        obtain ⟨⟨w5, S5⟩, e5, ec⟩ := BJ ec
        right
        refine ⟨it.go i H2 Mi Si sp st2 ok d3, by rw [ry.length]; exact hz, fun x H3 hyl => ?_⟩
        obtain ⟨k3, rx⟩ := it.yld i H2 Mi Si x H3 d sp st2 ok d1 hyl
        have g3 : Gr Mi H2 Mi H3 := .grow st2.mo k3
        have st3 := st2.grow k3
        refine ⟨Mi, d, Ei, E3, Si, e4, r2.step g3.st, st3, rx, fun σ4 r4 => ?_⟩
        have hA : A0 ∈ Mi.tmp := by rw [ht]; exact List.mem_cons_self
        have hy3 : H3 A0 = some (.lst ys) := k3 _ _ hy
        have ry3 : AW K Mi H3 ys acc := ry.step g3.st
        have fin : ∀ {E6 : En} {S6 : Sto} {M6 : Ms} {H6 : Hp} {zs : List V} {acc6 : List D}, By gs t c f rest acc6 E6 S6 = some (accf, Sf) -> GrX M1 H1 M6 H6 -> M6.tmp = A0 :: M1.tmp -> EnR K M6 E6 σ4 H6 -> StR K M6 S6 H6 -> H6 A0 = some (.lst zs) -> AW K M6 H6 zs acc6 ->
            ∃ m', m' < ds.length - i /\ (m' = ds.length - (i + 1) /\ ∃ Ei Si Mi acc, By gs t c f (ds.drop (i + 1)) acc Ei Si = some (accf, Sf) /\ GrX M1 H1 Mi H6 /\ Mi.tmp = A0 :: M1.tmp /\ EnR K Mi Ei σ4 H6 /\ StR K Mi Si H6 /\ H6 A0 = some (.lst zs) /\ AW K Mi H6 zs acc) :=
          fun {E6 S6 M6 H6 zs acc6} ec g6 t6 r6 st6 h6 y6 => ⟨_, by omega, rfl, E6, S6, M6, acc6, by rw [d2]; exact ec, g6, t6, r6, st6, h6, y6⟩
        dsimp only at ec
        split at ec
        · obtain ⟨⟨w7, S7⟩, e7, ec⟩ := BJ ec
          refine ⟨Mi, E3, Si, true, S5, e5, r4, st3, fun H5 M5 g5 st5 => ?_⟩
          refine Se ?_
          refine ⟨M5, E3, S5, w7, S7, e7, r4.step g5.st, st5, fun y H7 M7 g7 st7 d7 => ?_⟩
          have nA : ∀ {M6 : Ms} {H6 : Hp} {S6 : Sto}, StR K M6 S6 H6 -> A0 ∈ M6.tmp -> A0 ∉ M6.cel := fun r6 h6 => r6.nt A0 h6
          have hA5 : A0 ∈ M5.tmp := by rw [g5.tmp]; exact hA
          have hA7 : A0 ∈ M7.tmp := by rw [g7.tmp]; exact hA5
          have hy5 : H5 A0 = some (.lst ys) := g5.keep _ _ hy3 (nA st3 hA)
          have hy7 : H7 A0 = some (.lst ys) := g7.keep _ _ hy5 (nA st5 hA5)
          have ry7 : AW K M7 H7 ys acc := (ry3.step g5.st).step g7.st
          refine ⟨hy7, ?_⟩
          obtain ⟨st8, s8⟩ := st7.tmp_app (ys := ys ++ [y]) hA7
          have gx7 : GrX M1 H1 M7 H7 := ((gx.trans g3.x).trans g5.x).trans g7.x
          have gx8 : GrX M1 H1 M7 (upd H7 A0 (.lst (ys ++ [y]))) := ⟨gx7.pre, gx7.fresh, fun a o eo no => by
            rw [Ak (fun z => by subst z; rw [hD] at eo; cases eo)]
            exact gx7.keep a o eo no, fun a ea => by
            by_cases h : a = A0
            · subst h; rw [Bb]; intro z; cases z
            · rw [Ak h]; exact gx7.some a ea⟩
          exact fin ec gx8 (by rw [g7.tmp, g5.tmp]; exact ht) (((r4.step g5.st).step g7.st).step s8) st8 Bb ((ry7.append (.cons d7 .nil)).step s8)
        · refine ⟨Mi, E3, Si, false, S5, e5, r4, st3, fun H5 M5 g5 st5 => ?_⟩
          refine Tt ?_
          exact fin ec ((gx.trans g3.x).trans g5.x) (by rw [g5.tmp]; exact ht) (r4.step g5.st) st5 (g5.keep _ _ hy3 (st3.nt A0 hA)) (ry3.step g5.st)
        · cases ec
      · cases ec
    · cases ec
structure DTs (X : Cx) (ifs : List Expr) (c : Ev) : Prop where
 pe : PTs X ifs (tDT X.K c)
theorem P6 {X : Cx} {e : List Expr} {t t' : TT} (h : PTs X e t) (m : ∀ σ H Q, t' σ H Q -> t σ H Q) : PTs X e t' := fun pins s σ H Q I q => h pins s σ H Q I (m _ _ _ q)
theorem B2 {X : Cx} : DTs X [] BM := ⟨P6 SV fun σ H Q z => by
 obtain ⟨M, E, S, b, S', e, r, st, q⟩ := z
 cases e
 exact q _ M (.refl st.mo) st⟩
theorem SU {X : Cx} {c : Expr} {f : Ev} (h : DT X c f) : DTs X [c] f := ⟨T4 h.pe⟩
section
variable {X : Cx} {N' : List Str} {cf : Bool} {cap : List Nat} {m : Nat} {scope : Scope} {elt tg iter : Expr} {ifs : List Expr} {pos : Pos} {s : Sr} {t : Tf} {c f : Ev}
def Blk (X : Cx) (N' : List Str) (scope : Scope) (tg : Expr) (ifs : List Expr) (elt : Expr) (t : Tf) (c f : Ev) : Prop :=
 ∀ (s : Shared) (H : Hp) (fp : List Addr), DG (FP X N' scope s H fp) tg t /\ DTs (FP X N' scope s H fp) ifs c /\ DE (FP X N' scope s H fp) elt f
theorem CK (cap : List Nat) (m : Nat) (N' : List Str) (hc : X.calm = true) (S : Ab X.N X.env.scope N' (ixC cap m) scope) (hi : DI X tg iter s) (hb : Blk X N' scope tg ifs elt t c f) (hs : ∀ x, foldedSetIterable iter X.env x = pure x := by intro _; rfl) :
  DE X (.ListComp elt [⟨tg, iter, ifs, 0⟩] scope pos) (Jk cf cap m s t c f) := ⟨
 Bh (UI (g := tG X.K t) (tc := tDT X.K c) (te := tD X.K f) hc S hi.pe (fun s H fp => ⟨(hb s H fp).1.pe, (hb s H fp).2.1.pe, (hb s H fp).2.2.pe⟩) hs) fun _ _ _ h => OP h⟩
theorem HN {i : Nat} {y : Str} {py spos : Pos} (cap : List Nat) (m : Nat) (N' : List Str) (hc : X.calm = true) (hN : X.N.Nodup) (hi' : X.N[i]? = some y) (hx : X.env.scope.names.lookup y = some .local) (S : Ab X.N X.env.scope N' (ixC cap m) scope) (hi : DI X tg iter s) (hb : Blk X N' scope tg ifs elt t c f)
  (hsw : swapsWith (.ListComp elt [⟨tg, iter, ifs, 0⟩] scope pos) (some (.Name y py)) spos.line X.env = pure true := by rfl) (hs : ∀ x, foldedSetIterable iter X.env x = pure x := by intro _; rfl) :
  DS X (.Assign [.Name y py] (.ListComp elt [⟨tg, iter, ifs, 0⟩] scope pos) spos) (CB i (Jk cf cap m s t c f)) := ⟨
 EO (NS (g := tG X.K t) (tc := tDT X.K c) (te := tD X.K f) hc hN hi' hx S hi.pe (fun s H fp => ⟨(hb s H fp).1.pe, (hb s H fp).2.1.pe, (hb s H fp).2.2.pe⟩) hsw hs) fun Dn σ H z => by
  obtain ⟨M, E, S, fl, E', S', e, r, st, q⟩ := z
  obtain ⟨⟨d, S1⟩, e1, e⟩ := Jl e
  cases e
  exact OP ⟨M, E, S, d, S1, e1, r, st, fun v H1 M1 g1 st1 r1 => q _ _ M1 g1 ((r.step g1.st).put r1) st1⟩⟩
end
end Mi
end
section
namespace Mi
open PySem PySem.Spec L2
def Hg {α : Type} (xs : List α) (lo hi : Option Int) : List α := (xs.drop (HT.sIx xs.length 0 lo)).take (HT.sIx xs.length xs.length hi - HT.sIx xs.length 0 lo)
theorem Ng {K : PySem.W.Frag} {M : Ms} {H : Hp} {xs : List V} {ds : List D} (h : AW K M H xs ds) (lo hi : Option Int) : AW K M H (Rq xs lo hi) (Hg ds lo hi) := by
 unfold Rq Hg
 rw [h.length]
 exact (h.drop _).take _
theorem Oz {α : Type} {xs : List α} {lo hi : Option Int} (h1 : HT.sIx xs.length 0 lo = 0) (h2 : HT.sIx xs.length xs.length hi = xs.length) : Hg xs lo hi = xs := by
 unfold Hg
 rw [h1, h2]
 simp
def wSl (lo hi : Option Int) : Op1 := fun w => match w with
 | .val (.tup ds) => some (.val (.tup (Hg ds lo hi)))
 | .val (.str z) => if z.length ≤ sizeLine then some (.val (.str (Txt.slice z lo hi))) else none
 | w => (asL w).map fun ds => .own (Hg ds lo hi)
def ZL (K : PySem.W.Frag) : V -> Option Int -> Option Int -> Hp -> VK -> Prop := fun x lo hi H Q => ∃ M w r, wSl lo hi w = some r /\ MOk M H /\ Sh K M H x w /\ ∀ v H', Nw K M H H' v r -> Q v H'
theorem U9 {X : Cx} : SlR X (fun x lo hi H Q => ∃ z, x = .str z /\ z.length ≤ sizeLine /\ Q (.str (Txt.slice z lo hi)) H) := by
  intro pins s σ H x v vl vu lo hi sl Q I rx hs pl pu h
  obtain ⟨z, rfl, hz, q⟩ := h
  obtain ⟨t, rfl⟩ := rx
  have fin : ∀ t' k, EP X pins σ Q (.str (Txt.slice z lo hi) t') { s with toks := k } := fun t' k => ⟨.str _, H, I.tok k, ⟨t', rfl⟩, q⟩
  cases pl with
  | none =>
    cases pu with
    | none => exact ⟨"str", _, PySem.F.slot_str_getitem.lookup, typeIs_str _ _ _, wpAny_getItem_str_slice (l := none) (u := none) (st := none) hs rfl (post_val_or_str ⟨Nat.le_trans (Txt.slice_le z _ _) hz, fin⟩)⟩
    | int j u => exact ⟨"str", _, PySem.F.slot_str_getitem.lookup, typeIs_str _ _ _, wpAny_getItem_str_slice (l := none) (u := some (j, u)) (st := none) hs rfl (post_val_or_str ⟨Nat.le_trans (Txt.slice_le z _ _) hz, fin⟩)⟩
  | int i u' =>
    cases pu with
    | none => exact ⟨"str", _, PySem.F.slot_str_getitem.lookup, typeIs_str _ _ _, wpAny_getItem_str_slice (l := some (i, u')) (u := none) (st := none) hs rfl (post_val_or_str ⟨Nat.le_trans (Txt.slice_le z _ _) hz, fin⟩)⟩
    | int j u => exact ⟨"str", _, PySem.F.slot_str_getitem.lookup, typeIs_str _ _ _, wpAny_getItem_str_slice (l := some (i, u')) (u := some (j, u)) (st := none) hs rfl (post_val_or_str ⟨Nat.le_trans (Txt.slice_le z _ _) hz, fin⟩)⟩
theorem ZE {X : Cx} : SlR X (ZL X.K) := by
  intro pins s σ H x v vl vu lo hi sl Q I rx hs pl pu h
  obtain ⟨M, w, r, e, mo, sh, q⟩ := h
  unfold wSl at e
  split at e
  · rename_i ds
    cases e
    cases sh with
    | tup hx rr =>
      rename_i a xs
      have hl := rr.length
      by_cases hw : HT.sIx xs.length 0 lo = 0 /\ HT.sIx xs.length xs.length hi = xs.length
      · refine St.VL pins s σ H _ v vl vu lo hi sl Q I rx hs pl pu ⟨a, xs, rfl, hx, hw.1, hw.2, ?_⟩
        have ew : Hg ds lo hi = ds := Oz (by rw [← hl]; exact hw.1) (by rw [← hl]; exact hw.2)
        rw [ew] at q
        exact q _ _ (.same mo (.tup hx rr))
      · exact V4 pins s σ H _ v vl vu lo hi sl Q I rx hs pl pu ⟨a, xs, rfl, hx, hw, fun p hp => q _ _ (.tup mo hp (Ng rr lo hi))⟩
  · split at e
    · cases e
      cases sh
      exact U9 pins s σ H _ v vl vu lo hi sl Q I rx hs pl pu ⟨_, rfl, by assumption, q _ _ (.same mo (.str _))⟩
    · cases e
  · cases e1 : asL w with
    | none => rw [e1] at e; cases e
    | some ds =>
      rw [e1] at e
      cases e
      obtain ⟨a, xs, rfl, h1, rr⟩ := sh.l e1
      exact Tz pins s σ H _ v vl vu lo hi sl Q I rx hs pl pu ⟨a, xs, rfl, .of h1, fun p hp => q _ _ (.lst mo hp (Ng rr lo hi))⟩
def Uh : Wv -> Option Int
 | .val (.int i) => some i
 | _ => none
def Jc (l h : Bool) : OpN := fun ws => match l, h, ws with
 | false, false, [a] => wSl none none a
 | true, false, [a, b] => (Uh b).bind fun i => wSl (some i) none a
 | false, true, [a, b] => (Uh b).bind fun i => wSl none (some i) a
 | true, true, [a, b, c] => (Uh b).bind fun i => (Uh c).bind fun j => wSl (some i) (some j) a
 | _, _, _ => none
theorem O3 {K : PySem.W.Frag} {M : Ms} {H : Hp} {v : V} {w : Wv} {i : Int} (s : Sh K M H v w) (e : Uh w = some i) : v = .int i := by
  cases w with
  | own ds => cases e
  | val d =>
    cases d <;> first | (cases e; done) | skip
    cases e; cases s; rfl
section
variable {X : Cx} {e lo hi : Expr} {oe ol oh : Ev} {c : Bool} {pos p2 : Pos}
theorem Ih (h : DE X e oe) (hl : DE X lo ol) : DE X (.Subscript e (.Slice (some lo) none none p2) pos) (MI c (Jc true false) [oe, ol]) := ⟨Bh (MC ZE h.pe (OI hl.pe) Oc) fun σ H Q z => by
  obtain ⟨M0, E, S0, w, S1, e, r, st, q⟩ := z
  have z : tD X.K oe σ H fun x H1 => tD X.K ol σ H1 fun y H2 => rN X.K (Jc true false) [x, y] H2 Q := Jo (Q := Q) e r st q
  refine GU z fun x H1 z1 => GU z1 fun y H2 z2 => ?_
  obtain ⟨M, ws, w', e1, mo, sh, q1⟩ := z2
  cases sh with
  | cons h1 t =>
    cases t with
    | cons h2 t =>
      cases t
      obtain ⟨i, ei, e1⟩ := BJ e1
      exact ⟨i, O3 h2 ei, M, _, w', e1, mo, h1, q1⟩⟩
theorem HR (h : DE X e oe) (hh : DE X hi oh) : DE X (.Subscript e (.Slice none (some hi) none p2) pos) (MI c (Jc false true) [oe, oh]) := ⟨Bh (MC ZE h.pe Oc (OI hh.pe)) fun σ H Q z => by
  obtain ⟨M0, E, S0, w, S1, e, r, st, q⟩ := z
  have z : tD X.K oe σ H fun x H1 => tD X.K oh σ H1 fun y H2 => rN X.K (Jc false true) [x, y] H2 Q := Jo (Q := Q) e r st q
  refine GU z fun x H1 z1 => GU z1 fun y H2 z2 => ?_
  obtain ⟨M, ws, w', e1, mo, sh, q1⟩ := z2
  cases sh with
  | cons h1 t =>
    cases t with
    | cons h2 t =>
      cases t
      obtain ⟨i, ei, e1⟩ := BJ e1
      exact ⟨i, O3 h2 ei, M, _, w', e1, mo, h1, q1⟩⟩
structure Nf (K : PySem.W.Frag) (mg : Str -> Option Value) (x : Str) (d : D) : Prop where
 ex : ∃ v u, mg x = some u /\ RelV v u /\ ∀ M H, C8 K M H v d
theorem KN {x : Str} {d : D} (c : Nf X.K X.mg x d) (hg : Gl X x) (hd : (x == ("__debug__" : Str)) = false := by decide) : DE X (.Name x pos) (eC d) := ⟨by
 obtain ⟨v, u, h1, h2, h3⟩ := c.ex
 exact Bh (TR hg h1 h2 hd) fun σ H Q z => by
  obtain ⟨M0, E, S0, w, S1, e, rr, st, q⟩ := z
  cases e
  exact q _ _ M0 (.refl st.mo) st (h3 _ _)⟩
theorem Uj {x : Str} {T : String} (hg : Gl X x) (hm : X.mg x = none) (hv : bootBuiltins x = some (.type T)) (hn : x ≠ "__name__" := by decide) (hd : (x == ("__debug__" : Str)) = false := by decide) : DE X (.Name x pos) (eC (.ty T)) :=
 K5 (T5 (v := .ty T) hg hm hv rfl hn hd) fun _ _ _ => .ty T
structure Z8 (K : PySem.W.Frag) (w : World) (mg : Str -> Option Value) (x : Str) (tbl : List (Str × D)) : Prop where
 ex : ∃ a kvs, mg x = some (.ref a) /\ TopD K w a kvs /\ ∀ k, (tbl.lookup k = none -> kvs.lookup k = none) /\ ∀ d, tbl.lookup k = some d -> ∃ v, kvs.lookup k = some v /\ ∀ M H, C8 K M H v d
end
end Mi
end
section
namespace Mi
open PySem PySem.Spec L2
def Lc : Nat -> List D -> List D
 | _, [] => []
 | k, d :: ds => .tup [.int k, d] :: Lc (k + 1) ds
theorem Hz : ∀ {ds : List D} {k i : Nat}, (Lc k ds)[i]? = (ds[i]?).map fun d => .tup [.int ((k + i : Nat) : Int), d]
  | [], k, i => by simp [Lc]
  | d :: ds, k, 0 => by simp [Lc]
  | d :: ds, k, i + 1 => by
    simp only [Lc, List.getElem?_cons_succ]
    rw [Hz, show k + 1 + i = k + (i + 1) by omega]
theorem KP : ∀ {ds : List D} {k : Nat}, (Lc k ds).length = ds.length
 | [], k => rfl
 | d :: ds, k => by simp [Lc, KP (ds := ds)]
theorem SqF.sqB {K : PySem.W.Frag} {M : Ms} {H : Hp} {gs : Gd} {k : Bool} {a : Addr} {ds : List D} (h : SqF K M H gs k a ds) {H2 : Hp} {M2 : Ms} {S2 : Sto} (g : Sp1 M H M2 H2) (st : StR K M2 S2 H2) (ok : gOk gs S2) : ∃ xs, SqB K H2 k a xs /\ AW K M2 H2 xs ds := by
 obtain ⟨xs, h1, h2⟩ := h.keep H2 M2 S2 g st ok
 refine ⟨xs, ?_, h2⟩
 cases k with
 | true => exact h1
 | false => exact h1
theorem Ud {K : PySem.W.Frag} {M : Ms} {H : Hp} {gs : Gd} {k : Bool} {a : Addr} {ds : List D} (h : SqF K M H gs k a ds) : Va K M H gs (Lc 0 ds) (ItE K k a) where
 go := fun i H2 M2 S2 g st ok hi => by
  rw [KP] at hi
  obtain ⟨xs, h1, h2⟩ := h.sqB g st ok
  obtain ⟨x, hx⟩ := h2.get' hi
  exact ⟨xs, x, h1, hx⟩
 stop := fun i H2 M2 S2 g st ok hi => by
  rw [KP] at hi
  obtain ⟨xs, h1, h2⟩ := h.sqB g st ok
  exact ⟨xs, h1, by have := h2.length; omega⟩
 yld := fun i H2 M2 S2 x H3 d g st ok hd hy => by
  obtain ⟨xs, h1, h2⟩ := h.sqB g st ok
  obtain ⟨p, y, hp, rfl, hy, rfl⟩ := hy
  have hx := hy xs h1
  rw [Hz] at hd
  obtain ⟨d0, e, hd⟩ := Jl hd
  subst hd
  obtain ⟨x', h3, h4⟩ := h2.get e
  rw [hx] at h3; cases h3
  have k3 := Fx (o := .tup [.int i, y]) hp
  refine ⟨k3, .tup (.of Bb) (.cons ?_ (.cons (h4.step (Gr.grow st.mo k3).st) .nil))⟩
  rw [Nat.zero_add]
  exact .int _
def Ws (f : Ev) : Sr := fun E S => (f E S).bind fun r => (sqD r.2 r.1).map fun p => ((Lc 0 p.1, p.2), r.2)
theorem Rv {X : Cx} {a : Expr} {f : Ev} {p pos tp : Pos} {elts : List Expr} {k : Nat} (hg : Gl X "enumerate") (hm : X.mg "enumerate" = none) (ha : DE X a f) (hs : starEach [a] X.env = [(false, eval a X.env)] := by rfl) : DI X (.Tuple elts k tp) (.Call (.Name "enumerate" p) [a] [] pos) (Ws f) := ⟨
 J0 (QK hg hm (J8 ha.pe Nm (by rw [hs]; rfl)) hs) fun σ H R z => by
  obtain ⟨M, E, S, ds, gs, S', e, r, st, q⟩ := z
  obtain ⟨⟨d, S1⟩, e1, e⟩ := BJ e
  obtain ⟨⟨ds', gs'⟩, e2, e⟩ := Jl e
  cases e
  refine ⟨M, E, S, d, S1, e1, r, st, fun v H1 M1 g1 st1 r1 => ?_⟩
  obtain ⟨k, a, rfl, sq⟩ := Lv st1 r1 e2
  obtain ⟨xs, hs, _⟩ := sq.sqB (Gr.refl st1.mo).st st1 (J5 e2)
  exact ⟨k, a, rfl, ⟨xs, hs⟩, q _ _ M1 g1 st1 (Ud sq)⟩⟩
def NC (ds es : List D) : List D := (ds.zip es).map fun p => .tup [p.1, p.2]
theorem Q8 {ds es : List D} {i : Nat} {d : D} (h : (NC ds es)[i]? = some d) : ∃ x y, ds[i]? = some x /\ es[i]? = some y /\ d = .tup [x, y] := by
 unfold NC at h
 simp only [List.getElem?_map, Option.map_eq_some_iff] at h
 obtain ⟨⟨x, y⟩, h1, h2⟩ := h
 rw [List.getElem?_zip_eq_some] at h1
 exact ⟨x, y, h1.1, h1.2, h2.symm⟩
theorem Lu {ds es : List D} : (NC ds es).length = min ds.length es.length := by simp [NC]
theorem SqF.more {K : PySem.W.Frag} {M : Ms} {H : Hp} {gs gs' : Gd} {k : Bool} {a : Addr} {ds : List D} (h : SqF K M H gs k a ds) (s : ∀ g ∈ gs, g ∈ gs') : SqF K M H gs' k a ds := ⟨fun H2 M2 S2 g st ok => h.keep H2 M2 S2 g st fun x hx => ok x (s x hx)⟩
theorem Uo {K : PySem.W.Frag} {M : Ms} {H : Hp} {gs : Gd} {k m : Bool} {a b : Addr} {ds es : List D} (h : SqF K M H gs k a ds) (h' : SqF K M H gs m b es) : Va K M H gs (NC ds es) (Itz K k a m b) where
 go := fun i H2 M2 S2 g st ok hi => by
  rw [Lu] at hi
  obtain ⟨xs, h1, r⟩ := h.sqB g st ok
  obtain ⟨ys, h2, r'⟩ := h'.sqB g st ok
  obtain ⟨x, hx⟩ := r.get' (show i < ds.length by omega)
  obtain ⟨y, hy⟩ := r'.get' (show i < es.length by omega)
  exact ⟨xs, ys, x, y, h1, h2, hx, hy⟩
 stop := fun i H2 M2 S2 g st ok hi => by
  rw [Lu] at hi
  obtain ⟨xs, h1, r⟩ := h.sqB g st ok
  obtain ⟨ys, h2, r'⟩ := h'.sqB g st ok
  have := r.length
  have := r'.length
  exact ⟨xs, ys, h1, h2, by omega⟩
 yld := fun i H2 M2 S2 x H3 d g st ok hd hy => by
  obtain ⟨xs, h1, r⟩ := h.sqB g st ok
  obtain ⟨ys, h2, r'⟩ := h'.sqB g st ok
  obtain ⟨p, x1, y1, hp, rfl, q1, q2, rfl⟩ := hy
  obtain ⟨d1, d2, e1, e2, rfl⟩ := Q8 hd
  have hx := q1 xs h1
  have hy := q2 ys h2
  obtain ⟨x', h3, h4⟩ := r.get e1
  obtain ⟨y', h5, h6⟩ := r'.get e2
  rw [hx] at h3; cases h3
  rw [hy] at h5; cases h5
  have k3 := Fx (o := .tup [x1, y1]) hp
  exact ⟨k3, .tup (.of Bb) (.cons (h4.step (Gr.grow st.mo k3).st) (.cons (h6.step (Gr.grow st.mo k3).st) .nil))⟩
def UO (f g : Ev) : Sr := fun E S => (evs [f, g] E S).bind fun r => match r.1 with
 | [d, e] => (sqD r.2 d).bind fun p => (sqD r.2 e).map fun q => ((NC p.1 q.1, p.2 ++ q.2), r.2)
 | _ => none
theorem OX {X : Cx} {a b : Expr} {f g : Ev} {p pos tp : Pos} {elts : List Expr} {k : Nat} (hg : Gl X "zip") (hm : X.mg "zip" = none) (ha : DE X a f) (hb : DE X b g) (hs : starEach [a, b] X.env = [(false, eval a X.env), (false, eval b X.env)] := by rfl) (hs2 : starEach [b] X.env = [(false, eval b X.env)] := by rfl) : DI X (.Tuple elts k tp) (.Call (.Name "zip" p) [a, b] [] pos) (UO f g) := ⟨
  J0 (Uy hg hm (AA ha (AA hb AD hs2) (by rw [hs, hs2])).pe hs hs2) fun σ H R z => by
    obtain ⟨M, E, S, ds, gs, S', e, r, st, q⟩ := z
    obtain ⟨⟨ws, S1⟩, e1, e⟩ := BJ e
    refine GA (fs := [f, g]) e1 r st fun vs H1 M1 g1 st1 r1 => ?_
    dsimp only at e
    split at e
    · obtain ⟨⟨ds1, gs1⟩, eu, e⟩ := BJ e
      obtain ⟨⟨ds2, gs2⟩, ee, e⟩ := Jl e
      cases e
      cases r1 with
      | cons h1 t =>
        cases t with
        | cons h2 t =>
          cases t
          obtain ⟨k1, a1, rfl, s1⟩ := Lv st1 h1 eu
          obtain ⟨k2, a2, rfl, s2⟩ := Lv st1 h2 ee
          obtain ⟨xs, hxs, _⟩ := s1.sqB (Gr.refl st1.mo).st st1 (J5 eu)
          obtain ⟨ys, hys, _⟩ := s2.sqB (Gr.refl st1.mo).st st1 (J5 ee)
          exact ⟨_, _, _, _, rfl, ⟨_, hxs⟩, ⟨_, hys⟩, q _ _ M1 g1 st1 (Uo (s1.more fun x hx => List.mem_append_left _ hx) (s2.more fun x hx => List.mem_append_right _ hx))⟩
    · cases e⟩
def intD : D -> Option Int
 | .int i => some i
 | _ => none
def Iq (ds : List D) : Option (List Int) := ds.mapM intD
theorem IQ {K : PySem.W.Frag} {M : Ms} {H : Hp} : ∀ {vs : List V} {ds : List D} {ns : List Int}, AW K M H vs ds -> Iq ds = some ns -> vs = ns.map V.int
  | _, _, ns, .nil, e => by cases e; rfl
  | _, _, ns, .cons (d := d) (ds := ds) h t, e => by
    unfold Iq at e
    rw [List.mapM_cons] at e
    cases e1 : intD d with
    | none => rw [e1] at e; cases e
    | some b =>
      rw [e1] at e
      cases e2 : ds.mapM intD with
      | none => rw [e2] at e; cases e
      | some cs =>
        rw [e2] at e
        cases e
        have hd : d = .int b := by
          cases d <;> first | (cases e1; done) | skip
          cases e1; rfl
        subst hd
        cases h
        rw [List.map_cons, ← IQ t e2]
theorem Nj {X : Cx} (hc : X.calm = true) : Dh X (.builtin "sum") (fun xs H Q => ∃ (p : Addr) (ns : List Int), xs = [.ref p] /\ SqL X.K H p (ns.map V.int) /\ Q (.int ns.sum) H) := by
 intro pins s σ H xs us Q I r h
 obtain ⟨p, ns, rfl, hp, q⟩ := h
 obtain ⟨u, rfl, ru⟩ := r.one
 cases (show u = Value.ref p from ru)
 obtain ⟨its, rv, pl, hz⟩ := I.list hp
 have hd : X.A.in1.handled = none := I.ok.hd hc
 refine call_sum_walkG (wpAny_pyIter_list pl.isList ?_)
 have hlen : ns.length = its.length := by have := rv.length; simpa using this
 have hpl := pl.isList
 have hlt : p < s.heap.objs.size := by
  obtain ⟨o, ho, _⟩ := hpl
  exact Heap.lt_size ho
 refine ⟨s.heap.objs.size, _, _, its.length, _, _, fun i => ns.getD i 0, rfl, St.NA (vs := its) hd (Nat.ne_of_lt hlt), ⟨⟨_, Heap.get?_push_size _ rfl, rfl, rfl⟩, ?_⟩, ?_, ?_, ?_⟩
 ·obtain ⟨o, ho, r⟩ := hpl
  exact ⟨o, Heap.get?_push_of_some _ ho, r⟩
 ·intro b hb
  rw [Heap.size_push]
  simp at hb
  rcases hb with h | h
  ·rw [h]; exact Nat.lt_succ_self _
  ·rw [h]; exact Nat.lt_succ_of_lt hlt
 ·intro i v hv
  have hi : i < its.length := (List.getElem?_eq_some_iff.mp hv).1
  have hb : (ns.map V.int)[i]? = some (.int (ns.getD i 0)) := by
   rw [List.getElem?_map, List.getElem?_eq_getElem (by omega)]
   simp [List.getD_eq_getElem?_getD, List.getElem?_eq_getElem (show i < ns.length by omega)]
  obtain ⟨u, hu, ru⟩ := rv.get hb
  rw [hv] at hu
  cases hu
  exact ru
 ·intro h' tk t' hk
  have e : preSum (fun i => ns.getD i 0) its.length = ns.sum := by
   rw [← hlen, St.Ia (Nat.le_refl _), List.take_of_length_le (Nat.le_refl _)]
  rw [e]
  exact ⟨.int _, H, I.kept (t' := tk) fun b o eb => hk b o (by simp; exact Nat.ne_of_lt (Heap.lt_size eb)) (Heap.get?_push_of_some _ eb), ⟨_, rfl⟩, q⟩
def Pe : Op1 := fun w => (asL w).bind fun ds => (Iq ds).map fun ns => .val (.int ns.sum)
theorem Ga {X : Cx} (hc : X.calm = true) : Dh X (.builtin "sum") (rN X.K (o1 Pe)) := by
 intro pins s σ H xs us Q I r h
 obtain ⟨M, ws, w, e, mo, sh, q⟩ := h
 obtain ⟨v, w1, rfl, rfl, s1, e1⟩ := G9 sh e
 obtain ⟨ds, e2, e1⟩ := BJ e1
 obtain ⟨ns, e3, e1⟩ := Jl e1
 cases e1
 obtain ⟨a, ys, rfl, h3, h4⟩ := s1.l e2
 exact Nj hc pins s σ H _ us Q I r ⟨a, ns, rfl, by rw [← IQ h4 e3]; exact .of h3, q _ _ (.same mo (.int _))⟩
def JF (ns : List Int) : List Int := ns.mergeSort (fun a b => decide (a ≤ b))
theorem Jj (ns : List Int) : (JF ns).Perm ns := List.mergeSort_perm _ _
theorem NL (ns : List Int) : (JF ns).Pairwise (· ≤ ·) := by
 have := List.pairwise_mergeSort (le := fun (a b : Int) => decide (a ≤ b)) (fun a b c h1 h2 => by simp at *; omega) (fun a b => by simp; omega) ns
 unfold JF
 exact this.imp fun h => of_decide_eq_true h
theorem Ml {ns ms : List Int} (p : ms.Perm ns) (s : ms.Pairwise (· ≤ ·)) : ms = JF ns := PySem.W.ksm_same (p.trans (Jj ns).symm) s (NL ns)
end Mi
end
section
namespace Mi
open PySem PySem.Spec L2
theorem intsAre_of : ∀ {ns : List Int} {its : List Value}, Vals (ns.map V.int) its -> PyProof.Rows.IntsAre its ns
  | [], _, .nil => .nil
  | n :: ns, _, .cons h t => by
    obtain ⟨tk, rfl⟩ := h
    exact .cons n tk (intsAre_of t)
theorem Hh : ∀ {ns : List Int} {its : List Value}, PyProof.Rows.IntsAre its ns -> Vals (ns.map V.int) its
 | _, _, .nil => .nil
 | _, _, .cons n tk t => .cons ⟨tk, rfl⟩ (Hh t)
theorem LV {X : Cx} : Dh X (.builtin "sorted") (fun xs H Q => ∃ (p : Addr) (ns : List Int), xs = [.ref p] /\ SqL X.K H p (ns.map V.int) /\ ns.length < 64 /\ ∀ q, H q = none -> Q (.ref q) (upd H q (.lst ((JF ns).map V.int)))) := by
 intro pins s σ H xs us Q I r h
 obtain ⟨p, ns, rfl, hp, h64, q⟩ := h
 obtain ⟨u, rfl, ru⟩ := r.one
 cases (show u = Value.ref p from ru)
 obtain ⟨its, rv, pl, hz⟩ := I.list hp
 have hlen : ns.length = its.length := by have := rv.length; simpa using this
 refine PyProof.Rows.sorted_ints pl.isList (intsAre_of rv) (by omega) fun out ns' a1 a2 a3 => ?_
 obtain ⟨e, he⟩ := PyProof.Rows.sortedAll_at s.heap its out
 have hn : H (s.heap.objs.size + 1) = none := I.hok.fresh (Nat.le_succ _)
 have hs := Ml a2 a3
 subst hs
 refine ⟨.ref _, _, I.laid (a := s.heap.objs.size + 1) (o := .lst ((JF ns).map V.int)) (t' := s.toks) (fun _ _ => PyProof.Rows.sortedAll_old) (Nat.le_succ _) ?_, rfl, q _ hn⟩
 refine ⟨?_, out.toList, e, Hh a1, ?_⟩
 ·rw [List.length_map, (Jj ns).length_eq]
  have : (64 : Nat) ≤ sizeLine := by decide
  omega
 ·rw [Array.toArray_toList]; exact he
def Jw : Op1 := fun w => (asL w).bind fun ds => (Iq ds).bind fun ns => if ns.length < 64 then some (.own ((JF ns).map D.int)) else none
theorem K1 {X : Cx} : Dh X (.builtin "sorted") (rN X.K (o1 Jw)) := by
 intro pins s σ H xs us Q I r h
 obtain ⟨M, ws, w, e, mo, sh, q⟩ := h
 obtain ⟨v, w1, rfl, rfl, s1, e1⟩ := G9 sh e
 obtain ⟨ds, e2, e1⟩ := BJ e1
 obtain ⟨ns, e3, e1⟩ := BJ e1
 split at e1
 ·cases e1
  obtain ⟨a, ys, rfl, h3, h4⟩ := s1.l e2
  exact LV pins s σ H _ us Q I r ⟨a, ns, rfl, by rw [← IQ h4 e3]; exact .of h3, by assumption, fun p hp => q _ _ (.lst mo hp Hu)⟩
 ·cases e1
def R6 : Mo
 | _, ds, [.int i] => if (decide (-(2 ^ 63) ≤ i) && decide (i < 2 ^ 63)) = true then (seqIndex? i ds.length).bind fun k => (ds[k]?).map fun d => (d, ds.eraseIdx k) else none
 | _, ds, [] => (ds[ds.length - 1]?).map fun d => (d, ds.dropLast)
 | _, _, _ => none
theorem AW.erase {K : PySem.W.Frag} {M : Ms} {H : Hp} : ∀ {v : List V} {d : List D} (k : Nat), AW K M H v d -> AW K M H (v.eraseIdx k) (d.eraseIdx k)
 | _, _, _, .nil => .nil
 | _, _, 0, .cons _ t => t
 | _, _, k + 1, .cons h t => .cons h (AW.erase k t)
theorem AW.dropLast {K : PySem.W.Frag} {M : Ms} {H : Hp} : ∀ {v : List V} {d : List D}, AW K M H v d -> AW K M H v.dropLast d.dropLast
 | _, _, .nil => .nil
 | _, _, .cons _ .nil => .nil
 | _, _, .cons h (.cons h2 t) => .cons h (AW.dropLast (.cons h2 t))
theorem TX {X : Cx} : MtR X "list.pop" (Wm X.K R6) := by
 intro pins s σ H x vs v us Q I rx rv h
 obtain ⟨M, S, n, a, ds, args, d, ds', rfl, hc, hn, e, st, ra, q⟩ := h
 unfold R6 at e
 obtain ⟨xs, h1, h2⟩ := st.cell n a _ hc hn
 split at e
 ·rename_i i
  split at e
  ·rename_i hk
   rw [Bool.and_eq_true] at hk
   obtain ⟨k, e1, e⟩ := BJ e
   obtain ⟨d0, e2, e⟩ := Jl e
   cases e
   cases KH ra
   obtain ⟨y, h3, h4⟩ := h2.get e2
   obtain ⟨st2, g2⟩ := st.chg hc hn (h2.erase k)
   exact Q6 pins s σ H _ _ v us Q I rx rv ⟨a, xs, i, k, y, rfl, rfl, h1, of_decide_eq_true hk.1, of_decide_eq_true hk.2, by rw [h2.length]; exact e1, h3, q _ _ st2 g2 (h4.step g2.st)⟩
  ·cases e
 ·obtain ⟨d0, e2, e⟩ := Jl e
  cases e
  cases ra
  obtain ⟨y, h3, h4⟩ := h2.get e2
  obtain ⟨st2, g2⟩ := st.chg hc hn h2.dropLast
  exact Up pins s σ H _ _ v us Q I rx rv ⟨a, xs, y, rfl, rfl, h1, by rw [h2.length]; exact h3, q _ _ st2 g2 (h4.step g2.st)⟩
 ·cases e
theorem QD {X : Cx} : OpR X (binaryOp .Mult) (fun x y H Q => ∃ a xs k, x = .ref a /\ y = .int k /\ SqT X.K H a xs /\ xs ≠ [] /\ k ≤ 0 /\ -(2 ^ 63) ≤ k /\ ∀ p, H p = none -> Q (.ref p) (upd H p (.tup []))) := by
  intro pins s σ H x y v u Q I rx ry h
  obtain ⟨a, xs, k, rfl, rfl, hx, hne, hk, hk2, q2⟩ := h
  cases rx
  obtain ⟨t, rfl⟩ := ry
  obtain ⟨its, r, ⟨⟨c, dd, data, sl⟩, ho, hc, n, hd⟩, hzz⟩ := I.tuple hx
  simp only at hc hd
  subst hc hd
  have hl := r.length
  have hpos : 0 < xs.length := List.length_pos_iff.mpr hne
  refine wpAny_binaryOp_repeat_ref (T := "tuple") (U := "int") (by decide) ⟨_, ho, rfl⟩ (fun s' => typeIs_int s' k t) FF F.fills_int_mul F.slot_int_rmul Hc F.slot_int_index.lookup
    (call_meets F.slot_int_rmul (typeIs_int s k t) F.entry_int_rmul (F.args_int_rmul_2 _ _) (GC k t a its.toArray n dd sl) ⟨ho, rfl, ⟨_, ho, rfl⟩, ?_⟩)
  refine wpAny_call_entry F.slot_tuple_mul ⟨_, ho, rfl⟩ F.entry_tuple_mul ?_ (F.args_tuple_mul_2 _ _)
  unfold Builtin.«tuple.__mul__»
  wp_walk using AutoSeq1.wpAny_loadPart' ho
  rw [if_neg (show ¬ (decide (k < -2 ^ 63) || decide (k ≥ 2 ^ 63)) = true by
    rw [Bool.or_eq_true]
    rintro (z | z)
    · have := of_decide_eq_true z; omega
    · have := of_decide_eq_true z; omega)]
  wp_walk using AutoSeq1.wpAny_loadPart' ho
  have hemp : its.toArray.isEmpty = false := by
    cases its with
    | nil => rw [List.length_nil] at hl; omega
    | cons b bs => rfl
  rw [if_neg (show ¬ (its.toArray.isEmpty || k == 1) = true by
    rw [hemp, Bool.false_or]
    intro z
    have := eq_of_beq z
    omega)]
  wp_walk using AutoSeq1.wpAny_loadPart' ho
  all_goals first
    | exact ⟨_, rfl, .ref _, _, I.laid (o := .tup []) (t' := s.toks) (fun b ob q => Heap.get?_push_of_some _ q) (Nat.le_refl _) ⟨Nat.zero_le _, [], .nil, PyProof.Rows.IsTup.new _ _⟩, rfl, q2 _ (I.hok.fresh (Nat.le_refl _))⟩
    | (exfalso
       rename_i hh
       exact hh (by rw [Bool.or_eq_true]; exact .inl (decide_eq_true hk)))
def Bl : Op2 := fun a b => match a, b with
 | .val (.tup xs), .val (.int k) => if (!xs.isEmpty && decide (k ≤ 0) && decide (-(2 ^ 63) ≤ k)) = true then some (.val (.tup [])) else W9 (.val (.tup xs)) (.val (.int k))
 | a, b => W9 a b
theorem Ac {X : Cx} : OpR X (binaryOp .Mult) (rOp X.K Bl) := by
  intro pins s σ H x y v u Q I rx ry h
  obtain ⟨M, w1, w2, r, e, mo, s1, s2, q⟩ := h
  unfold Bl at e
  split at e
  · split at e
    · rename_i xs k hk
      rw [Bool.and_eq_true, Bool.and_eq_true] at hk
      cases e
      cases s2
      cases s1 with
      | @tup a ys _ h1 r1 =>
        have hne : ys ≠ [] := fun zz => by
          subst zz
          cases r1
          exact absurd hk.1.1 (by decide)
        exact QD pins s σ H _ _ v u Q I rx ry ⟨a, ys, k, rfl, rfl, h1, hne, of_decide_eq_true hk.1.2, of_decide_eq_true hk.2, fun p hp => q _ _ (.tup mo hp .nil)⟩
    · exact PU pins s σ H x y v u Q I rx ry ⟨M, _, _, r, e, mo, s1, s2, q⟩
  · exact PU pins s σ H x y v u Q I rx ry ⟨M, _, _, r, e, mo, s1, s2, q⟩
theorem AS {A : Around} {k : Nat} (hr : Jf k A) : A.units + 100 < cLine := by have := hr.un; omega
section
variable {P : Program} {w : World} {K : PySem.W.Frag} {mg : Str -> Option Value} {base : Heap}
end
def scE : Nat -> PySem.Expr -> List Scope
 | 0, _ => []
 | n + 1, .ListComp e gs s _ => s :: (gs.flatMap fun g => scE n g.iter) ++ scE n e ++ (gs.flatMap fun g => g.ifs.flatMap (scE n))
 | n + 1, .BoolOp _ vs _ => vs.flatMap (scE n)
 | n + 1, .Call f as _ _ => scE n f ++ as.flatMap (scE n)
 | n + 1, .BinOp a _ b _ => scE n a ++ scE n b
 | n + 1, .UnaryOp _ a _ => scE n a
 | n + 1, .Compare a _ cs _ => scE n a ++ cs.flatMap (scE n)
 | n + 1, .Subscript a b _ => scE n a ++ scE n b
 | n + 1, .Tuple es _ _ => es.flatMap (scE n)
 | n + 1, .List es _ => es.flatMap (scE n)
 | n + 1, .IfExp c a b _ => scE n c ++ scE n a ++ scE n b
 | n + 1, .Dict _ vs _ => vs.flatMap (scE n)
 | n + 1, .Slice a b c _ => (a.toList ++ b.toList ++ c.toList).flatMap (scE n)
 | n + 1, .Attribute v _ _ => scE n v
 | _, _ => []
def scS : Nat -> Stmt -> List Scope
 | 0, _ => []
 | n + 1, .Return (some e) _ => scE 30 e
 | n + 1, .Assign ts e _ => ts.flatMap (scE 30) ++ scE 30 e
 | n + 1, .AugAssign t _ e _ => scE 30 t ++ scE 30 e
 | n + 1, .Expr e _ => scE 30 e
 | n + 1, .If t a b _ => scE 30 t ++ a.flatMap (scS n) ++ b.flatMap (scS n)
 | n + 1, .For _ it a b _ => scE 30 it ++ a.flatMap (scS n) ++ b.flatMap (scS n)
 | n + 1, .While t a b _ => scE 30 t ++ a.flatMap (scS n) ++ b.flatMap (scS n)
 | _, _ => []
def Jn (st : Stmt) (k : Nat) : Scope := ((Es st).flatMap (scS 20)).getD k (AG st)
structure aA (P : Program) (w : World) (K : PySem.W.Frag) (mg : Str -> Option Value) (base : Heap) (x : Str) (k np : Nat) (tbl : List (Str × Fn)) : Prop where
 ex : ∃ a kvs, mg x = some (.ref a) /\ TopD K w a kvs /\ ∀ p G, tbl.lookup p = some G -> ∃ f fd ps, kvs.lookup p = some (.ref f) /\ LH P w K mg base CX0 k f fd ps (spD K np G) /\ PySem.W.keepIn K (.ref f) = true /\ Binds K fd ps []
section
variable {P : Program} {w : World} {K : PySem.W.Frag} {mg : Str -> Option Value} {base h : Heap}
theorem UX {x : Str} {st : Stmt} {f : Addr} {oc : Value} {od an : Option Addr} {osl : Array (Option Value)} {kV doc pm cdv ct : Value} (X : K.In h) (G : h.Ns mainGlobals mg) (a : PySem.W.nsIn K mainGlobals x = some (some (.ref f)))
  (l : K.lookup f = some ⟨oc, od, .func (PySem.W.fnOf x x (IE st) (Es st) (AG st) .none kV doc pm an cdv ct), osl⟩) (c : PySem.W.codeIn K cdv x = true) (k : PySem.W.keepIn K (.ref f) = true) : St.Src K mg x st :=
 ⟨f, _, Vq l c k, PySem.W.mg_of X G a⟩
def IsD (K : PySem.W.Frag) (u : Value) (d : D) : Prop := ∃ v, RelV v u /\ ∀ M H, C8 K M H v d
theorem Jz {i : Int} {t : Tok} : IsD K (.int i t) (.int i) := ⟨.int i, ⟨t, rfl⟩, fun _ _ => .int i⟩
theorem J2 {x : Str} {t : Tok} : IsD K (.str x t) (.str x) := ⟨.str x, ⟨t, rfl⟩, fun _ _ => .str x⟩
theorem L8 : ∀ {us : List Value} {ds : List D}, Paired (fun d u => IsD K u d) ds us -> ∃ xs, Vals xs us /\ ∀ M H, AW K M H xs ds
  | _, _, .nil => ⟨[], .nil, fun _ _ => .nil⟩
  | _, _, .cons h t => by
    obtain ⟨v, h1, h2⟩ := h
    obtain ⟨xs, h3, h4⟩ := L8 t
    exact ⟨v :: xs, .cons h1 h3, fun M H => .cons (h2 M H) (h4 M H)⟩
theorem Le {a : Addr} {od : Option Addr} {osl : Array (Option Value)} {its : List Value} {n : Nat} {ds : List D} (l : K.lookup a = some ⟨.type "tuple", od, .seq its.toArray n, osl⟩) (hz : its.length ≤ sizeLine) (r : Paired (fun d u => IsD K u d) ds its) : IsD K (.ref a) (.tup ds) := by
 obtain ⟨xs, h1, h2⟩ := L8 r
 exact ⟨.ref a, rfl, fun M H => .tup (.inr ⟨_, its.toArray, n, l, rfl, rfl, by simpa using hz, by simpa using h1⟩) (h2 M H)⟩
theorem Ox {x : Str} {u : Value} {d : D} (X : K.In h) (G : h.Ns mainGlobals mg) (e : PySem.W.nsIn K mainGlobals x = some (some u)) (r : IsD K u d) : Nf K mg x d := by
 obtain ⟨v, h1, h2⟩ := r
 exact ⟨v, u, PySem.W.mg_of X G e, h1, h2⟩
structure Z9 (w : World) (K : PySem.W.Frag) (mg : Str -> Option Value) (x : Str) (ns : List (Str × Str)) : Prop where
 ex : ∃ a kvs, mg x = some (.ref a) /\ TopD K w a kvs /\ Paired (fun (n : Str × Str) (q : Str × V) => n.1 = q.1 /\ ∃ f, q.2 = .ref f /\ mg n.2 = some (.ref f)) ns kvs
def Th (K : PySem.W.Frag) : Sp := fun vs H Q _ => ∃ (a : Addr) (ns : List Int), vs = [.ref a] /\ SqL K H a (ns.map V.int) /\ ns.length ≤ 63 /\ ∀ H', Q (.bl true) H'
theorem Vs {k : Nat} {f : Addr} {fd : FuncData} {x : Str} {F : Fn} (Fk : LH P w K mg base CX0 k f fd [x] (spD K 1 F)) (h : ∀ ns : List Int, ns.length ≤ 63 -> ∃ S, F [.scr ns] [] = some (.bl true, S)) : LH P w K mg base CX0 k f fd [x] (Th K) := by
 refine Fk.imp fun vs H Q E z => ?_
 obtain ⟨a, ns, rfl, hs, hl, q⟩ := z
 obtain ⟨S, e⟩ := h ns hl
 refine ⟨Ms.no, [.scr ns], [], _, S, rfl, e, .cons (.scr ?_) .nil, ⟨fun a z => absurd z Ms.no_mem, List.nodup_nil, fun a z => (nomatch z), rfl, fun n a c z => by simp [Ms.no] at z⟩, fun v H' M' g st r => ?_⟩
 ·rcases hs with hs | hs
  ·exact .inl ⟨hs, Ms.no_mem⟩
  ·exact .inr hs
 ·cases r
  exact q H'
end
end Mi
end
section
namespace Mi
open PySem PySem.Spec L2
section
variable {X : Cx} {pos : Pos}
end
theorem ML : ∀ {ys : List V} {us : List Value}, ys.length = us.length -> (∀ (j : Nat) (y : V) (u : Value), ys[j]? = some y -> us[j]? = some u -> RelV y u) -> Vals ys us
 | [], [], _, _ => .nil
 | y :: ys, u :: us, hl, h => .cons (h 0 y u rfl rfl) (ML (by simpa using hl) fun j y u a b => h (j + 1) y u a b)
 | [], _ :: _, hl, _ => by simp at hl
 | _ :: _, [], hl, _ => by simp at hl
def tLR (ta : TA) : TE := fun σ H Q => ta σ H fun vs H1 => ∃ j : Int, vs = [.int j] /\ 0 ≤ j /\ j ≤ 1000 /\ ∀ l, H1 l = none -> Q (.ref l) (upd H1 l (.lst ((List.range j.toNat).map fun (i : Nat) => V.int i)))
theorem Xh {X : Cx} {a : Expr} {ta : TA} {p p' pos pos' : Pos} (hc : X.calm = true) (hgl : Gl X "list") (hml : X.mg "list" = none) (hg : Gl X "range") (hm : X.mg "range" = none) (ha : PA X [a] ta) (hs : starEach [a] X.env = [(false, eval a X.env)] := by rfl)
    (hs2 : starEach [Expr.Call (.Name "range" p) [a] [] pos] X.env = [(false, eval (.Call (.Name "range" p) [a] [] pos) X.env)] := by rfl) : PE X (.Call (.Name "list" p') [.Call (.Name "range" p) [a] [] pos] [] pos') (tLR ta) := by
  intro pins s σ H Q I h
  refine wpAny_Call_Name_kw (Hr I hgl hml PyProof.Rows.boot_list ?_ (by decide) (by decide))
  refine PyProof.Rows.callWith_type1 ?_ hs2 rfl
  rw [hs2]
  show wpAny _ _ (spliced ((false, eval (.Call (.Name "range" p) [a] [] pos) X.env) :: backTo pos' [])) _ _ s
  refine PySem.Calls.spliced_cons ?_
  refine wpAny_Call_Name_kw (Hr I hg hm PyProof.Rows.boot_range ?_ (by decide) (by decide))
  refine PyProof.Rows.callWith_type1 (thn (ha pos pins s σ H _ I h) fun us s1 ⟨vs, H1, I1, r1, q1⟩ => ?_) hs rfl
  obtain ⟨j, e, j0, j1, q⟩ := q1
  subst e
  cases r1 with
  | cons r rr =>
    cases rr
    obtain ⟨t, rfl⟩ := r
    refine call_range_1 (PySem.Calls.spliced_nil ?_)
    have hz : j.toNat ≤ 2 ^ 24 := by omega
    refine call_list_range (n := j.toNat) (I1.ok.hd hc) (IsRange.new ..) (small_one (by omega) (by omega) (by omega) (by omega)) (by rw [rangeSize_one]; split <;> omega) hz fun h' tk acc' c' hk hS' hacc => ?_
    have kp : ∀ b o, s1.heap.get? b = some o -> h'.get? b = some o := fun b o e => hk b o (Heap.get?_push_of_some _ e)
    have le : s1.heap.objs.size ≤ (s1.heap.push { cls := .type "range", data := .fields #[.int 0 s1.toks, .int j t, .int 1 (s1.toks + 1)] }).objs.size := by rw [Heap.size_push]; exact Nat.le_succ _
    have rv : Vals ((List.range j.toNat).map fun (i : Nat) => V.int i) acc'.toList := ML (by simp [hacc.1]) fun i y u hy hu => by
      have hi : i < j.toNat := by
        have := (List.getElem?_eq_some_iff.mp hy).1
        simpa using this
      rw [List.getElem?_map, List.getElem?_range hi] at hy
      cases hy
      obtain ⟨tk', rfl⟩ := hacc.2 i u (by simpa using hu)
      exact ⟨tk', by simp⟩
    refine ⟨.ref _, _, I1.laid (t' := tk) (o := .lst ((List.range j.toNat).map fun (i : Nat) => V.int i)) kp le ⟨by rw [List.length_map, List.length_range]; exact hz, acc'.toList, c', rv, by simpa using hS'⟩, rfl, q _ (I1.hok.fresh le)⟩
def lrK (cf : Bool) (r : D × Sto) : Option (D × Sto) := match r.1 with
 | .int j => if (decide (0 ≤ j) && decide (j ≤ 1000)) = true then fin cf (.own (GV 0 j.toNat)) r.2 else none
 | _ => none
def YN (cf : Bool) (o : Ev) : Ev := fun E S => (o E S).bind (lrK cf)
abbrev eLR := YN false
theorem YV {X : Cx} {a : Expr} {o : Ev} {cf : Bool} {p p' pos pos' : Pos} (hc : X.calm = true) (hgl : Gl X "list") (hml : X.mg "list" = none) (hg : Gl X "range") (hm : X.mg "range" = none) (ha : DEs X [a] [o]) (hs : starEach [a] X.env = [(false, eval a X.env)] := by rfl)
  (hs2 : starEach [Expr.Call (.Name "range" p) [a] [] pos] X.env = [(false, eval (.Call (.Name "range" p) [a] [] pos) X.env)] := by rfl) : DE X (.Call (.Name "list" p') [.Call (.Name "range" p) [a] [] pos] [] pos') (YN cf o) := ⟨
 Bh (Xh hc hgl hml hg hm ha.pe hs hs2) fun σ H Q z => by
  obtain ⟨M, E, S, d, S', e, r, st, q⟩ := z
  obtain ⟨⟨w, S1⟩, e1, e⟩ := BJ e
  have e1' : evs [o] E S = some ([w], S1) := by
   show (o E S).bind (fun r => (evs [] E r.2).map fun q => (r.1 :: q.1, q.2)) = _
   rw [e1]; rfl
  refine GA e1' r st fun vs H1 M1 g1 st1 r1 => ?_
  unfold lrK at e
  split at e
  ·rename_i j he
   have he : w = .int j := he
   subst he
   split at e
   ·rename_i hk
    rw [Bool.and_eq_true] at hk
    refine ⟨j, KH r1, of_decide_eq_true hk.1, of_decide_eq_true hk.2, fun l hl => ?_⟩
    have rd : AW X.K M1 H1 ((List.range j.toNat).map fun (i : Nat) => V.int i) (GV 0 j.toNat) := by
     have er : GV 0 j.toNat = (List.range j.toNat).map fun (i : Nat) => D.int i := by simp [GV]
     rw [er]
     generalize List.range j.toNat = xs
     induction xs with
     | nil => exact .nil
     | cons x xs ih => exact .cons (.int x) ih
    obtain ⟨M2, g2, st2, d2⟩ := (Nw.lst st1.mo hl rd).fin st1 e
    exact q _ _ M2 (g1.trans g2) st2 d2
   ·cases e
  ·cases e⟩
end Mi
end
noncomputable section
namespace Mi
open PySem PySem.Spec L2
open PyProof.Rows (boot_isinstance boot_int boot_bool boot_tuple boot_str boot_list boot_abs boot_all boot_any boot_sum boot_max boot_min boot_range boot_enumerate boot_zip boot_sorted boot_set boot_divmod)
def Cq : D := .tup [.int 0, .int 1]
def N3 : D := .tup [.int 1, .int 1]
def CW : D := .tup [.str "bring", .str "pool", .str "swap", .str "trade"]
def FZ : Ex := (Bq (Nd (eOp (o2 Uq) [(eV 0), (eC (.ty "int"))]) (Ry (eOp (o2 Uq) [(eV 0), (eC (.ty "bool"))]))))
def EI : Fn := A8 (BC 1 FZ)
def GR : Ex := (Bq (Nd (AJ EI [(eV 0)]) (eOp (o2 wGe) [(eV 0), (eV 1)])))
def Ej : Fn := A8 (BC 2 GR)
def El : Ex := (Bq (Nd (AJ Ej [(eV 0), (eV 1)]) (eOp (o2 wLe) [(eV 0), (eV 2)])))
def Cs : Fn := A8 (BC 3 El)
def Dg : Ex := (Am (Pf 0 1 (eOp (o1 UM) [(eV 0)]) (eOp (o1 UM) [(eV 1)]))
  (Am (LL (M8 1) (eOp (o2 wNe) [(eV 1), (eC (.int 0))]) (Pf 0 1 (eV 1) (eOp (o2 MO) [(eV 0), (eV 1)])))
  (Bq (eV 0))))
def Bc : Fn := A8 (BC 2 Dg)
def Jd : Ex := (Am (CB 2 (AJ Bc [(eV 0), (eV 1)]))
  (Bq (D9 [(eOp (o2 Ju) [(eV 0), (eV 2)]), (eOp (o2 Ju) [(eV 1), (eV 2)])])))
def CI : Fn := A8 (BC 3 Jd)
def MN : Ex := (Bq (AJ CI [(eOp (o2 EE) [(eOp (o2 Bl) [(eOp (o2 wIx) [(eV 0), (eC (.int 0))]), (eOp (o2 wIx) [(eV 1), (eC (.int 1))])]), (eOp (o2 Bl) [(eOp (o2 wIx) [(eV 1), (eC (.int 0))]), (eOp (o2 wIx) [(eV 0), (eC (.int 1))])])]), (eOp (o2 Bl) [(eOp (o2 wIx) [(eV 0), (eC (.int 1))]), (eOp (o2 wIx) [(eV 1), (eC (.int 1))])])]))
def Ew : Fn := A8 (BC 2 MN)
def L6 : Ex := (Bq (AJ CI [(eOp (o2 P1) [(eOp (o2 Bl) [(eOp (o2 wIx) [(eV 0), (eC (.int 0))]), (eOp (o2 wIx) [(eV 1), (eC (.int 1))])]), (eOp (o2 Bl) [(eOp (o2 wIx) [(eV 1), (eC (.int 0))]), (eOp (o2 wIx) [(eV 0), (eC (.int 1))])])]), (eOp (o2 Bl) [(eOp (o2 wIx) [(eV 0), (eC (.int 1))]), (eOp (o2 wIx) [(eV 1), (eC (.int 1))])])]))
def Gq : Fn := A8 (BC 2 L6)
def LZ : Ex := (Bq (AJ CI [(eOp (o2 Bl) [(eOp (o2 wIx) [(eV 0), (eC (.int 0))]), (eOp (o2 wIx) [(eV 1), (eC (.int 0))])]), (eOp (o2 Bl) [(eOp (o2 wIx) [(eV 0), (eC (.int 1))]), (eOp (o2 wIx) [(eV 1), (eC (.int 1))])])]))
def D0 : Fn := A8 (BC 2 LZ)
def Ki : Ex := (Am (CB 4 (eOp (o2 EE) [(eOp (o2 Bl) [(eOp (o2 Bl) [(eOp (o2 wIx) [(eV 0), (eC (.int 0))]), (eOp (o2 wIx) [(eV 2), (eC (.int 1))])]), (eV 1)]), (eOp (o2 Bl) [(eOp (o2 Bl) [(eOp (o2 wIx) [(eV 2), (eC (.int 0))]), (eOp (o2 wIx) [(eV 0), (eC (.int 1))])]), (eV 3)])]))
  (Bq (AJ CI [(eV 4), (eOp (o2 Bl) [(eOp (o2 Bl) [(eOp (o2 wIx) [(eV 0), (eC (.int 1))]), (eOp (o2 wIx) [(eV 2), (eC (.int 1))])]), (eOp (o2 EE) [(eV 1), (eV 3)])])])))
def FQ : Fn := A8 (BC 5 Ki)
def F7 : Ex := (Bq (Nd (eOp (o2 wLt) [(eV 1), (eOp (o1 GW) [(eV 0)])]) (eOp (o2 wGe) [(eOp (o2 wIx) [(eOp (o2 wIx) [(eV 0), (eV 1)]), (eC (.int 1))]), (eV 2)])))
def BZ : Fn := A8 (BC 3 F7)
def Hb : Ex := (Bq (Nd (AJ BZ [(eV 0), (eV 1), (eC (.int 1))]) (Nd (AJ BZ [(eV 0), (eV 2), (eC (.int 1))]) (eOp (o2 wEq) [(eOp (o2 wIx) [(eOp (o2 wIx) [(eV 0), (eV 1)]), (eC (.int 0))]), (eOp (o2 wIx) [(eOp (o2 wIx) [(eV 0), (eV 2)]), (eC (.int 0))])]))))
def EN : Fn := A8 (BC 3 Hb)
def He : Ex := (Bq (Nd (AJ BZ [(eV 0), (eV 1), (eV 2)]) (eOp (o2 wNe) [(eOp (o2 wIx) [(eOp (o2 wIx) [(eV 0), (eV 1)]), (eC (.int 0))]), (eV 3)])))
def DA : Fn := A8 (BC 4 He)
def Cb : Ex := (Am (CB 3 (eOp (o2 wIx) [(eV 2), (eC (.int 0))]))
  (Am (xIf (eOp (o2 wEq) [(eV 3), (eC (.str "pool"))]) (Bq (AJ EN [(eV 0), (eOp (o2 wIx) [(eV 2), (eC (.int 1))]), (eOp (o2 wIx) [(eV 2), (eC (.int 2))])])) Ep)
  (Am (xIf (eOp (o2 wEq) [(eV 3), (eC (.str "swap"))]) (Bq (AJ DA [(eV 0), (eOp (o2 wIx) [(eV 2), (eC (.int 1))]), (eOp (o2 wIx) [(eV 2), (eC (.int 2))]), (eOp (o2 wIx) [(eV 2), (eC (.int 3))])])) Ep)
  (Am (xIf (eOp (o2 wEq) [(eV 3), (eC (.str "trade"))]) (Am (CB 4 (C2 [] 1 (Im (eV 1)) (tNm 0) (eOp (o2 wEq) [(eOp (o2 wIx) [(eV 0), (eC (.int 0))]), (eC (.str "trade"))]) (eOp (o2 wIx) [(eV 0), (eC (.int 1))])))
  (Bq (Nd (eOp (o2 (wIn true)) [(eOp (o2 wIx) [(eV 2), (eC (.int 1))]), (eV 4)]) (AJ DA [(eV 0), (eOp (o2 wIx) [(eV 2), (eC (.int 2))]), (eOp (o2 wIx) [(eV 2), (eC (.int 3))]), (eOp (o2 wIx) [(eV 2), (eC (.int 4))])])))) Ep)
  (Am (xIf (eOp (o2 (wIn false)) [(eV 3), (D9 [(eC (.str "spoil")), (eC (.str "throw"))])]) (Bq (AJ BZ [(eV 0), (eOp (o2 wIx) [(eV 2), (eC (.int 1))]), (eOp (o2 wIx) [(eV 2), (eC (.int 2))])])) Ep)
  (Bq (eC (.bl true))))))))
def Bo : Fn := A8 (BC 5 Cb)
def FE : Ex := (Am (ND (tTp [(tNm 3), (tNm 4)]) (eOp (o2 wIx) [(eV 0), (eV 1)]))
  (Bq (eOp (o2 EE) [(eOp (o2 EE) [(eOp (Jc false true) [(eV 0), (eV 1)]), (K6 [(D9 [(eV 3), (eOp (o2 P1) [(eV 4), (eV 2)])])])]), (eOp (Jc true false) [(eV 0), (eOp (o2 EE) [(eV 1), (eC (.int 1))])])])))
def BG : Fn := A8 (BC 5 FE)
def BA : Ex := (Am (CB 2 (eOp (o2 wIx) [(eV 1), (eC (.int 0))]))
  (Am (xIf (eOp (o2 wEq) [(eV 2), (eC (.str "bring"))]) (Bq (eOp (o2 EE) [(eV 0), (K6 [(D9 [(eOp (o2 wIx) [(eV 1), (eC (.int 2))]), (eOp (o2 wIx) [(eV 1), (eC (.int 3))])])])])) Ep)
  (Am (xIf (eOp (o2 wEq) [(eV 2), (eC (.str "pool"))]) (Am (ND (tTp [(tNm 3), (tNm 4)]) (eOp (o2 wIx) [(eV 0), (eOp (o2 wIx) [(eV 1), (eC (.int 1))])]))
  (Am (CB 5 (eOp (o2 wIx) [(eOp (o2 wIx) [(eV 0), (eOp (o2 wIx) [(eV 1), (eC (.int 2))])]), (eC (.int 1))]))
  (Bq (eOp (o2 EE) [(AJ BG [(AJ BG [(eV 0), (eOp (o2 wIx) [(eV 1), (eC (.int 1))]), (eV 4)]), (eOp (o2 wIx) [(eV 1), (eC (.int 2))]), (eV 5)]), (K6 [(D9 [(eV 3), (eOp (o2 EE) [(eV 4), (eV 5)])])])])))) Ep)
  (Am (xIf (eOp (o2 (wIn false)) [(eV 2), (D9 [(eC (.str "swap")), (eC (.str "trade"))])]) (Am (ND (tTp [(tNm 6), (tNm 7), (tNm 3), (tNm 8)]) (eOp (Jc true false) [(eV 1), (eOp (o1 Lx) [(eC (.int 4))])]))
  (Bq (eOp (o2 EE) [(AJ BG [(eV 0), (eV 6), (eV 7)]), (K6 [(D9 [(eV 3), (eV 8)])])]))) Ep)
  (Am (xIf (eOp (o2 (wIn false)) [(eV 2), (D9 [(eC (.str "spoil")), (eC (.str "throw"))])]) (Bq (AJ BG [(eV 0), (eOp (o2 wIx) [(eV 1), (eC (.int 1))]), (eOp (o2 wIx) [(eV 1), (eC (.int 2))])])) Ep)
  (Bq (eV 0)))))))
def AZ : Fn := A8 (BC 9 BA)
def Eb : Ex := (Bq (C2 [] 1 (Im (eOp (o2 wIx) [(eV 0), (eC (.int 1))])) (tNm 0) BM (D9 [(eOp (o2 wIx) [(eV 0), (eC (.int 0))]), (eOp (o2 wIx) [(eV 0), (eC (.int 1))])])))
def Bm : Fn := A8 (BC 1 Eb)
def Cj : Ex := (Am (CB 1 (eOp (o2 wIx) [(eV 0), (eC (.int 0))]))
  (Am (xIf (eOp (o2 wEq) [(eV 1), (eC (.str "pool"))]) (Bq (eOp (o1 Jw) [(K6 [(eOp (o2 wIx) [(eV 0), (eC (.int 1))]), (eOp (o2 wIx) [(eV 0), (eC (.int 2))])])])) Ep)
  (Am (xIf (eOp (o2 (wIn false)) [(eV 1), (D9 [(eC (.str "swap")), (eC (.str "trade"))])]) (Bq (K6 [(eOp (o2 wIx) [(eV 0), (eOp (o1 Lx) [(eC (.int 4))])])])) Ep)
  (Bq (K6 [])))))
def BV : Fn := A8 (BC 2 Cj)
def FT : Ex := (Am (CB 1 (AJ Bm [(eV 0)]))
  (Am (CB 2 (eOp (o2 wIx) [(eV 0), (eC (.int 2))]))
  (Am (Kn (Ws (eV 2)) (tTp [(tNm 3), (tNm 4)]) (Am (xIf (Ry (AJ Bo [(eV 1), (eOp (Jc false true) [(eV 2), (eV 3)]), (eV 4)])) (Bq (eV 3)) Ep)
  (CB 1 (AJ AZ [(eV 1), (eV 4)]))))
  (Bq (eC .non)))))
def Bn : Fn := A8 (BC 5 FT)
def Ed : Ex := (Am (CB 1 (AJ Bn [(eV 0)]))
  (xIf (eOp (o2 (UL true)) [(eV 1), (eC .non)]) MP Ep))
def Bg : Fn := A8 (BC 2 Ed)
def De : Ex := (xIf (Ry (AJ Cs [(eV 1), (eC (.int 0)), (eOp (o1 GW) [(eOp (o2 wIx) [(eV 0), (eC (.int 2))])])])) MP Ep)
def BI : Fn := A8 (BC 2 De)
def F8 : Ex := (Bq (eOp (o1 FY) [(C2 [1] 1 (JQ [(eV 0)]) (tNm 1) BM (eIf (eOp (o2 wEq) [(eV 1), (eV 0)]) (eC N3) (eC Cq)))]))
def C9 : Fn := A8 (BC 2 F8)
def FG : Ex := (Bq (eOp (o1 FY) [(C2 [1, 3] 2 (UO (eV 0) (eV 2)) (tTp [(tNm 2), (tNm 3)]) BM (AJ FQ [(eV 2), (eV 0), (eV 3), (eV 1)]))]))
def B1 : Fn := A8 (BC 4 FG)
def B5 : Ex := (Am (CB 3 (AJ BV [(eV 2)]))
  (Am (xIf (eOp (o2 wEq) [(eOp (o1 GW) [(eV 3)]), (eC (.int 1))]) (Bq (eOp (o2 wIx) [(eV 1), (eOp (o2 wIx) [(eV 3), (eC (.int 0))])])) Ep)
  (Am (ND (tTp [(tNm 4), (tNm 5)]) (eV 3))
  (Bq (AJ B1 [(eOp (o2 wIx) [(eV 1), (eV 4)]), (eOp (o2 wIx) [(eOp (o2 wIx) [(eV 0), (eV 4)]), (eC (.int 1))]), (eOp (o2 wIx) [(eV 1), (eV 5)]), (eOp (o2 wIx) [(eOp (o2 wIx) [(eV 0), (eV 5)]), (eC (.int 1))])])))))
def A1 : Fn := A8 (BC 6 B5)
def FD : Ex := (Bq (eOp (o2 EE) [(eOp (o1 Pe) [(C2 [2] 2 (Im (eV 1)) (tTp [(tNm 1), (tNm 2)]) BM (eOp (o2 Bl) [(eV 2), (eOp (o2 wIx) [(eV 0), (eV 1)])]))]), (eOp (o2 Bl) [(eOp (o2 wIx) [(eV 0), (eC (.int 2))]), (eOp (o2 wIx) [(eV 2), (eOp (o1 Lx) [(eC (.int 1))])])])]))
def CS : Fn := A8 (BC 3 FD)
def FV : Ex := (Am (ND (tTp [(tNm 3), (tNm 4), (tNm 5)]) (eOp (Jc true false) [(eV 2), (eC (.int 1))]))
  (Bq (AJ CI [(eOp (o2 Bl) [(eV 4), (eOp (o2 wIx) [(eV 5), (eOp (o2 wIx) [(eOp (o2 wIx) [(eV 1), (eV 3)]), (eC (.int 0))])])]), (AJ CS [(eV 0), (eV 1), (eV 5)])])))
def Cr : Fn := A8 (BC 6 FV)
def EV : Ex := (Am (ND (tTp [(tNm 5), (tNm 6)]) (AJ Cr [(eV 0), (eV 1), (eV 3)]))
  (Bq (AJ B1 [(eV 4), (eOp (o2 P1) [(eV 6), (eV 5)]), (eOp (o2 wIx) [(eV 2), (eOp (o2 wIx) [(eV 3), (eC (.int 1))])]), (eV 5)])))
def CD : Fn := A8 (BC 7 EV)
def Fc : Ex := (Am (ND (tTp [(tNm 2), (tNm 3), (tNm 4)]) (eOp (Jc true false) [(eV 0), (eC (.int 1))]))
  (Am (CB 5 (AJ D0 [(eOp (o2 wIx) [(eV 1), (eV 2)]), (eV 4)]))
  (Am (CB 6 (Xp (o1 N8) [(eV 1)]))
  (Am (RO (AJ Gq [(eOp (o2 wIx) [(eV 1), (eV 2)]), (eV 5)]) (eV 6) (eV 2))
  (Am (RO (AJ Ew [(eOp (o2 wIx) [(eV 1), (eV 3)]), (eV 5)]) (eV 6) (eV 3))
  (Bq (eOp (o1 FY) [(eV 6)])))))))
def Ct : Fn := A8 (BC 7 Fc)
def Au : Ex := (Am (xIf (eOp (o2 wEq) [(eOp (o2 wIx) [(eV 3), (eC (.int 0))]), (eC (.str "throw"))]) (Bq (AJ CD [(eV 0), (eV 1), (eV 2), (eV 3), (eV 4)])) Ep)
  (Am (xIf (eOp (o2 wEq) [(eOp (o2 wIx) [(eV 3), (eC (.int 0))]), (eC (.str "sell"))]) (Bq (AJ Ct [(eV 3), (eV 4)])) Ep)
  (Bq (eV 4))))
def AU : Fn := A8 (BC 5 Au)
def Ar : Ex := (Am (CB 4 (C2 [0, 1, 2, 3] 1 (Im (eV 2)) (tNm 4) BM (AJ AU [(eV 0), (eV 1), (eV 2), (eV 3), (eV 4)])))
  (Am (xIf (eOp (o2 wEq) [(eOp (o2 wIx) [(eV 3), (eC (.int 0))]), (eC (.str "bring"))]) (Bq (eOp (o2 EE) [(eV 4), (K6 [(AJ C9 [(eOp (o2 wIx) [(eV 0), (eC (.int 0))]), (eOp (o2 wIx) [(eV 3), (eC (.int 1))])])])])) Ep)
  (Am (xIf (eOp (o2 (wIn false)) [(eOp (o2 wIx) [(eV 3), (eC (.int 0))]), (eC CW)]) (Bq (eOp (o2 EE) [(eV 4), (K6 [(AJ A1 [(eV 1), (eV 2), (eV 3)])])])) Ep)
  (Bq (eV 4)))))
def AY : Fn := A8 (BC 5 Ar)
def Hl : Ex := (Am (ND (tTp [(tNm 2), (tNm 3), (tNm 4)]) (eV 0))
  (Am (CB 5 (AJ Bm [(eV 0)]))
  (Am (CB 6 (C2 [] 1 (Im (eV 3)) (tNm 0) BM (eOp (o2 wIx) [(eV 0), (eC (.int 2))])))
  (Am (CB 7 (eOp (o2 wIx) [(eV 2), (eC (.int 3))]))
  (Am (Kn (Im (eOp (Jc false true) [(eV 4), (eV 1)])) (tNm 8) (Am (CB 7 (AJ AU [(eV 2), (eV 5), (eV 6), (eV 8), (eV 7)]))
  (Am (CB 6 (AJ AY [(eV 2), (eV 5), (eV 6), (eV 8)]))
  (CB 5 (AJ AZ [(eV 5), (eV 8)])))))
  (Bq (D9 [(eV 5), (eV 6), (eV 7)])))))))
def DH : Fn := A8 (BC 9 Hl)
def Hq : Ex := (Am (Gj (AJ Bg [(eV 0)]))
  (Am (Gj (AJ BI [(eV 0), (eV 1)]))
  (Am (ND (tTp [(tNm 2), (tNm 3), (tNm 4)]) (AJ DH [(eV 0), (eV 1)]))
  (Bq (SH [] 3 (UO (eV 2) (eV 3)) (tTp [(tTp [(tNm 1), (tNm 2)]), (tNm 0)]) BM (D9 [(eV 1), (eV 2), (eV 0)]))))))
def BL : Fn := A8 (BC 5 Hq)
def Ez : Ex := (Am (xIf (eOp (o2 wLt) [(eV 1), (eOp (o1 GW) [(eV 0)])]) (Bq (eOp (o2 wIx) [(eV 0), (eV 1)])) Ep)
  (Bq (eC (.int 0))))
def CH : Fn := A8 (BC 2 Ez)
def LU : Ex := (Bq (Mh [(eV 0), (eOp (o1 W4) [(eOp (o2 wGe) [(eV 0), (eOp (o2 WI) [(eC (.int 10)), (eC (.int 18))])])]), (eC (.int 0)), (eOp (o2 MO) [(eV 0), (eC (.int 1000000007))])]))
def Fd : Fn := A8 (BC 1 LU)
def Fw : Ex := (Am (xIf (Nd (eOp (o2 wEq) [(eOp (o2 wIx) [(eV 0), (eC (.int 1))]), (eC (.int 1))]) (eOp (o2 wGt) [(eOp (o2 wIx) [(eV 0), (eC (.int 0))]), (eC (.int 0))])) (Am (CB 2 (eOp (o2 MO) [(eOp (o2 wIx) [(eV 0), (eC (.int 0))]), (eV 1)]))
  (Am (RO (eOp (o2 Ju) [(eOp (o2 wIx) [(eV 0), (eC (.int 0))]), (eV 1)]) (eV 0) (eC (.int 0)))
  (Bq (eV 2)))) Ep)
  (Am (RO (eOp (o2 EE) [(eOp (o2 wIx) [(eV 0), (eC (.int 2))]), (eC (.int 1))]) (eV 0) (eC (.int 2)))
  (Am (CB 3 (eOp (o2 MO) [(eOp (o2 Bl) [(eOp (o2 EE) [(eOp (o2 wIx) [(eV 0), (eC (.int 3))]), (eC (.int 17))]), (eOp (o2 EE) [(eC (.int 69621)), (eOp (o2 Bl) [(eC (.int 2)), (eOp (o2 wIx) [(eV 0), (eC (.int 2))])])])]), (eC (.int 2147483647))]))
  (Am (CB 3 (eOp (o2 MO) [(eOp (o2 EE) [(eOp (o2 EE) [(eOp (o2 Bl) [(eV 3), (eV 3)]), (eOp (o2 Bl) [(eC (.int 40503)), (eOp (o2 wIx) [(eV 0), (eC (.int 2))])])]), (eC (.int 5))]), (eC (.int 2147483629))]))
  (Bq (eOp (o2 MO) [(eOp (o2 Ju) [(eOp (o2 MO) [(eOp (o2 Bl) [(eV 3), (eC (.int 48271))]), (eC (.int 2147483647))]), (eC (.int 32))]), (eV 1)]))))))
def AL : Fn := A8 (BC 4 Fw)
def Hj : Ex := (Am (LL (M8 1) (eOp (o2 wGt) [(eV 1), (eC (.int 0))]) (Pf 0 1 (eV 1) (eOp (o2 MO) [(eV 0), (eV 1)])))
  (Bq (eV 0)))
def EF : Fn := A8 (BC 2 Hj)
def Jg : Ex := (Am (CB 2 (AJ EF [(eOp (o1 UM) [(eV 0)]), (eV 1)]))
  (Bq (D9 [(eOp (o2 Ju) [(eV 0), (eV 2)]), (eOp (o2 Ju) [(eV 1), (eV 2)])])))
def CG : Fn := A8 (BC 3 Jg)
def JW : Ex := (Bq (AJ CG [(eOp (o2 EE) [(eOp (o2 Bl) [(eOp (o2 wIx) [(eV 0), (eC (.int 0))]), (eOp (o2 wIx) [(eV 1), (eC (.int 1))])]), (eOp (o2 Bl) [(eOp (o2 wIx) [(eV 1), (eC (.int 0))]), (eOp (o2 wIx) [(eV 0), (eC (.int 1))])])]), (eOp (o2 Bl) [(eOp (o2 wIx) [(eV 0), (eC (.int 1))]), (eOp (o2 wIx) [(eV 1), (eC (.int 1))])])]))
def EU : Fn := A8 (BC 2 JW)
def Ic : Ex := (Bq (AJ CG [(eOp (o2 Bl) [(eOp (o2 wIx) [(eV 0), (eC (.int 0))]), (eOp (o2 wIx) [(eV 1), (eC (.int 0))])]), (eOp (o2 Bl) [(eOp (o2 wIx) [(eV 0), (eC (.int 1))]), (eOp (o2 wIx) [(eV 1), (eC (.int 1))])])]))
def A3 : Fn := A8 (BC 2 Ic)
def GQ : Ex := (Am (CB 2 (SH [0] 1 (JQ [(eV 1)]) (tNm 1) BM (eOp (o2 wIx) [(K6 [(eC (.int 0)), (eC (.int 1)), (AJ AL [(eV 0), (eC (.int 4))]), (AJ AL [(eV 0), (eC (.int 9))])]), (AJ AL [(eV 0), (eC (.int 4))])])))
  (Am (xIf (eOp (o2 wEq) [(eOp (o1 Pe) [(eV 2)]), (eC (.int 0))]) (RO (eC (.int 1)) (eV 2) (AJ AL [(eV 0), (eV 1)])) Ep)
  (Bq (eOp (o1 FY) [(C2 [2] 1 (Im (eV 2)) (tNm 1) BM (AJ CG [(eV 1), (eOp (o1 Pe) [(eV 0)])]))]))))
def Bt : Fn := A8 (BC 3 GQ)
def Fb : Ex := (Am (CB 1 (eOp (o2 EE) [(eOp (o2 WI) [(eC (.int 10)), (eC (.int 30))]), (AJ AL [(eV 0), (eC (.int 99))])]))
  (Bq (eOp (o2 wIx) [(K6 [(eOp (o2 EE) [(eC (.int 1)), (AJ AL [(eV 0), (eC (.int 4))])]), (eOp (o2 EE) [(eC (.int 1)), (AJ AL [(eV 0), (eC (.int 40))])]), (eOp (o2 EE) [(eC (.int 1)), (AJ AL [(eV 0), (eC (.int 999))])]), (eV 1)]), (eOp (o2 Ju) [(AJ AL [(eV 0), (eC (.int 7))]), (eC (.int 2))])])))
def Br : Fn := A8 (BC 2 Fb)
def IY : Ex := (Am (Pf 1 2 (eOp (o2 EE) [(eC (.int 1)), (AJ AL [(eV 0), (eC (.int 4))])]) (eOp (o2 EE) [(eC (.int 1)), (AJ AL [(eV 0), (eC (.int 5))])]))
  (Am (CB 3 (eOp (o2 wIx) [(K6 [(eOp (o2 EE) [(eC (.int 1)), (AJ AL [(eV 0), (eC (.int 3))])]), (eOp (o2 EE) [(eC (.int 1)), (AJ AL [(eV 0), (eC (.int 20))])])]), (AJ AL [(eV 0), (eC (.int 2))])]))
  (Bq (D9 [(eV 1), (eV 2), (eV 3), (AJ Bt [(eV 0), (eV 1)]), (AJ AL [(eV 0), (eC (.int 10))]), (AJ AL [(eV 0), (eC (.int 10))])]))))
def Du : Fn := A8 (BC 4 IY)
def IZ : Ex := (Am (CB 2 (Xp (o1 N8) [(eV 1)]))
  (Bq (C2 [0, 2] 1 (JQ [(eOp (o1 GW) [(eV 2)])]) (tNm 2) BM (Md R6 (eV 1) [(AJ AL [(eV 0), (eOp (o1 GW) [(eV 1)])])]))))
def EB : Fn := A8 (BC 3 IZ)
def Ib : Ex := (Am (Pf 3 4 (Mh []) (eOp (o2 wIx) [(eV 2), (eC (.int 0))]))
  (Am (Kn (Ws (eOp (Jc true false) [(eV 2), (eC (.int 1))])) (tTp [(tNm 5), (tNm 6)]) (Am (Gj (Md Pl (eV 3) [(D9 [(eC (.str "pool")), (eV 4), (eV 6)])]))
  (CB 4 (eOp (o2 EE) [(eOp (o1 GW) [(eV 1)]), (eV 5)]))))
  (Bq (D9 [(eV 0), (eV 1), (eOp (o1 FY) [(eV 3)])]))))
def Dy : Fn := A8 (BC 7 Ib)
def LX : Ex := (Am (CB 1 (D9 [(eC (.int 0)), (eC (.int 1))]))
  (Am (Kn (Im (eV 0)) (tNm 2) (CB 1 (AJ EU [(eV 1), (eV 2)])))
  (Bq (eV 1))))
def Ce : Fn := A8 (BC 3 LX)
def GB : Ex := (Bq (AJ Cs [(eV 1), (eC (.int 0)), (eOp (o2 P1) [(eOp (o2 wIx) [(eV 0), (eC (.int 0))]), (eC (.int 1))])]))
def ES : Fn := A8 (BC 2 GB)
def DR : Ex := (xIf (Ry (AJ ES [(eOp (o2 wIx) [(eV 0), (eC (.int 0))]), (eV 1)])) MP Ep)
def BY : Fn := A8 (BC 2 DR)
def EY : Ex := (Am (CB 3 (Xp (o2 Bl) [(K6 [(eC Cq)]), (eV 0)]))
  (Am (Kn (UO (eV 1) (eV 2)) (tTp [(tTp [(tNm 5), (tNm 6)]), (tNm 4)]) (RO (AJ Ew [(eOp (o2 wIx) [(eV 3), (eV 5)]), (AJ D0 [(D9 [(eV 6), (eC (.int 1))]), (eV 4)])]) (eV 3) (eV 5)))
  (Bq (eOp (o1 FY) [(eV 3)]))))
def Bf : Fn := A8 (BC 7 EY)
def FW : Ex := (Am (ND (tTp [(tNm 2), (tNm 3)]) (eOp (Jc false true) [(eOp (o2 wIx) [(eV 0), (eC (.int 0))]), (eC (.int 2))]))
  (Am (ND (tTp [(tNm 4), (tNm 5), (tNm 6)]) (AJ DH [(eV 0), (eV 1)]))
  (Bq (C2 [3, 4, 5] 1 (JQ [(eV 2)]) (tNm 3) BM (AJ Bf [(eV 0), (eV 1), (C2 [3] 1 (Im (eV 2)) (tNm 1) BM (eOp (o2 wIx) [(eV 1), (eV 0)]))])))))
def Cm : Fn := A8 (BC 7 FW)
def Gv : Ex := (Am (Gj (AJ Bg [(eV 0)]))
  (Am (Gj (AJ BI [(eV 0), (eV 1)]))
  (Am (Gj (AJ BY [(eV 0), (eV 2)]))
  (Bq (eOp (o2 wIx) [(AJ Cm [(eV 0), (eV 1)]), (eV 2)])))))
def Bv : Fn := A8 (BC 3 Gv)
def Oh : Ex := (Am (Kn (JQ [(eOp (o2 Wf) [(eC (.int 1)), (eOp (o2 UN) [(eOp (o1 GW) [(eV 0)]), (eC (.int 3))])])]) (tNm 1) (Am (CB 2 (AJ Fd [(AJ CH [(eV 0), (eV 1)])]))
  (Am (CB 3 (AJ Du [(eV 2)]))
  (Am (CB 4 (AJ AL [(eV 2), (eOp (o2 wIx) [(eV 3), (eC (.int 1))])]))
  (Am (CB 5 (eOp (o1 FY) [(C2 [2, 3, 4] 1 (JQ [(eOp (o2 EE) [(eC (.int 1)), (AJ AL [(eV 2), (eC (.int 4))])])]) (tNm 3) BM (D9 [(eV 2), (AJ Br [(eV 0)]), (AJ Bt [(eV 0), (eOp (o2 wIx) [(eV 1), (eC (.int 0))])])]))]))
  (Am (CB 6 (eOp (o1 Pe) [(C2 [] 1 (Im (eV 5)) (tNm 0) BM (eOp (o2 wIx) [(eV 0), (eC (.int 1))]))]))
  (Am (CB 7 (Mh []))
  (Am (Kn (JQ [(eOp (o2 wIx) [(eV 3), (eC (.int 0))])]) (tNm 8) (Gj (Md Pl (eV 7) [(AJ Ce [(C2 [8] 1 (Im (eV 5)) (tNm 1) BM (AJ A3 [(D9 [(eOp (o2 wIx) [(eV 1), (eC (.int 1))]), (eC (.int 1))]), (eOp (o2 wIx) [(eOp (o2 wIx) [(eV 1), (eC (.int 2))]), (eV 0)])]))])])))
  (Kn (JQ [(eC (.int 3))]) (tNm 9) (Am (CB 10 (AJ Dy [(eV 3), (eV 5), (AJ EB [(eV 2), (eLR (eOp (o1 GW) [(eV 5)]))])]))
  (Am (CB 11 (eOp (o1 GW) [(eOp (o2 wIx) [(eV 10), (eC (.int 2))])]))
  (Am (xIf (eOp (o2 (UL true)) [(AJ Bn [(eV 10)]), (eC .non)]) (Bq (eC (.bl false))) Ep)
  (Am (CB 12 (eOp (o2 wIx) [(AJ BL [(eV 10), (eV 11)]), (eOp (o1 Lx) [(eC (.int 1))])]))
  (Am (xIf (eOp (o2 wNe) [(eOp (Jc false true) [(eV 12), (eC (.int 2))]), (D9 [(eV 4), (eV 6)])]) (Bq (eC (.bl false))) Ep)
  (Am (xIf (eOp (o2 wNe) [(C2 [6] 1 (Im (eOp (o2 wIx) [(eV 12), (eC (.int 2))])) (tNm 1) BM (AJ A3 [(D9 [(eV 0), (eC (.int 1))]), (eV 1)])), (eV 7)]) (Bq (eC (.bl false))) Ep)
  (Am (xIf (eOp (o2 wNe) [(C2 [] 1 (Im (eOp (Jc false true) [(AJ BL [(eV 10), (eV 11)]), (eOp (o1 Lx) [(eC (.int 1))])])) (tNm 0) BM (eOp (o2 wIx) [(eV 0), (eC (.int 1))])), (eOp (o2 Bl) [(K6 [(eC (.int 0))]), (eOp (o2 P1) [(eOp (o2 Bl) [(eC (.int 2)), (eOp (o1 GW) [(eV 5)])]), (eC (.int 2))])])]) (Bq (eC (.bl false))) Ep)
  (Am (xIf (eOp (o2 wNe) [(C2 [4, 10, 11] 1 (JQ [(eOp (o2 wIx) [(eV 3), (eC (.int 0))])]) (tNm 3) BM (eOp (o2 wIx) [(AJ Bv [(eV 1), (eV 2), (eV 3)]), (eV 0)])), (eV 7)]) (Bq (eC (.bl false))) Ep)
  (xIf (eOp (o2 wGt) [(eOp (o2 wIx) [(eV 3), (eC (.int 1))]), (eC (.int 1))]) (Am (CB 13 (eOp (o2 P1) [(eOp (o2 Bl) [(eC (.int 2)), (eOp (o1 GW) [(eV 5)])]), (eC (.int 2))]))
  (Am (CB 14 (eOp (o2 EE) [(eC (.int 1)), (AJ AL [(eV 2), (eOp (o2 UN) [(eC (.int 99)), (eV 6)])])]))
  (Am (CB 15 (D9 [(eC (.str "swap")), (eV 13), (eV 14), (eOp (o2 MO) [(eOp (o2 EE) [(eV 4), (eC (.int 1))]), (eOp (o2 wIx) [(eV 3), (eC (.int 1))])]), (eC (.int 7))]))
  (Am (CB 16 (AJ BL [(D9 [(eV 3), (eV 5), (eOp (o2 EE) [(eOp (o2 wIx) [(eV 10), (eC (.int 2))]), (D9 [(eV 15)])])]), (eOp (o2 EE) [(eV 11), (eC (.int 1))])]))
  (xIf (eOr (eOp (o2 wNe) [(eOp (o2 wIx) [(eOp (o2 wIx) [(eV 16), (eOp (o1 Lx) [(eC (.int 1))])]), (eC (.int 2))]), (eOp (o2 wIx) [(eV 12), (eC (.int 2))])]) (eOr (eOp (o2 wNe) [(eOp (o2 wIx) [(eOp (o2 wIx) [(eV 16), (eV 13)]), (eC (.int 2))]), (eOp (o2 wIx) [(eV 12), (eC (.int 2))])]) (eOp (o2 wNe) [(eOp (o2 wIx) [(eOp (o2 wIx) [(eV 16), (eOp (o1 Lx) [(eC (.int 1))])]), (eC (.int 1))]), (eC (.int 7))]))) (Bq (eC (.bl false))) Ep))))) Ep))))))))))))))))))
  (Bq (eC (.bl true))))
def J7 : Fn := A8 (BC 17 Oh)
end Mi
end
section
namespace Mi
open PySem PySem.Spec L2
open PyProof.Rows (boot_isinstance boot_int boot_bool boot_tuple boot_str boot_list boot_abs boot_all boot_any boot_sum boot_max boot_min boot_range boot_enumerate boot_zip boot_sorted boot_set boot_divmod)
def top (i : Nat) : Stmt := PySem.Challenge.pw_sharetrail_k14_pools_and_swaps.main.body.getD i (.Pass ⟨0, 0, 0, 0⟩)
def Xo (sc osc : Scope) : Scope := { sc with names := sc.names.map fun (n, k) => if (k == .free && osc.kind == .function && osc.names.lookup n == some .cell) then (n, .cell) else (n, k) }
abbrev s_p_is_whole : Stmt := top 3
abbrev s_p_is_from : Stmt := top 4
abbrev s_p_is_within : Stmt := top 5
abbrev s_p_greatest_divisor : Stmt := top 6
abbrev s_p_lowest : Stmt := top 7
abbrev s_p_plus : Stmt := top 8
abbrev s_p_less : Stmt := top 9
abbrev s_p_times : Stmt := top 10
abbrev s_p_mixed : Stmt := top 11
abbrev s_p_is_partner : Stmt := top 19
abbrev s_p_has_pieces : Stmt := top 20
abbrev s_p_can_pool : Stmt := top 21
abbrev s_p_can_swap : Stmt := top 22
abbrev s_p_can_do : Stmt := top 23
abbrev s_p_held_without : Stmt := top 24
abbrev s_p_held_behind : Stmt := top 25
abbrev s_p_held_at_first : Stmt := top 26
abbrev s_p_made_from : Stmt := top 27
abbrev s_p_first_wrong : Stmt := top 28
abbrev s_p_refuse_undone : Stmt := top 29
abbrev s_p_refuse_no_number : Stmt := top 30
abbrev s_p_refuse_no_partner : Stmt := top 31
abbrev s_p_all_to_one : Stmt := top 33
abbrev s_p_mixed_shares : Stmt := top 34
abbrev s_p_made_shares : Stmt := top 35
abbrev s_p_worth_of_all : Stmt := top 36
abbrev s_p_part_thrown : Stmt := top 37
abbrev s_p_thrown_shares : Stmt := top 38
abbrev s_p_sold_shares : Stmt := top 39
abbrev s_p_shares_behind : Stmt := top 40
abbrev s_p_owners_behind : Stmt := top 41
abbrev s_p_state_by : Stmt := top 42
abbrev s_p_sums_by_kinds : Stmt := top 43
abbrev s_p_theirs_told : Stmt := top 44
abbrev s_p_loads_by : Stmt := top 45
abbrev s_p_theirs_by : Stmt := top 46
abbrev s_law_cell_at : Stmt := top 48
abbrev s_law_pen : Stmt := top 49
abbrev s_law_draw : Stmt := top 50
abbrev s_law_common : Stmt := top 51
abbrev s_law_made : Stmt := top 52
abbrev s_law_plus : Stmt := top 53
abbrev s_law_times : Stmt := top 54
abbrev s_law_sum : Stmt := top 56
abbrev s_law_whole : Stmt := top 57
abbrev s_law_pieces : Stmt := top 58
abbrev s_law_train : Stmt := top 59
abbrev s_law_mixed : Stmt := top 63
abbrev s_law_poolX : Stmt := top 64
abbrev s_p_law : Stmt := top 65
section
variable (P : Program) (w : World) (K : PySem.W.Frag) (mg : Str -> Option Value) (base : Heap)
abbrev Hi : Prop := St.Dfn P w K mg base "is_whole" 1 ["thing"] (spD K 1 EI)
abbrev Iz : Prop := St.Dfn P w K mg base "is_from" 2 ["thing", "low"] (spD K 2 Ej)
abbrev E7 : Prop := St.Dfn P w K mg base "is_within" 3 ["thing", "low", "high"] (spD K 3 Cs)
abbrev Dd : Prop := St.Dfn P w K mg base "greatest_divisor" 1 ["one", "other"] (spD K 2 Bc)
abbrev Dk : Prop := St.Dfn P w K mg base "lowest" 2 ["top", "bottom"] (spD K 2 CI)
abbrev KS : Prop := St.Dfn P w K mg base "plus" 3 ["one", "other"] (spD K 2 Ew)
abbrev L9 : Prop := St.Dfn P w K mg base "less" 3 ["one", "other"] (spD K 2 Gq)
abbrev IM : Prop := St.Dfn P w K mg base "times" 3 ["one", "other"] (spD K 2 D0)
abbrev K0 : Prop := St.Dfn P w K mg base "mixed" 3 ["one", "weight", "other", "more"] (spD K 4 FQ)
abbrev F9 : Prop := St.Dfn P w K mg base "is_partner" 4 ["train", "thing"] (spD K 2 ES)
abbrev C7 : Prop := St.Dfn P w K mg base "has_pieces" 1 ["held", "load", "pieces"] (spD K 3 BZ)
abbrev HW : Prop := St.Dfn P w K mg base "can_pool" 2 ["held", "load", "other"] (spD K 3 EN)
abbrev Hs : Prop := St.Dfn P w K mg base "can_swap" 2 ["held", "load", "given", "kind"] (spD K 4 DA)
abbrev JX : Prop := St.Dfn P w K mg base "can_do" 3 ["held", "done", "deed"] (spD K 3 Bo)
abbrev E8 : Prop := St.Dfn P w K mg base "held_without" 1 ["held", "load", "pieces"] (spD K 3 BG)
abbrev Dw : Prop := St.Dfn P w K mg base "held_behind" 2 ["held", "deed"] (spD K 2 AZ)
abbrev Cy : Prop := St.Dfn P w K mg base "held_at_first" 1 ["book"] (spD K 1 Bm)
abbrev Gz : Prop := St.Dfn P w K mg base "made_from" 1 ["deed"] (spD K 1 BV)
abbrev D7 : Prop := St.Dfn P w K mg base "first_wrong" 4 ["book"] (spD K 1 Bn)
abbrev C4 : Prop := St.Dfn P w K mg base "refuse_undone" 5 ["book"] (spD K 1 Bg)
abbrev CJ : Prop := St.Dfn P w K mg base "refuse_no_number" 4 ["book", "many"] (spD K 2 BI)
abbrev DK : Prop := St.Dfn P w K mg base "refuse_no_partner" 5 ["book", "partner"] (spD K 2 BY)
abbrev GD : Prop := St.Dfn P w K mg base "all_to_one" 1 ["many", "one"] (spD K 2 C9)
abbrev DZ : Prop := St.Dfn P w K mg base "mixed_shares" 4 ["shares", "weight", "others", "more"] (spD K 4 B1)
abbrev Fh : Prop := St.Dfn P w K mg base "made_shares" 5 ["held", "shares", "deed"] (spD K 3 A1)
abbrev FA : Prop := St.Dfn P w K mg base "worth_of_all" 1 ["train", "held", "worths"] (spD K 3 CS)
abbrev FR : Prop := St.Dfn P w K mg base "part_thrown" 3 ["train", "held", "deed"] (spD K 3 Cr)
abbrev Ef : Prop := St.Dfn P w K mg base "thrown_shares" 5 ["train", "held", "owners", "deed", "shares"] (spD K 5 CD)
abbrev FK : Prop := St.Dfn P w K mg base "sold_shares" 4 ["deed", "shares"] (spD K 2 Ct)
abbrev C1 : Prop := St.Dfn P w K mg base "shares_behind" 6 ["train", "held", "owners", "deed", "shares"] (spD K 5 AU)
abbrev ET : Prop := St.Dfn P w K mg base "owners_behind" 7 ["train", "held", "owners", "deed"] (spD K 4 AY)
abbrev Fe : Prop := St.Dfn P w K mg base "state_by" 8 ["book", "many"] (spD K 2 DH)
abbrev EX : Prop := St.Dfn P w K mg base "sums_by_kinds" 4 ["kinds", "held", "shares"] (spD K 3 Bf)
abbrev Fg : Prop := St.Dfn P w K mg base "theirs_told" 9 ["book", "many"] (spD K 2 Cm)
abbrev HZ : Prop := St.Dfn P w K mg base "loads_by" 9 ["book", "many"] (spD K 2 BL)
abbrev Gn : Prop := St.Dfn P w K mg base "theirs_by" 10 ["book", "many", "partner"] (spD K 3 Bv)
abbrev GX : Prop := St.Dfn P w K mg base "_law_cell_at" 1 ["_law_script", "_law_k"] (spD K 2 CH)
abbrev LB : Prop := St.Dfn P w K mg base "_law_pen" 1 ["_law_cell"] (spD K 1 Fd)
abbrev Dq : Prop := St.Dfn P w K mg base "_law_draw" 1 ["_law_pen_here", "_law_bound"] (spD K 2 AL)
abbrev HX : Prop := St.Dfn P w K mg base "_law_common" 1 ["_law_one", "_law_other"] (spD K 2 EF)
abbrev Fq : Prop := St.Dfn P w K mg base "_law_made" 2 ["_law_top", "_law_bottom"] (spD K 2 CG)
abbrev Je : Prop := St.Dfn P w K mg base "_law_plus" 3 ["_law_one", "_law_other"] (spD K 2 EU)
abbrev JE : Prop := St.Dfn P w K mg base "_law_times" 3 ["_law_one", "_law_other"] (spD K 2 A3)
abbrev Ku : Prop := St.Dfn P w K mg base "_law_sum" 4 ["_law_some"] (spD K 1 Ce)
abbrev GJ : Prop := St.Dfn P w K mg base "_law_whole" 3 ["_law_pen_here", "_law_many"] (spD K 2 Bt)
abbrev Hf : Prop := St.Dfn P w K mg base "_law_pieces" 2 ["_law_pen_here"] (spD K 1 Br)
abbrev IS : Prop := St.Dfn P w K mg base "_law_train" 4 ["_law_pen_here"] (spD K 1 Du)
abbrev Ir : Prop := St.Dfn P w K mg base "_law_mixed" 2 ["_law_pen_here", "_law_some"] (spD K 2 EB)
abbrev Ig : Prop := St.Dfn P w K mg base "_law_pooled" 1 ["_law_train_here", "_law_first_here", "_law_order"] (spD K 3 Dy)
end
structure Bts (mg : Str -> Option Value) : Prop where
 abs : mg "abs" = none
 bool : mg "bool" = none
 enumerate : mg "enumerate" = none
 int : mg "int" = none
 isi : mg "isinstance" = none
 len : mg "len" = none
 list : mg "list" = none
 max : mg "max" = none
 min : mg "min" = none
 range : mg "range" = none
 sorted : mg "sorted" = none
 sum : mg "sum" = none
 tuple : mg "tuple" = none
 zip : mg "zip" = none
end Mi
end
section
namespace Mi
open PySem PySem.Spec L2
open PyProof.Rows (boot_isinstance boot_int boot_bool boot_tuple boot_str boot_list boot_abs boot_all boot_any boot_sum boot_max boot_min boot_range boot_enumerate boot_zip boot_sorted boot_set boot_divmod)
variable {P : Program} {w : World} {K : PySem.W.Frag} {mg : Str -> Option Value} {base : Heap}
theorem KO : AQ ["thing"] ["thing"] (AG s_p_is_whole) := ⟨rfl, rfl, rfl, by decide +kernel, rfl, by decide +kernel, by decide +kernel⟩
theorem DL  (S : St.Src K mg "is_whole" s_p_is_whole) (B : Bts mg) : Hi P w K mg base := by
 refine Af (k := 0) S KO rfl (fun f fd F => F.binds fun _ _ _ _ _ _ us hl => match us, hl with | [_], _ => rfl) fun f cdv A outer s H E hr => ?_
 have hu := AS hr
 exact (AI (AR (Ha (Aq LS rfl B.isi boot_isinstance (AA (AB 0) (AA (Uj rfl B.int boot_int) AD))) (Ik (Ur (Aq LS rfl B.isi boot_isinstance (AA (AB 0) (AA (Uj rfl B.bool boot_bool) AD))))))))
theorem LY : AQ ["thing", "low"] ["thing", "low"] (AG s_p_is_from) := ⟨rfl, rfl, rfl, by decide +kernel, rfl, by decide +kernel, by decide +kernel⟩
theorem EC  (S : St.Src K mg "is_from" s_p_is_from) (DL : Hi P w K mg base) : Iz P w K mg base := by
 refine Af (k := 1) S LY rfl (fun f fd F => F.binds fun _ _ _ _ _ _ us hl => match us, hl with | [_, _], _ => rfl) fun f cdv A outer s H E hr => ?_
 have hu := AS hr
 exact (AI (AR (Ha (AH DL (hr.mono (by decide)) rfl (AA (AB 0) AD)) (Ik (HV PX (AB 0) (AB 1))))))
theorem JI : AQ ["thing", "low", "high"] ["thing", "low", "high"] (AG s_p_is_within) := ⟨rfl, rfl, rfl, by decide +kernel, rfl, by decide +kernel, by decide +kernel⟩
theorem BS  (S : St.Src K mg "is_within" s_p_is_within) (EC : Iz P w K mg base) : E7 P w K mg base := by
 refine Af (k := 2) S JI rfl (fun f fd F => F.binds fun _ _ _ _ _ _ us hl => match us, hl with | [_, _, _], _ => rfl) fun f cdv A outer s H E hr => ?_
 have hu := AS hr
 exact (AI (AR (Ha (AH EC (hr.mono (by decide)) rfl (AA (AB 0) (AA (AB 1) AD))) (Ik (HV UT (AB 0) (AB 2))))))
theorem B6 : AQ ["one", "other"] ["one", "other"] (AG s_p_greatest_divisor) := ⟨rfl, rfl, rfl, by decide +kernel, rfl, by decide +kernel, by decide +kernel⟩
theorem BK  (S : St.Src K mg "greatest_divisor" s_p_greatest_divisor) (B : Bts mg) : Dd P w K mg base := by
 refine Af (k := 0) S B6 rfl (fun f fd F => F.binds fun _ _ _ _ _ _ us hl => match us, hl with | [_, _], _ => rfl) fun f cdv A outer s H E hr => ?_
 have hu := AS hr
 exact (AF (K4 (i := 0) (j := 1) rfl B6.nd rfl rfl (by decide) rfl rfl (Aq Ie rfl B.abs boot_abs (AA (AB 0) AD)) (Aq Ie rfl B.abs boot_abs (AA (AB 1) AD)))
    (AF (MG (M8 1) PassesOwn.never (BH (Gg hu) (AB 1) AE) (AI (K4 (i := 0) (j := 1) rfl B6.nd rfl rfl (by decide) rfl rfl (AB 1) (AX Ey (AB 0) (AB 1)))))
    (AI (AR (AB 0)))))
theorem Ij : AQ ["top", "bottom", "divisor"] ["top", "bottom"] (AG s_p_lowest) := ⟨rfl, rfl, rfl, by decide +kernel, rfl, by decide +kernel, by decide +kernel⟩
theorem Ax  (S : St.Src K mg "lowest" s_p_lowest) (BK : Dd P w K mg base) : Dk P w K mg base := by
 refine Af (k := 1) S Ij rfl (fun f fd F => F.binds fun _ _ _ _ _ _ us hl => match us, hl with | [_, _], _ => rfl) fun f cdv A outer s H E hr => ?_
 have hu := AS hr
 exact (AF (An 2 (AH BK (hr.mono (by decide)) rfl (AA (AB 0) (AA (AB 1) AD))) Ij.nd)
    (AI (AR (Bx (AA (AX E5 (AB 0) (AB 2)) (AA (AX E5 (AB 1) (AB 2)) AD))))))
theorem N9 : AQ ["one", "other"] ["one", "other"] (AG s_p_plus) := ⟨rfl, rfl, rfl, by decide +kernel, rfl, by decide +kernel, by decide +kernel⟩
theorem EK  (S : St.Src K mg "plus" s_p_plus) (Ax : Dk P w K mg base) : KS P w K mg base := by
 refine Af (k := 2) S N9 rfl (fun f fd F => F.binds fun _ _ _ _ _ _ us hl => match us, hl with | [_, _], _ => rfl) fun f cdv A outer s H E hr => ?_
 have hu := AS hr
 exact (AI (AR (AH Ax (hr.mono (by decide)) rfl (AA (AX Al (AX Ac (AK Ag (AB 0) AE) (AK Ag (AB 1) AE)) (AX Ac (AK Ag (AB 1) AE) (AK Ag (AB 0) AE))) (AA (AX Ac (AK Ag (AB 0) AE) (AK Ag (AB 1) AE)) AD)))))
end Mi
end
section
namespace Mi
open PySem PySem.Spec L2
open PyProof.Rows (boot_isinstance boot_int boot_bool boot_tuple boot_str boot_list boot_abs boot_all boot_any boot_sum boot_max boot_min boot_range boot_enumerate boot_zip boot_sorted boot_set boot_divmod)
variable {P : Program} {w : World} {K : PySem.W.Frag} {mg : Str -> Option Value} {base : Heap}
theorem OA : AQ ["one", "other"] ["one", "other"] (AG s_p_less) := ⟨rfl, rfl, rfl, by decide +kernel, rfl, by decide +kernel, by decide +kernel⟩
theorem Gx  (S : St.Src K mg "less" s_p_less) (Ax : Dk P w K mg base) : L9 P w K mg base := by
 refine Af (k := 2) S OA rfl (fun f fd F => F.binds fun _ _ _ _ _ _ us hl => match us, hl with | [_, _], _ => rfl) fun f cdv A outer s H E hr => ?_
 have hu := AS hr
 exact (AI (AR (AH Ax (hr.mono (by decide)) rfl (AA (AX G7 (AX Ac (AK Ag (AB 0) AE) (AK Ag (AB 1) AE)) (AX Ac (AK Ag (AB 1) AE) (AK Ag (AB 0) AE))) (AA (AX Ac (AK Ag (AB 0) AE) (AK Ag (AB 1) AE)) AD)))))
theorem Mm : AQ ["one", "other"] ["one", "other"] (AG s_p_times) := ⟨rfl, rfl, rfl, by decide +kernel, rfl, by decide +kernel, by decide +kernel⟩
theorem DF  (S : St.Src K mg "times" s_p_times) (Ax : Dk P w K mg base) : IM P w K mg base := by
 refine Af (k := 2) S Mm rfl (fun f fd F => F.binds fun _ _ _ _ _ _ us hl => match us, hl with | [_, _], _ => rfl) fun f cdv A outer s H E hr => ?_
 have hu := AS hr
 exact (AI (AR (AH Ax (hr.mono (by decide)) rfl (AA (AX Ac (AK Ag (AB 0) AE) (AK Ag (AB 1) AE)) (AA (AX Ac (AK Ag (AB 0) AE) (AK Ag (AB 1) AE)) AD)))))
theorem Jh : AQ ["one", "weight", "other", "more", "top"] ["one", "weight", "other", "more"] (AG s_p_mixed) := ⟨rfl, rfl, rfl, by decide +kernel, rfl, by decide +kernel, by decide +kernel⟩
theorem FL  (S : St.Src K mg "mixed" s_p_mixed) (Ax : Dk P w K mg base) : K0 P w K mg base := by
 refine Af (k := 2) S Jh rfl (fun f fd F => F.binds fun _ _ _ _ _ _ us hl => match us, hl with | [_, _, _, _], _ => rfl) fun f cdv A outer s H E hr => ?_
 have hu := AS hr
 exact (AF (An 4 (AX Al (AX Ac (AX Ac (AK Ag (AB 0) AE) (AK Ag (AB 2) AE)) (AB 1)) (AX Ac (AX Ac (AK Ag (AB 2) AE) (AK Ag (AB 0) AE)) (AB 3))) Jh.nd)
    (AI (AR (AH Ax (hr.mono (by decide)) rfl (AA (AB 4) (AA (AX Ac (AX Ac (AK Ag (AB 0) AE) (AK Ag (AB 2) AE)) (AX Al (AB 1) (AB 3))) AD))))))
theorem JB : AQ ["train", "thing"] ["train", "thing"] (AG s_p_is_partner) := ⟨rfl, rfl, rfl, by decide +kernel, rfl, by decide +kernel, by decide +kernel⟩
theorem CM  (S : St.Src K mg "is_partner" s_p_is_partner) (BS : E7 P w K mg base) : F9 P w K mg base := by
 refine Af (k := 3) S JB rfl (fun f fd F => F.binds fun _ _ _ _ _ _ us hl => match us, hl with | [_, _], _ => rfl) fun f cdv A outer s H E hr => ?_
 have hu := AS hr
 exact (AI (AR (AH BS (hr.mono (by decide)) rfl (AA (AB 1) (AA AE (AA (AX G7 (AK Ag (AB 0) AE) AE) AD))))))
theorem II : AQ ["held", "load", "pieces"] ["held", "load", "pieces"] (AG s_p_has_pieces) := ⟨rfl, rfl, rfl, by decide +kernel, rfl, by decide +kernel, by decide +kernel⟩
theorem Ai  (S : St.Src K mg "has_pieces" s_p_has_pieces) (B : Bts mg) : C7 P w K mg base := by
 refine Af (k := 0) S II rfl (fun f fd F => F.binds fun _ _ _ _ _ _ us hl => match us, hl with | [_, _, _], _ => rfl) fun f cdv A outer s H E hr => ?_
 have hu := AS hr
 exact (AI (AR (Ha (HV Rt (AB 1) (Aq B0 rfl B.len boot_len (AA (AB 0) AD))) (Ik (HV PX (AK Ag (AK Ag (AB 0) (AB 1)) AE) (AB 2))))))
theorem J4 : AQ ["held", "load", "other"] ["held", "load", "other"] (AG s_p_can_pool) := ⟨rfl, rfl, rfl, by decide +kernel, rfl, by decide +kernel, by decide +kernel⟩
theorem DB  (S : St.Src K mg "can_pool" s_p_can_pool) (Ai : C7 P w K mg base) : HW P w K mg base := by
 refine Af (k := 1) S J4 rfl (fun f fd F => F.binds fun _ _ _ _ _ _ us hl => match us, hl with | [_, _, _], _ => rfl) fun f cdv A outer s H E hr => ?_
 have hu := AS hr
 exact (AI (AR (Ha (AH Ai (hr.mono (by decide)) rfl (AA (AB 0) (AA (AB 1) (AA AE AD)))) (Ha (AH Ai (hr.mono (by decide)) rfl (AA (AB 0) (AA (AB 2) (AA AE AD)))) (Ik (HV (Ds hu) (AK Ag (AK Ag (AB 0) (AB 1)) AE) (AK Ag (AK Ag (AB 0) (AB 2)) AE)))))))
end Mi
end
section
namespace Mi
open PySem PySem.Spec L2
open PyProof.Rows (boot_isinstance boot_int boot_bool boot_tuple boot_str boot_list boot_abs boot_all boot_any boot_sum boot_max boot_min boot_range boot_enumerate boot_zip boot_sorted boot_set boot_divmod)
variable {P : Program} {w : World} {K : PySem.W.Frag} {mg : Str -> Option Value} {base : Heap}
theorem KR : AQ ["held", "load", "given", "kind"] ["held", "load", "given", "kind"] (AG s_p_can_swap) := ⟨rfl, rfl, rfl, by decide +kernel, rfl, by decide +kernel, by decide +kernel⟩
theorem Cc  (S : St.Src K mg "can_swap" s_p_can_swap) (Ai : C7 P w K mg base) : Hs P w K mg base := by
 refine Af (k := 1) S KR rfl (fun f fd F => F.binds fun _ _ _ _ _ _ us hl => match us, hl with | [_, _, _, _], _ => rfl) fun f cdv A outer s H E hr => ?_
 have hu := AS hr
 exact (AI (AR (Ha (AH Ai (hr.mono (by decide)) rfl (AA (AB 0) (AA (AB 1) (AA (AB 2) AD)))) (Ik (HV (Gg hu) (AK Ag (AK Ag (AB 0) (AB 1)) AE) (AB 3))))))
theorem GS : AQ ["held", "done", "deed", "word", "numbers"] ["held", "done", "deed"] (AG s_p_can_do) := ⟨rfl, rfl, rfl, by decide +kernel, rfl, by decide +kernel, by decide +kernel⟩
theorem KG : Ab ["held", "done", "deed", "word", "numbers"] (AG s_p_can_do) ["other"] (ixC [] 1) (Jn s_p_can_do 0) := ⟨rfl, by decide +kernel, by decide +kernel, by decide +kernel, by decide +kernel⟩
theorem KD : (["other"] : List Str).Nodup := by decide +kernel
theorem EZ  (S : St.Src K mg "can_do" s_p_can_do) (Ai : C7 P w K mg base) (DB : HW P w K mg base) (Cc : Hs P w K mg base) : JX P w K mg base := by
 refine Af (k := 2) S GS rfl (fun f fd F => F.binds fun _ _ _ _ _ _ us hl => match us, hl with | [_, _, _], _ => rfl) fun f cdv A outer s H E hr => ?_
 have hu := AS hr
 exact (AF (An 3 (AK Ag (AB 2) AE) GS.nd)
    (AF (Ck (BH (Ds hu) (AB 3) Ca) (AI (AR (AH DB (hr.mono (by decide)) rfl (AA (AB 0) (AA (AK Ag (AB 2) AE) (AA (AK Ag (AB 2) AE) AD)))))) Az)
    (AF (Ck (BH (Ds hu) (AB 3) Ca) (AI (AR (AH Cc (hr.mono (by decide)) rfl (AA (AB 0) (AA (AK Ag (AB 2) AE) (AA (AK Ag (AB 2) AE) (AA (AK Ag (AB 2) AE) AD))))))) Az)
    (AF (Ck (BH (Ds hu) (AB 3) Ca) (AF (HN [] 1 ["other"] rfl GS.nd rfl rfl KG (Ec (AB 1)) (fun s H fp => ⟨(Ap 0 KD), (SU (BH (Ds hu) (AK Ag (AB 0) AE) Ca)), (AK Ag (AB 0) AE)⟩))
    (AI (AR (Ha (HV Nk (AK Ag (AB 2) AE) (AB 4)) (Ik (AH Cc (hr.mono (by decide)) rfl (AA (AB 0) (AA (AK Ag (AB 2) AE) (AA (AK Ag (AB 2) AE) (AA (AK Ag (AB 2) AE) AD)))))))))) Az)
    (AF (Ck (BH LK (AB 3) (Bx (AA Ca (AA Ca AD)))) (AI (AR (AH Ai (hr.mono (by decide)) rfl (AA (AB 0) (AA (AK Ag (AB 2) AE) (AA (AK Ag (AB 2) AE) AD)))))) Az)
    (AI (AR Ko)))))))
theorem C3 : AQ ["held", "load", "pieces", "kind", "there"] ["held", "load", "pieces"] (AG s_p_held_without) := ⟨rfl, rfl, rfl, by decide +kernel, rfl, by decide +kernel, by decide +kernel⟩
theorem A4  (S : St.Src K mg "held_without" s_p_held_without) : E8 P w K mg base := by
 refine Af (k := 0) S C3 rfl (fun f fd F => F.binds fun _ _ _ _ _ _ us hl => match us, hl with | [_, _, _], _ => rfl) fun f cdv A outer s H E hr => ?_
 have hu := AS hr
 exact (AF (FO (AK Ag (AB 0) (AB 1)) (Eo rfl (AO (Ap 3 C3.nd) (AO (Ap 4 C3.nd) Bw))))
    (AI (AR (AX Al (AX Al (HR (AB 0) (AB 1)) (DJ (AA (Bx (AA (AB 3) (AA (AX G7 (AB 4) (AB 2)) AD))) AD))) (Ih (AB 0) (AX Al (AB 1) AE))))))
theorem Ao : AQ ["held", "deed", "word", "kind", "pieces", "more", "load", "given", "got"] ["held", "deed"] (AG s_p_held_behind) := ⟨rfl, rfl, rfl, by decide +kernel, rfl, by decide +kernel, by decide +kernel⟩
theorem A9  (S : St.Src K mg "held_behind" s_p_held_behind) (A4 : E8 P w K mg base) : Dw P w K mg base := by
 refine Af (k := 1) S Ao rfl (fun f fd F => F.binds fun _ _ _ _ _ _ us hl => match us, hl with | [_, _], _ => rfl) fun f cdv A outer s H E hr => ?_
 have hu := AS hr
 exact (AF (An 2 (AK Ag (AB 1) AE) Ao.nd)
    (AF (Ck (BH (Ds hu) (AB 2) Ca) (AI (AR (AX Al (AB 0) (DJ (AA (Bx (AA (AK Ag (AB 1) AE) (AA (AK Ag (AB 1) AE) AD))) AD))))) Az)
    (AF (Ck (BH (Ds hu) (AB 2) Ca) (AF (FO (AK Ag (AB 0) (AK Ag (AB 1) AE)) (Eo rfl (AO (Ap 3 Ao.nd) (AO (Ap 4 Ao.nd) Bw))))
    (AF (An 5 (AK Ag (AK Ag (AB 0) (AK Ag (AB 1) AE)) AE) Ao.nd)
    (AI (AR (AX Al (AH A4 (hr.mono (by decide)) rfl (AA (AH A4 (hr.mono (by decide)) rfl (AA (AB 0) (AA (AK Ag (AB 1) AE) (AA (AB 4) AD)))) (AA (AK Ag (AB 1) AE) (AA (AB 5) AD)))) (DJ (AA (Bx (AA (AB 3) (AA (AX Al (AB 4) (AB 5)) AD))) AD))))))) Az)
    (AF (Ck (BH LK (AB 2) (Bx (AA Ca (AA Ca AD)))) (AF (FO (Ih (AB 1) (Lm GK AE)) (Eo rfl (AO (Ap 6 Ao.nd) (AO (Ap 7 Ao.nd) (AO (Ap 3 Ao.nd) (AO (Ap 8 Ao.nd) Bw))))))
    (AI (AR (AX Al (AH A4 (hr.mono (by decide)) rfl (AA (AB 0) (AA (AB 6) (AA (AB 7) AD)))) (DJ (AA (Bx (AA (AB 3) (AA (AB 8) AD))) AD)))))) Az)
    (AF (Ck (BH LK (AB 2) (Bx (AA Ca (AA Ca AD)))) (AI (AR (AH A4 (hr.mono (by decide)) rfl (AA (AB 0) (AA (AK Ag (AB 1) AE) (AA (AK Ag (AB 1) AE) AD)))))) Az)
    (AI (AR (AB 0))))))))
theorem GZ : AQ ["book"] ["book"] (AG s_p_held_at_first) := ⟨rfl, rfl, rfl, by decide +kernel, rfl, by decide +kernel, by decide +kernel⟩
theorem F1 : Ab ["book"] (AG s_p_held_at_first) ["load"] (ixC [] 1) (Jn s_p_held_at_first 0) := ⟨rfl, by decide +kernel, by decide +kernel, by decide +kernel, by decide +kernel⟩
theorem Fy : (["load"] : List Str).Nodup := by decide +kernel
theorem Aw  (S : St.Src K mg "held_at_first" s_p_held_at_first) : Cy P w K mg base := by
 refine Af (k := 0) S GZ rfl (fun f fd F => F.binds fun _ _ _ _ _ _ us hl => match us, hl with | [_], _ => rfl) fun f cdv A outer s H E hr => ?_
 have hu := AS hr
 exact (AI (AR (CK [] 1 ["load"] rfl F1 (Ec (AK Ag (AB 0) AE)) (fun s H fp => ⟨(Ap 0 Fy), B2, (Bx (AA (AK Ag (AB 0) AE) (AA (AK Ag (AB 0) AE) AD)))⟩))))
theorem F5 : AQ ["deed", "word"] ["deed"] (AG s_p_made_from) := ⟨rfl, rfl, rfl, by decide +kernel, rfl, by decide +kernel, by decide +kernel⟩
theorem Cf  (S : St.Src K mg "made_from" s_p_made_from) (B : Bts mg) : Gz P w K mg base := by
 refine Af (k := 0) S F5 rfl (fun f fd F => F.binds fun _ _ _ _ _ _ us hl => match us, hl with | [_], _ => rfl) fun f cdv A outer s H E hr => ?_
 have hu := AS hr
 exact (AF (An 1 (AK Ag (AB 0) AE) F5.nd)
    (AF (Ck (BH (Ds hu) (AB 1) Ca) (AI (AR (Aq K1 rfl B.sorted boot_sorted (AA (DJ (AA (AK Ag (AB 0) AE) (AA (AK Ag (AB 0) AE) AD))) AD)))) Az)
    (AF (Ck (BH LK (AB 1) (Bx (AA Ca (AA Ca AD)))) (AI (AR (DJ (AA (AK Ag (AB 0) (Lm GK AE)) AD)))) Az)
    (AI (AR (DJ AD))))))
end Mi
end
section
namespace Mi
open PySem PySem.Spec L2
open PyProof.Rows (boot_isinstance boot_int boot_bool boot_tuple boot_str boot_list boot_abs boot_all boot_any boot_sum boot_max boot_min boot_range boot_enumerate boot_zip boot_sorted boot_set boot_divmod)
variable {P : Program} {w : World} {K : PySem.W.Frag} {mg : Str -> Option Value} {base : Heap}
theorem BP : AQ ["book", "held", "deeds", "at", "deed"] ["book"] (AG s_p_first_wrong) := ⟨rfl, rfl, rfl, by decide +kernel, rfl, by decide +kernel, by decide +kernel⟩
theorem BD  (S : St.Src K mg "first_wrong" s_p_first_wrong) (B : Bts mg) (EZ : JX P w K mg base) (A9 : Dw P w K mg base) (Aw : Cy P w K mg base) : D7 P w K mg base := by
 refine Af (k := 3) S BP rfl (fun f fd F => F.binds fun _ _ _ _ _ _ us hl => match us, hl with | [_], _ => rfl) fun f cdv A outer s H E hr => ?_
 have hu := AS hr
 exact (AF (An 1 (AH Aw (hr.mono (by decide)) rfl (AA (AB 0) AD)) BP.nd)
    (AF (An 2 (AK Ag (AB 0) AE) BP.nd)
    (AF (Hn PassesOwn.never rfl (Rv rfl B.enumerate (AB 2)) (Eo rfl (AO (Ap 3 BP.nd) (AO (Ap 4 BP.nd) Bw))) (AF (Ck (Nq (Oo (AH EZ (hr.mono (by decide)) rfl (AA (AB 1) (AA (HR (AB 2) (AB 3)) (AA (AB 4) AD)))))) (AI (AR (AB 3))) Az)
    (AI (An 1 (AH A9 (hr.mono (by decide)) rfl (AA (AB 1) (AA (AB 4) AD))) BP.nd))))
    (AI (AR Oe)))))
theorem EL : AQ ["book", "wrong"] ["book"] (AG s_p_refuse_undone) := ⟨rfl, rfl, rfl, by decide +kernel, rfl, by decide +kernel, by decide +kernel⟩
theorem As  (S : St.Src K mg "refuse_undone" s_p_refuse_undone) (BD : D7 P w K mg base) : C4 P w K mg base := by
 refine Af (k := 4) S EL rfl (fun f fd F => F.binds fun _ _ _ _ _ _ us hl => match us, hl with | [_], _ => rfl) fun f cdv A outer s H E hr => ?_
 have hu := AS hr
 exact (AF (An 1 (AH BD (hr.mono (by decide)) rfl (AA (AB 0) AD)) EL.nd)
    (AI (Ck (BH Ly (AB 1) Oe) (AI KW) Az)))
theorem FX : AQ ["book", "many"] ["book", "many"] (AG s_p_refuse_no_number) := ⟨rfl, rfl, rfl, by decide +kernel, rfl, by decide +kernel, by decide +kernel⟩
theorem Ae  (S : St.Src K mg "refuse_no_number" s_p_refuse_no_number) (B : Bts mg) (BS : E7 P w K mg base) : CJ P w K mg base := by
 refine Af (k := 3) S FX rfl (fun f fd F => F.binds fun _ _ _ _ _ _ us hl => match us, hl with | [_, _], _ => rfl) fun f cdv A outer s H E hr => ?_
 have hu := AS hr
 exact (AI (Ck (Nq (Oo (AH BS (hr.mono (by decide)) rfl (AA (AB 1) (AA AE (AA (Aq B0 rfl B.len boot_len (AA (AK Ag (AB 0) AE) AD)) AD)))))) (AI KW) Az))
theorem FH : AQ ["book", "partner"] ["book", "partner"] (AG s_p_refuse_no_partner) := ⟨rfl, rfl, rfl, by decide +kernel, rfl, by decide +kernel, by decide +kernel⟩
theorem BE  (S : St.Src K mg "refuse_no_partner" s_p_refuse_no_partner) (CM : F9 P w K mg base) : DK P w K mg base := by
 refine Af (k := 4) S FH rfl (fun f fd F => F.binds fun _ _ _ _ _ _ us hl => match us, hl with | [_, _], _ => rfl) fun f cdv A outer s H E hr => ?_
 have hu := AS hr
 exact (AI (Ck (Nq (Oo (AH CM (hr.mono (by decide)) rfl (AA (AK Ag (AB 0) AE) (AA (AB 1) AD))))) (AI KW) Az))
theorem IT : AQ ["many", "one"] ["many", "one"] (AG s_p_all_to_one) := ⟨rfl, rfl, rfl, by decide +kernel, rfl, by decide +kernel, by decide +kernel⟩
theorem HA : Ab ["many", "one"] (AG s_p_all_to_one) ["one", "at"] (ixC [1] 1) (Jn s_p_all_to_one 0) := ⟨rfl, by decide +kernel, by decide +kernel, by decide +kernel, by decide +kernel⟩
theorem G8 : (["one", "at"] : List Str).Nodup := by decide +kernel
theorem CO  (S : St.Src K mg "all_to_one" s_p_all_to_one) (B : Bts mg) (c_ALL : Nf K mg "ALL" N3) (c_NOTHING : Nf K mg "NOTHING" Cq) : GD P w K mg base := by
 refine Af (k := 0) S IT rfl (fun f fd F => F.binds fun _ _ _ _ _ _ us hl => match us, hl with | [_, _], _ => rfl) fun f cdv A outer s H E hr => ?_
 have hu := AS hr
 exact (AI (AR (CP CY rfl B.tuple boot_tuple (AA (CK [1] 1 ["one", "at"] rfl HA (Ek rfl B.range (AA (AB 0) AD)) (fun s H fp => ⟨(Ap 1 G8), B2, (Xc (BH (Ds hu) (AB 1) (AB 0)) (KN c_ALL rfl) (KN c_NOTHING rfl))⟩)) AD))))
theorem HJ : AQ ["shares", "weight", "others", "more"] ["shares", "weight", "others", "more"] (AG s_p_mixed_shares) := ⟨rfl, rfl, rfl, by decide +kernel, rfl, by decide +kernel, by decide +kernel⟩
theorem GP : Ab ["shares", "weight", "others", "more"] (AG s_p_mixed_shares) ["weight", "more", "share", "other"] (ixC [1, 3] 2) (Jn s_p_mixed_shares 0) := ⟨rfl, by decide +kernel, by decide +kernel, by decide +kernel, by decide +kernel⟩
theorem Dr : (["weight", "more", "share", "other"] : List Str).Nodup := by decide +kernel
theorem A5  (S : St.Src K mg "mixed_shares" s_p_mixed_shares) (B : Bts mg) (FL : K0 P w K mg base) : DZ P w K mg base := by
 refine Af (k := 3) S HJ rfl (fun f fd F => F.binds fun _ _ _ _ _ _ us hl => match us, hl with | [_, _, _, _], _ => rfl) fun f cdv A outer s H E hr => ?_
 have hu := AS hr
 exact (AI (AR (CP CY rfl B.tuple boot_tuple (AA (CK [1, 3] 2 ["weight", "more", "share", "other"] rfl GP (OX rfl B.zip (AB 0) (AB 2)) (fun s H fp => ⟨(Eo rfl (AO (Ap 2 Dr) (AO (Ap 3 Dr) Bw))), B2, (AH FL (hr.mono (by decide)) rfl (AA (AB 2) (AA (AB 0) (AA (AB 3) (AA (AB 1) AD)))))⟩)) AD))))
end Mi
end
section
namespace Mi
open PySem PySem.Spec L2
open PyProof.Rows (boot_isinstance boot_int boot_bool boot_tuple boot_str boot_list boot_abs boot_all boot_any boot_sum boot_max boot_min boot_range boot_enumerate boot_zip boot_sorted boot_set boot_divmod)
variable {P : Program} {w : World} {K : PySem.W.Frag} {mg : Str -> Option Value} {base : Heap}
theorem CV : AQ ["held", "shares", "deed", "sources", "load", "other"] ["held", "shares", "deed"] (AG s_p_made_shares) := ⟨rfl, rfl, rfl, by decide +kernel, rfl, by decide +kernel, by decide +kernel⟩
theorem CA  (S : St.Src K mg "made_shares" s_p_made_shares) (B : Bts mg) (Cf : Gz P w K mg base) (A5 : DZ P w K mg base) : Fh P w K mg base := by
 refine Af (k := 4) S CV rfl (fun f fd F => F.binds fun _ _ _ _ _ _ us hl => match us, hl with | [_, _, _], _ => rfl) fun f cdv A outer s H E hr => ?_
 have hu := AS hr
 exact (AF (An 3 (AH Cf (hr.mono (by decide)) rfl (AA (AB 2) AD)) CV.nd)
    (AF (Ck (BH (Ds hu) (Aq B0 rfl B.len boot_len (AA (AB 3) AD)) AE) (AI (AR (AK Ag (AB 1) (AK Ag (AB 3) AE)))) Az)
    (AF (FO (AB 3) (Eo rfl (AO (Ap 4 CV.nd) (AO (Ap 5 CV.nd) Bw))))
    (AI (AR (AH A5 (hr.mono (by decide)) rfl (AA (AK Ag (AB 1) (AB 4)) (AA (AK Ag (AK Ag (AB 0) (AB 4)) AE) (AA (AK Ag (AB 1) (AB 5)) (AA (AK Ag (AK Ag (AB 0) (AB 5)) AE) AD))))))))))
theorem HM : AQ ["train", "held", "worths"] ["train", "held", "worths"] (AG s_p_worth_of_all) := ⟨rfl, rfl, rfl, by decide +kernel, rfl, by decide +kernel, by decide +kernel⟩
theorem GF : Ab ["train", "held", "worths"] (AG s_p_worth_of_all) ["worths", "kind", "pieces"] (ixC [2] 2) (Jn s_p_worth_of_all 0) := ⟨rfl, by decide +kernel, by decide +kernel, by decide +kernel, by decide +kernel⟩
theorem Dz : (["worths", "kind", "pieces"] : List Str).Nodup := by decide +kernel
theorem Bz  (S : St.Src K mg "worth_of_all" s_p_worth_of_all) (B : Bts mg) : FA P w K mg base := by
 refine Af (k := 0) S HM rfl (fun f fd F => F.binds fun _ _ _ _ _ _ us hl => match us, hl with | [_, _, _], _ => rfl) fun f cdv A outer s H E hr => ?_
 have hu := AS hr
 exact (AI (AR (AX Al (Aq (Ga rfl) rfl B.sum boot_sum (AA (CK [2] 2 ["worths", "kind", "pieces"] rfl GF (Ec (AB 1)) (fun s H fp => ⟨(Eo rfl (AO (Ap 1 Dz) (AO (Ap 2 Dz) Bw))), B2, (AX Ac (AB 2) (AK Ag (AB 0) (AB 1)))⟩)) AD)) (AX Ac (AK Ag (AB 0) AE) (AK Ag (AB 2) (Lm GK AE))))))
theorem CQ : AQ ["train", "held", "deed", "load", "pieces", "worths"] ["train", "held", "deed"] (AG s_p_part_thrown) := ⟨rfl, rfl, rfl, by decide +kernel, rfl, by decide +kernel, by decide +kernel⟩
theorem B4  (S : St.Src K mg "part_thrown" s_p_part_thrown) (Ax : Dk P w K mg base) (Bz : FA P w K mg base) : FR P w K mg base := by
 refine Af (k := 2) S CQ rfl (fun f fd F => F.binds fun _ _ _ _ _ _ us hl => match us, hl with | [_, _, _], _ => rfl) fun f cdv A outer s H E hr => ?_
 have hu := AS hr
 exact (AF (FO (Ih (AB 2) AE) (Eo rfl (AO (Ap 3 CQ.nd) (AO (Ap 4 CQ.nd) (AO (Ap 5 CQ.nd) Bw)))))
    (AI (AR (AH Ax (hr.mono (by decide)) rfl (AA (AX Ac (AB 4) (AK Ag (AB 5) (AK Ag (AK Ag (AB 1) (AB 3)) AE))) (AA (AH Bz (hr.mono (by decide)) rfl (AA (AB 0) (AA (AB 1) (AA (AB 5) AD)))) AD))))))
theorem Ci : AQ ["train", "held", "owners", "deed", "shares", "top", "bottom"] ["train", "held", "owners", "deed", "shares"] (AG s_p_thrown_shares) := ⟨rfl, rfl, rfl, by decide +kernel, rfl, by decide +kernel, by decide +kernel⟩
theorem Bi  (S : St.Src K mg "thrown_shares" s_p_thrown_shares) (A5 : DZ P w K mg base) (B4 : FR P w K mg base) : Ef P w K mg base := by
 refine Af (k := 4) S Ci rfl (fun f fd F => F.binds fun _ _ _ _ _ _ us hl => match us, hl with | [_, _, _, _, _], _ => rfl) fun f cdv A outer s H E hr => ?_
 have hu := AS hr
 exact (AF (FO (AH B4 (hr.mono (by decide)) rfl (AA (AB 0) (AA (AB 1) (AA (AB 3) AD)))) (Eo rfl (AO (Ap 5 Ci.nd) (AO (Ap 6 Ci.nd) Bw))))
    (AI (AR (AH A5 (hr.mono (by decide)) rfl (AA (AB 4) (AA (AX G7 (AB 6) (AB 5)) (AA (AK Ag (AB 2) (AK Ag (AB 3) AE)) (AA (AB 5) AD))))))))
theorem BR : AQ ["deed", "shares", "partner", "other", "sold", "passed", "changed"] ["deed", "shares"] (AG s_p_sold_shares) := ⟨rfl, rfl, rfl, by decide +kernel, rfl, by decide +kernel, by decide +kernel⟩
theorem B9  (S : St.Src K mg "sold_shares" s_p_sold_shares) (B : Bts mg) (EK : KS P w K mg base) (Gx : L9 P w K mg base) (DF : IM P w K mg base) : FK P w K mg base := by
 refine Af (k := 3) S BR rfl (fun f fd F => F.binds fun _ _ _ _ _ _ us hl => match us, hl with | [_, _], _ => rfl) fun f cdv A outer s H E hr => ?_
 have hu := AS hr
 exact (AF (FO (Ih (AB 0) AE) (Eo rfl (AO (Ap 2 BR.nd) (AO (Ap 3 BR.nd) (AO (Ap 4 BR.nd) Bw)))))
    (AF (An 5 (AH DF (hr.mono (by decide)) rfl (AA (AK Ag (AB 1) (AB 2)) (AA (AB 4) AD))) BR.nd)
    (AF (An 6 (CP Ji rfl B.list boot_list (AA (AB 1) AD)) BR.nd)
    (AF (Fo (AH Gx (hr.mono (by decide)) rfl (AA (AK Ag (AB 1) (AB 2)) (AA (AB 5) AD))) (AB 6) (AB 2))
    (AF (Fo (AH EK (hr.mono (by decide)) rfl (AA (AK Ag (AB 1) (AB 3)) (AA (AB 5) AD))) (AB 6) (AB 3))
    (AI (AR (CP CY rfl B.tuple boot_tuple (AA (AB 6) AD)))))))))
theorem Gb : AQ ["train", "held", "owners", "deed", "shares"] ["train", "held", "owners", "deed", "shares"] (AG s_p_shares_behind) := ⟨rfl, rfl, rfl, by decide +kernel, rfl, by decide +kernel, by decide +kernel⟩
theorem Av  (S : St.Src K mg "shares_behind" s_p_shares_behind) (Bi : Ef P w K mg base) (B9 : FK P w K mg base) : C1 P w K mg base := by
 refine Af (k := 5) S Gb rfl (fun f fd F => F.binds fun _ _ _ _ _ _ us hl => match us, hl with | [_, _, _, _, _], _ => rfl) fun f cdv A outer s H E hr => ?_
 have hu := AS hr
 exact (AF (Ck (BH (Ds hu) (AK Ag (AB 3) AE) Ca) (AI (AR (AH Bi (hr.mono (by decide)) rfl (AA (AB 0) (AA (AB 1) (AA (AB 2) (AA (AB 3) (AA (AB 4) AD)))))))) Az)
    (AF (Ck (BH (Ds hu) (AK Ag (AB 3) AE) Ca) (AI (AR (AH B9 (hr.mono (by decide)) rfl (AA (AB 3) (AA (AB 4) AD))))) Az)
    (AI (AR (AB 4)))))
end Mi
end
section
namespace Mi
open PySem PySem.Spec L2
open PyProof.Rows (boot_isinstance boot_int boot_bool boot_tuple boot_str boot_list boot_abs boot_all boot_any boot_sum boot_max boot_min boot_range boot_enumerate boot_zip boot_sorted boot_set boot_divmod)
variable {P : Program} {w : World} {K : PySem.W.Frag} {mg : Str -> Option Value} {base : Heap}
theorem EG : AQ ["train", "held", "owners", "deed", "behind"] ["train", "held", "owners", "deed"] (AG s_p_owners_behind) := ⟨rfl, rfl, rfl, by decide +kernel, rfl, by decide +kernel, by decide +kernel⟩
theorem F0 : Ab ["train", "held", "owners", "deed", "behind"] (AG s_p_owners_behind) ["train", "held", "owners", "deed", "shares"] (ixC [0, 1, 2, 3] 1) (Jn s_p_owners_behind 0) := ⟨rfl, by decide +kernel, by decide +kernel, by decide +kernel, by decide +kernel⟩
theorem Fz : (["train", "held", "owners", "deed", "shares"] : List Str).Nodup := by decide +kernel
theorem Bj  (S : St.Src K mg "owners_behind" s_p_owners_behind) (c_MAKERS : Nf K mg "MAKERS" CW) (CO : GD P w K mg base) (CA : Fh P w K mg base) (Av : C1 P w K mg base) : ET P w K mg base := by
 refine Af (k := 6) S EG rfl (fun f fd F => F.binds fun _ _ _ _ _ _ us hl => match us, hl with | [_, _, _, _], _ => rfl) fun f cdv A outer s H E hr => ?_
 have hu := AS hr
 exact (AF (HN [0, 1, 2, 3] 1 ["train", "held", "owners", "deed", "shares"] rfl EG.nd rfl rfl F0 (Ec (AB 2)) (fun s H fp => ⟨(Ap 4 Fz), B2, (AH Av (hr.mono (by decide)) rfl (AA (AB 0) (AA (AB 1) (AA (AB 2) (AA (AB 3) (AA (AB 4) AD))))))⟩))
    (AF (Ck (BH (Ds hu) (AK Ag (AB 3) AE) Ca) (AI (AR (AX Al (AB 4) (DJ (AA (AH CO (hr.mono (by decide)) rfl (AA (AK Ag (AB 0) AE) (AA (AK Ag (AB 3) AE) AD))) AD))))) Az)
    (AF (Ck (BH LK (AK Ag (AB 3) AE) (KN c_MAKERS rfl)) (AI (AR (AX Al (AB 4) (DJ (AA (AH CA (hr.mono (by decide)) rfl (AA (AB 1) (AA (AB 2) (AA (AB 3) AD)))) AD))))) Az)
    (AI (AR (AB 4))))))
theorem Ay : AQ ["book", "many", "train", "first", "deeds", "held", "owners", "holders", "deed"] ["book", "many"] (AG s_p_state_by) := ⟨rfl, rfl, rfl, by decide +kernel, rfl, by decide +kernel, by decide +kernel⟩
theorem JA : Ab ["book", "many", "train", "first", "deeds", "held", "owners", "holders", "deed"] (AG s_p_state_by) ["load"] (ixC [] 1) (Jn s_p_state_by 0) := ⟨rfl, by decide +kernel, by decide +kernel, by decide +kernel, by decide +kernel⟩
theorem JD : (["load"] : List Str).Nodup := by decide +kernel
theorem Bs  (S : St.Src K mg "state_by" s_p_state_by) (A9 : Dw P w K mg base) (Aw : Cy P w K mg base) (Av : C1 P w K mg base) (Bj : ET P w K mg base) : Fe P w K mg base := by
 refine Af (k := 7) S Ay rfl (fun f fd F => F.binds fun _ _ _ _ _ _ us hl => match us, hl with | [_, _], _ => rfl) fun f cdv A outer s H E hr => ?_
 have hu := AS hr
 exact (AF (FO (AB 0) (Eo rfl (AO (Ap 2 Ay.nd) (AO (Ap 3 Ay.nd) (AO (Ap 4 Ay.nd) Bw)))))
    (AF (An 5 (AH Aw (hr.mono (by decide)) rfl (AA (AB 0) AD)) Ay.nd)
    (AF (HN [] 1 ["load"] rfl Ay.nd rfl rfl JA (Ec (AB 3)) (fun s H fp => ⟨(Ap 0 JD), B2, (AK Ag (AB 0) AE)⟩))
    (AF (An 7 (AK Ag (AB 2) AE) Ay.nd)
    (AF (Hn PassesOwn.never rfl (Ec (HR (AB 4) (AB 1))) (Ap 8 Ay.nd) (AF (An 7 (AH Av (hr.mono (by decide)) rfl (AA (AB 2) (AA (AB 5) (AA (AB 6) (AA (AB 8) (AA (AB 7) AD)))))) Ay.nd)
    (AF (An 6 (AH Bj (hr.mono (by decide)) rfl (AA (AB 2) (AA (AB 5) (AA (AB 6) (AA (AB 8) AD))))) Ay.nd)
    (AI (An 5 (AH A9 (hr.mono (by decide)) rfl (AA (AB 5) (AA (AB 8) AD))) Ay.nd)))))
    (AI (AR (Bx (AA (AB 5) (AA (AB 6) (AA (AB 7) AD)))))))))))
theorem BU : AQ ["kinds", "held", "shares", "sums", "share", "kind", "pieces"] ["kinds", "held", "shares"] (AG s_p_sums_by_kinds) := ⟨rfl, rfl, rfl, by decide +kernel, rfl, by decide +kernel, by decide +kernel⟩
theorem Bk  (S : St.Src K mg "sums_by_kinds" s_p_sums_by_kinds) (B : Bts mg) (c_NOTHING : Nf K mg "NOTHING" Cq) (EK : KS P w K mg base) (DF : IM P w K mg base) : EX P w K mg base := by
 refine Af (k := 3) S BU rfl (fun f fd F => F.binds fun _ _ _ _ _ _ us hl => match us, hl with | [_, _, _], _ => rfl) fun f cdv A outer s H E hr => ?_
 have hu := AS hr
 exact (AF (An 3 (AX Ac (DJ (AA (KN c_NOTHING rfl) AD)) (AB 0)) BU.nd)
    (AF (Hn PassesOwn.never rfl (OX rfl B.zip (AB 1) (AB 2)) (Eo rfl (AO (Eo rfl (AO (Ap 5 BU.nd) (AO (Ap 6 BU.nd) Bw))) (AO (Ap 4 BU.nd) Bw))) (AI (Fo (AH EK (hr.mono (by decide)) rfl (AA (AK Ag (AB 3) (AB 5)) (AA (AH DF (hr.mono (by decide)) rfl (AA (Bx (AA (AB 6) (AA AE AD))) (AA (AB 4) AD))) AD))) (AB 3) (AB 5))))
    (AI (AR (CP CY rfl B.tuple boot_tuple (AA (AB 3) AD))))))
theorem BQ : AQ ["book", "many", "partners", "kinds", "held", "owners", "holders"] ["book", "many"] (AG s_p_theirs_told) := ⟨rfl, rfl, rfl, by decide +kernel, rfl, by decide +kernel, by decide +kernel⟩
theorem Gs : Ab ["book", "many", "partners", "kinds", "held", "owners", "holders"] (AG s_p_theirs_told) ["kinds", "held", "owners", "partner"] (ixC [3, 4, 5] 1) (Jn s_p_theirs_told 0) := ⟨rfl, by decide +kernel, by decide +kernel, by decide +kernel, by decide +kernel⟩
theorem Ge : (["kinds", "held", "owners", "partner"] : List Str).Nodup := by decide +kernel
theorem Gf : Ab ["kinds", "held", "owners", "partner"] (Xo (Jn s_p_theirs_told 0) (AG s_p_theirs_told)) ["partner", "shares"] (ixC [3] 1) (Jn s_p_theirs_told 1) := ⟨rfl, by decide +kernel, by decide +kernel, by decide +kernel, by decide +kernel⟩
theorem Gk : (["partner", "shares"] : List Str).Nodup := by decide +kernel
theorem B8  (S : St.Src K mg "theirs_told" s_p_theirs_told) (B : Bts mg) (Bs : Fe P w K mg base) (Bk : EX P w K mg base) : Fg P w K mg base := by
 refine Af (k := 8) S BQ rfl (fun f fd F => F.binds fun _ _ _ _ _ _ us hl => match us, hl with | [_, _], _ => rfl) fun f cdv A outer s H E hr => ?_
 have hu := AS hr
 exact (AF (FO (HR (AK Ag (AB 0) AE) AE) (Eo rfl (AO (Ap 2 BQ.nd) (AO (Ap 3 BQ.nd) Bw))))
    (AF (FO (AH Bs (hr.mono (by decide)) rfl (AA (AB 0) (AA (AB 1) AD))) (Eo rfl (AO (Ap 4 BQ.nd) (AO (Ap 5 BQ.nd) (AO (Ap 6 BQ.nd) Bw)))))
    (AI (AR (CK [3, 4, 5] 1 ["kinds", "held", "owners", "partner"] rfl Gs (Ek rfl B.range (AA (AB 2) AD)) (fun s H fp => ⟨(Ap 3 Ge), B2, (AH Bk (hr.mono (by decide)) rfl (AA (AB 0) (AA (AB 1) (AA (CK [3] 1 ["partner", "shares"] rfl Gf (Ec (AB 2)) (fun s H fp => ⟨(Ap 1 Gk), B2, (AK Ag (AB 1) (AB 0))⟩)) AD))))⟩))))))
theorem Di : AQ ["book", "many", "held", "owners", "holders"] ["book", "many"] (AG s_p_loads_by) := ⟨rfl, rfl, rfl, by decide +kernel, rfl, by decide +kernel, by decide +kernel⟩
theorem IG : Ab ["book", "many", "held", "owners", "holders"] (AG s_p_loads_by) ["shares", "kind", "pieces"] (ixC [] 3) (Jn s_p_loads_by 0) := ⟨rfl, by decide +kernel, by decide +kernel, by decide +kernel, by decide +kernel⟩
theorem Dx : (["shares", "kind", "pieces"] : List Str).Nodup := by decide +kernel
theorem B3  (S : St.Src K mg "loads_by" s_p_loads_by) (B : Bts mg) (As : C4 P w K mg base) (Ae : CJ P w K mg base) (Bs : Fe P w K mg base) : HZ P w K mg base := by
 refine Af (k := 8) S Di rfl (fun f fd F => F.binds fun _ _ _ _ _ _ us hl => match us, hl with | [_, _], _ => rfl) fun f cdv A outer s H E hr => ?_
 have hu := AS hr
 exact (AF (GO (AH As (hr.mono (by decide)) rfl (AA (AB 0) AD)))
    (AF (GO (AH Ae (hr.mono (by decide)) rfl (AA (AB 0) (AA (AB 1) AD))))
    (AF (FO (AH Bs (hr.mono (by decide)) rfl (AA (AB 0) (AA (AB 1) AD))) (Eo rfl (AO (Ap 2 Di.nd) (AO (Ap 3 Di.nd) (AO (Ap 4 Di.nd) Bw)))))
    (AI (AR (CK [] 3 ["shares", "kind", "pieces"] rfl IG (OX rfl B.zip (AB 2) (AB 3)) (fun s H fp => ⟨(Eo rfl (AO (Eo rfl (AO (Ap 1 Dx) (AO (Ap 2 Dx) Bw))) (AO (Ap 0 Dx) Bw))), B2, (Bx (AA (AB 1) (AA (AB 2) (AA (AB 0) AD))))⟩)))))))
theorem JH : AQ ["book", "many", "partner"] ["book", "many", "partner"] (AG s_p_theirs_by) := ⟨rfl, rfl, rfl, by decide +kernel, rfl, by decide +kernel, by decide +kernel⟩
theorem Cn  (S : St.Src K mg "theirs_by" s_p_theirs_by) (As : C4 P w K mg base) (Ae : CJ P w K mg base) (BE : DK P w K mg base) (B8 : Fg P w K mg base) : Gn P w K mg base := by
 refine Af (k := 9) S JH rfl (fun f fd F => F.binds fun _ _ _ _ _ _ us hl => match us, hl with | [_, _, _], _ => rfl) fun f cdv A outer s H E hr => ?_
 have hu := AS hr
 exact (AF (GO (AH As (hr.mono (by decide)) rfl (AA (AB 0) AD)))
    (AF (GO (AH Ae (hr.mono (by decide)) rfl (AA (AB 0) (AA (AB 1) AD))))
    (AF (GO (AH BE (hr.mono (by decide)) rfl (AA (AB 0) (AA (AB 2) AD))))
    (AI (AR (AK Ag (AH B8 (hr.mono (by decide)) rfl (AA (AB 0) (AA (AB 1) AD))) (AB 2)))))))
end Mi
end
section
namespace Mi
open PySem PySem.Spec L2
open PyProof.Rows (boot_isinstance boot_int boot_bool boot_tuple boot_str boot_list boot_abs boot_all boot_any boot_sum boot_max boot_min boot_range boot_enumerate boot_zip boot_sorted boot_set boot_divmod)
variable {P : Program} {w : World} {K : PySem.W.Frag} {mg : Str -> Option Value} {base : Heap}
theorem JM : AQ ["_law_script", "_law_k"] ["_law_script", "_law_k"] (AG s_law_cell_at) := ⟨rfl, rfl, rfl, by decide +kernel, rfl, by decide +kernel, by decide +kernel⟩
theorem Cg  (S : St.Src K mg "_law_cell_at" s_law_cell_at) (B : Bts mg) : GX P w K mg base := by
 refine Af (k := 0) S JM rfl (fun f fd F => F.binds fun _ _ _ _ _ _ us hl => match us, hl with | [_, _], _ => rfl) fun f cdv A outer s H E hr => ?_
 have hu := AS hr
 exact (AF (Ck (BH Rt (AB 1) (Aq B0 rfl B.len boot_len (AA (AB 0) AD))) (AI (AR (AK Ag (AB 0) (AB 1)))) Az)
    (AI (AR AE)))
theorem Mn : AQ ["_law_cell"] ["_law_cell"] (AG s_law_pen) := ⟨rfl, rfl, rfl, by decide +kernel, rfl, by decide +kernel, by decide +kernel⟩
theorem Ff  (S : St.Src K mg "_law_pen" s_law_pen) (B : Bts mg) : LB P w K mg base := by
 refine Af (k := 0) S Mn rfl (fun f fd F => F.binds fun _ _ _ _ _ _ us hl => match us, hl with | [_], _ => rfl) fun f cdv A outer s H E hr => ?_
 have hu := AS hr
 exact (AI (AR (DJ (AA (AB 0) (AA (CP OD rfl B.int boot_int (AA (HV PX (AB 0) (AX OW AE AE)) AD)) (AA AE (AA (AX Ey (AB 0) AE) AD)))))))
theorem Er : AQ ["_law_pen_here", "_law_bound", "_law_found", "_law_stir"] ["_law_pen_here", "_law_bound"] (AG s_law_draw) := ⟨rfl, rfl, rfl, by decide +kernel, rfl, by decide +kernel, by decide +kernel⟩
theorem AM  (S : St.Src K mg "_law_draw" s_law_draw) : Dq P w K mg base := by
 refine Af (k := 0) S Er rfl (fun f fd F => F.binds fun _ _ _ _ _ _ us hl => match us, hl with | [_, _], _ => rfl) fun f cdv A outer s H E hr => ?_
 have hu := AS hr
 exact (AF (Ck (DW.dt (U3 (BH (Ds hu) (AK Ag (AB 0) AE) AE) (TN (BH OY (AK Ag (AB 0) AE) AE)))) (AF (An 2 (AX Ey (AK Ag (AB 0) AE) (AB 1)) Er.nd)
    (AF (Fo (AX E5 (AK Ag (AB 0) AE) (AB 1)) (AB 0) AE)
    (AI (AR (AB 2))))) Az)
    (AF (Fo (AX Al (AK Ag (AB 0) AE) AE) (AB 0) AE)
    (AF (An 3 (AX Ey (AX Ac (AX Al (AK Ag (AB 0) AE) AE) (AX Al AE (AX Ac AE (AK Ag (AB 0) AE)))) AE) Er.nd)
    (AF (An 3 (AX Ey (AX Al (AX Al (AX Ac (AB 3) (AB 3)) (AX Ac AE (AK Ag (AB 0) AE))) AE) AE) Er.nd)
    (AI (AR (AX Ey (AX E5 (AX Ey (AX Ac (AB 3) AE) AE) AE) (AB 1))))))))
theorem GY : AQ ["_law_one", "_law_other"] ["_law_one", "_law_other"] (AG s_law_common) := ⟨rfl, rfl, rfl, by decide +kernel, rfl, by decide +kernel, by decide +kernel⟩
theorem DO  (S : St.Src K mg "_law_common" s_law_common) : HX P w K mg base := by
 refine Af (k := 0) S GY rfl (fun f fd F => F.binds fun _ _ _ _ _ _ us hl => match us, hl with | [_, _], _ => rfl) fun f cdv A outer s H E hr => ?_
 have hu := AS hr
 exact (AF (MG (M8 1) PassesOwn.never (BH OY (AB 1) AE) (AI (K4 (i := 0) (j := 1) rfl GY.nd rfl rfl (by decide) rfl rfl (AB 1) (AX Ey (AB 0) (AB 1)))))
    (AI (AR (AB 0))))
theorem IC : AQ ["_law_top", "_law_bottom", "_law_by"] ["_law_top", "_law_bottom"] (AG s_law_made) := ⟨rfl, rfl, rfl, by decide +kernel, rfl, by decide +kernel, by decide +kernel⟩
theorem Be  (S : St.Src K mg "_law_made" s_law_made) (B : Bts mg) (DO : HX P w K mg base) : Fq P w K mg base := by
 refine Af (k := 1) S IC rfl (fun f fd F => F.binds fun _ _ _ _ _ _ us hl => match us, hl with | [_, _], _ => rfl) fun f cdv A outer s H E hr => ?_
 have hu := AS hr
 exact (AF (An 2 (AH DO (hr.mono (by decide)) rfl (AA (Aq Ie rfl B.abs boot_abs (AA (AB 0) AD)) (AA (AB 1) AD))) IC.nd)
    (AI (AR (Bx (AA (AX E5 (AB 0) (AB 2)) (AA (AX E5 (AB 1) (AB 2)) AD))))))
theorem Lp : AQ ["_law_one", "_law_other"] ["_law_one", "_law_other"] (AG s_law_plus) := ⟨rfl, rfl, rfl, by decide +kernel, rfl, by decide +kernel, by decide +kernel⟩
theorem Eh  (S : St.Src K mg "_law_plus" s_law_plus) (Be : Fq P w K mg base) : Je P w K mg base := by
 refine Af (k := 2) S Lp rfl (fun f fd F => F.binds fun _ _ _ _ _ _ us hl => match us, hl with | [_, _], _ => rfl) fun f cdv A outer s H E hr => ?_
 have hu := AS hr
 exact (AI (AR (AH Be (hr.mono (by decide)) rfl (AA (AX Al (AX Ac (AK Ag (AB 0) AE) (AK Ag (AB 1) AE)) (AX Ac (AK Ag (AB 1) AE) (AK Ag (AB 0) AE))) (AA (AX Ac (AK Ag (AB 0) AE) (AK Ag (AB 1) AE)) AD)))))
end Mi
end
section
namespace Mi
open PySem PySem.Spec L2
open PyProof.Rows (boot_isinstance boot_int boot_bool boot_tuple boot_str boot_list boot_abs boot_all boot_any boot_sum boot_max boot_min boot_range boot_enumerate boot_zip boot_sorted boot_set boot_divmod)
variable {P : Program} {w : World} {K : PySem.W.Frag} {mg : Str -> Option Value} {base : Heap}
theorem Km : AQ ["_law_one", "_law_other"] ["_law_one", "_law_other"] (AG s_law_times) := ⟨rfl, rfl, rfl, by decide +kernel, rfl, by decide +kernel, by decide +kernel⟩
theorem Cz  (S : St.Src K mg "_law_times" s_law_times) (Be : Fq P w K mg base) : JE P w K mg base := by
 refine Af (k := 2) S Km rfl (fun f fd F => F.binds fun _ _ _ _ _ _ us hl => match us, hl with | [_, _], _ => rfl) fun f cdv A outer s H E hr => ?_
 have hu := AS hr
 exact (AI (AR (AH Be (hr.mono (by decide)) rfl (AA (AX Ac (AK Ag (AB 0) AE) (AK Ag (AB 1) AE)) (AA (AX Ac (AK Ag (AB 0) AE) (AK Ag (AB 1) AE)) AD)))))
theorem Fv : AQ ["_law_some", "_law_found", "_law_one"] ["_law_some"] (AG s_law_sum) := ⟨rfl, rfl, rfl, by decide +kernel, rfl, by decide +kernel, by decide +kernel⟩
theorem FJ  (S : St.Src K mg "_law_sum" s_law_sum) (Eh : Je P w K mg base) : Ku P w K mg base := by
 refine Af (k := 3) S Fv rfl (fun f fd F => F.binds fun _ _ _ _ _ _ us hl => match us, hl with | [_], _ => rfl) fun f cdv A outer s H E hr => ?_
 have hu := AS hr
 exact (AF (An 1 (Bx (AA AE (AA AE AD))) Fv.nd)
    (AF (Hn PassesOwn.never rfl (Ec (AB 0)) (Ap 2 Fv.nd) (AI (An 1 (AH Eh (hr.mono (by decide)) rfl (AA (AB 1) (AA (AB 2) AD))) Fv.nd)))
    (AI (AR (AB 1)))))
theorem HY : AQ ["_law_pen_here", "_law_many", "_law_weights"] ["_law_pen_here", "_law_many"] (AG s_law_whole) := ⟨rfl, rfl, rfl, by decide +kernel, rfl, by decide +kernel, by decide +kernel⟩
theorem JN : Ab ["_law_pen_here", "_law_many", "_law_weights"] (AG s_law_whole) ["_law_pen_here", "_law_one"] (ixC [0] 1) (Jn s_law_whole 0) := ⟨rfl, by decide +kernel, by decide +kernel, by decide +kernel, by decide +kernel⟩
theorem JL : (["_law_pen_here", "_law_one"] : List Str).Nodup := by decide +kernel
theorem JP : Ab ["_law_pen_here", "_law_many", "_law_weights"] (AG s_law_whole) ["_law_weights", "_law_weight"] (ixC [2] 1) (Jn s_law_whole 1) := ⟨rfl, by decide +kernel, by decide +kernel, by decide +kernel, by decide +kernel⟩
theorem JJ : (["_law_weights", "_law_weight"] : List Str).Nodup := by decide +kernel
theorem B7  (S : St.Src K mg "_law_whole" s_law_whole) (B : Bts mg) (AM : Dq P w K mg base) (Be : Fq P w K mg base) : GJ P w K mg base := by
 refine Af (k := 2) S HY rfl (fun f fd F => F.binds fun _ _ _ _ _ _ us hl => match us, hl with | [_, _], _ => rfl) fun f cdv A outer s H E hr => ?_
 have hu := AS hr
 exact (AF (An 2 (CK [0] 1 ["_law_pen_here", "_law_one"] rfl JN (Ek rfl B.range (AA (AB 1) AD)) (fun s H fp => ⟨(Ap 1 JL), B2, (AK Ag (DJ (AA AE (AA AE (AA (AH AM (hr.mono (by decide)) rfl (AA (AB 0) (AA AE AD))) (AA (AH AM (hr.mono (by decide)) rfl (AA (AB 0) (AA AE AD))) AD))))) (AH AM (hr.mono (by decide)) rfl (AA (AB 0) (AA AE AD))))⟩)) HY.nd)
    (AF (Ck (BH (Ds hu) (Aq (Ga rfl) rfl B.sum boot_sum (AA (AB 2) AD)) AE) (AI (Fo AE (AB 2) (AH AM (hr.mono (by decide)) rfl (AA (AB 0) (AA (AB 1) AD))))) Az)
    (AI (AR (CP CY rfl B.tuple boot_tuple (AA (CK [2] 1 ["_law_weights", "_law_weight"] rfl JP (Ec (AB 2)) (fun s H fp => ⟨(Ap 1 JJ), B2, (AH Be (hr.mono (by decide)) rfl (AA (AB 1) (AA (Aq (Ga rfl) rfl B.sum boot_sum (AA (AB 0) AD)) AD)))⟩)) AD))))))
theorem Gu : AQ ["_law_pen_here", "_law_great"] ["_law_pen_here"] (AG s_law_pieces) := ⟨rfl, rfl, rfl, by decide +kernel, rfl, by decide +kernel, by decide +kernel⟩
theorem DC  (S : St.Src K mg "_law_pieces" s_law_pieces) (AM : Dq P w K mg base) : Hf P w K mg base := by
 refine Af (k := 1) S Gu rfl (fun f fd F => F.binds fun _ _ _ _ _ _ us hl => match us, hl with | [_], _ => rfl) fun f cdv A outer s H E hr => ?_
 have hu := AS hr
 exact (AF (An 1 (AX Al (AX OW AE AE) (AH AM (hr.mono (by decide)) rfl (AA (AB 0) (AA AE AD)))) Gu.nd)
    (AI (AR (AK Ag (DJ (AA (AX Al AE (AH AM (hr.mono (by decide)) rfl (AA (AB 0) (AA AE AD)))) (AA (AX Al AE (AH AM (hr.mono (by decide)) rfl (AA (AB 0) (AA AE AD)))) (AA (AX Al AE (AH AM (hr.mono (by decide)) rfl (AA (AB 0) (AA AE AD)))) (AA (AB 1) AD))))) (AX E5 (AH AM (hr.mono (by decide)) rfl (AA (AB 0) (AA AE AD))) AE)))))
theorem Fi : AQ ["_law_pen_here", "_law_partners", "_law_kinds", "_law_beasts"] ["_law_pen_here"] (AG s_law_train) := ⟨rfl, rfl, rfl, by decide +kernel, rfl, by decide +kernel, by decide +kernel⟩
theorem D5  (S : St.Src K mg "_law_train" s_law_train) (AM : Dq P w K mg base) (B7 : GJ P w K mg base) : IS P w K mg base := by
 refine Af (k := 3) S Fi rfl (fun f fd F => F.binds fun _ _ _ _ _ _ us hl => match us, hl with | [_], _ => rfl) fun f cdv A outer s H E hr => ?_
 have hu := AS hr
 exact (AF (K4 (i := 1) (j := 2) rfl Fi.nd rfl rfl (by decide) rfl rfl (AX Al AE (AH AM (hr.mono (by decide)) rfl (AA (AB 0) (AA AE AD)))) (AX Al AE (AH AM (hr.mono (by decide)) rfl (AA (AB 0) (AA AE AD)))))
    (AF (An 3 (AK Ag (DJ (AA (AX Al AE (AH AM (hr.mono (by decide)) rfl (AA (AB 0) (AA AE AD)))) (AA (AX Al AE (AH AM (hr.mono (by decide)) rfl (AA (AB 0) (AA AE AD)))) AD))) (AH AM (hr.mono (by decide)) rfl (AA (AB 0) (AA AE AD)))) Fi.nd)
    (AI (AR (Bx (AA (AB 1) (AA (AB 2) (AA (AB 3) (AA (AH B7 (hr.mono (by decide)) rfl (AA (AB 0) (AA (AB 1) AD))) (AA (AH AM (hr.mono (by decide)) rfl (AA (AB 0) (AA AE AD))) (AA (AH AM (hr.mono (by decide)) rfl (AA (AB 0) (AA AE AD))) AD)))))))))))
theorem Hk : AQ ["_law_pen_here", "_law_some", "_law_left"] ["_law_pen_here", "_law_some"] (AG s_law_mixed) := ⟨rfl, rfl, rfl, by decide +kernel, rfl, by decide +kernel, by decide +kernel⟩
theorem JU : Ab ["_law_pen_here", "_law_some", "_law_left"] (AG s_law_mixed) ["_law_pen_here", "_law_left", "_law_k"] (ixC [0, 2] 1) (Jn s_law_mixed 0) := ⟨rfl, by decide +kernel, by decide +kernel, by decide +kernel, by decide +kernel⟩
theorem JG : (["_law_pen_here", "_law_left", "_law_k"] : List Str).Nodup := by decide +kernel
theorem EA  (S : St.Src K mg "_law_mixed" s_law_mixed) (B : Bts mg) (AM : Dq P w K mg base) : Ir P w K mg base := by
 refine Af (k := 1) S Hk rfl (fun f fd F => F.binds fun _ _ _ _ _ _ us hl => match us, hl with | [_, _], _ => rfl) fun f cdv A outer s H E hr => ?_
 have hu := AS hr
 exact (AF (An 2 (CP Ji rfl B.list boot_list (AA (AB 1) AD)) Hk.nd)
    (AI (AR (CK [0, 2] 1 ["_law_pen_here", "_law_left", "_law_k"] rfl JU (Ek rfl B.range (AA (Aq B0 rfl B.len boot_len (AA (AB 2) AD)) AD)) (fun s H fp => ⟨(Ap 2 JG), B2, (Nn PySem.F.slot_list_pop PySem.F.type_list_pop TX (AB 1) (AA (AH AM (hr.mono (by decide)) rfl (AA (AB 0) (AA (Aq B0 rfl B.len boot_len (AA (AB 1) AD)) AD))) AD))⟩)))))
end Mi
end
section
namespace Mi
open PySem PySem.Spec L2
open PyProof.Rows (boot_isinstance boot_int boot_bool boot_tuple boot_str boot_list boot_abs boot_all boot_any boot_sum boot_max boot_min boot_range boot_enumerate boot_zip boot_sorted boot_set boot_divmod)
variable {P : Program} {w : World} {K : PySem.W.Frag} {mg : Str -> Option Value} {base : Heap}
theorem DP : AQ ["_law_train_here", "_law_first_here", "_law_order", "_law_deeds", "_law_last", "_law_at", "_law_load"] ["_law_train_here", "_law_first_here", "_law_order"] (AG s_law_poolX) := ⟨rfl, rfl, rfl, by decide +kernel, rfl, by decide +kernel, by decide +kernel⟩
theorem Dv  (S : St.Src K mg "_law_pooled" s_law_poolX) (B : Bts mg) : Ig P w K mg base := by
 refine Af (k := 0) S DP rfl (fun f fd F => F.binds fun _ _ _ _ _ _ us hl => match us, hl with | [_, _, _], _ => rfl) fun f cdv A outer s H E hr => ?_
 have hu := AS hr
 exact (AF (K4 (i := 3) (j := 4) rfl DP.nd rfl rfl (by decide) rfl rfl (DJ AD) (AK Ag (AB 2) AE))
    (AF (Hn PassesOwn.never rfl (Rv rfl B.enumerate (Ih (AB 2) AE)) (Eo rfl (AO (Ap 5 DP.nd) (AO (Ap 6 DP.nd) Bw))) (AF (GO (Nn PySem.F.slot_list_append PySem.F.type_list_append Oi (AB 3) (AA (Bx (AA Ca (AA (AB 4) (AA (AB 6) AD)))) AD)))
    (AI (An 4 (AX Al (Aq B0 rfl B.len boot_len (AA (AB 1) AD)) (AB 5)) DP.nd))))
    (AI (AR (Bx (AA (AB 0) (AA (AB 1) (AA (CP CY rfl B.tuple boot_tuple (AA (AB 3) AD)) AD))))))))
theorem BW : AQ ["_law_script", "_law_k", "_law_pen_here", "_law_train_here", "_law_kind", "_law_first_here", "_law_pieces_here", "_law_due", "_law_partner", "_law_turn", "_law_book", "_law_many", "_law_load", "_law_last", "_law_some", "_law_swap", "_law_rows"] ["_law_script"] (AG s_p_law) := ⟨rfl, rfl, rfl, by decide +kernel, rfl, by decide +kernel, by decide +kernel⟩
theorem Na : Ab ["_law_script", "_law_k", "_law_pen_here", "_law_train_here", "_law_kind", "_law_first_here", "_law_pieces_here", "_law_due", "_law_partner", "_law_turn", "_law_book", "_law_many", "_law_load", "_law_last", "_law_some", "_law_swap", "_law_rows"] (AG s_p_law) ["_law_pen_here", "_law_train_here", "_law_kind", "_law_one"] (ixC [2, 3, 4] 1) (Jn s_p_law 0) := ⟨rfl, by decide +kernel, by decide +kernel, by decide +kernel, by decide +kernel⟩
theorem M4 : (["_law_pen_here", "_law_train_here", "_law_kind", "_law_one"] : List Str).Nodup := by decide +kernel
theorem Mz : Ab ["_law_script", "_law_k", "_law_pen_here", "_law_train_here", "_law_kind", "_law_first_here", "_law_pieces_here", "_law_due", "_law_partner", "_law_turn", "_law_book", "_law_many", "_law_load", "_law_last", "_law_some", "_law_swap", "_law_rows"] (AG s_p_law) ["_law_load"] (ixC [] 1) (Jn s_p_law 1) := ⟨rfl, by decide +kernel, by decide +kernel, by decide +kernel, by decide +kernel⟩
theorem Mp : (["_law_load"] : List Str).Nodup := by decide +kernel
theorem Mr : Ab ["_law_script", "_law_k", "_law_pen_here", "_law_train_here", "_law_kind", "_law_first_here", "_law_pieces_here", "_law_due", "_law_partner", "_law_turn", "_law_book", "_law_many", "_law_load", "_law_last", "_law_some", "_law_swap", "_law_rows"] (AG s_p_law) ["_law_partner", "_law_load"] (ixC [8] 1) (Jn s_p_law 2) := ⟨rfl, by decide +kernel, by decide +kernel, by decide +kernel, by decide +kernel⟩
theorem NF : (["_law_partner", "_law_load"] : List Str).Nodup := by decide +kernel
theorem NV : Ab ["_law_script", "_law_k", "_law_pen_here", "_law_train_here", "_law_kind", "_law_first_here", "_law_pieces_here", "_law_due", "_law_partner", "_law_turn", "_law_book", "_law_many", "_law_load", "_law_last", "_law_some", "_law_swap", "_law_rows"] (AG s_p_law) ["_law_pieces_here", "_law_share_here"] (ixC [6] 1) (Jn s_p_law 3) := ⟨rfl, by decide +kernel, by decide +kernel, by decide +kernel, by decide +kernel⟩
theorem NN : (["_law_pieces_here", "_law_share_here"] : List Str).Nodup := by decide +kernel
theorem Mt : Ab ["_law_script", "_law_k", "_law_pen_here", "_law_train_here", "_law_kind", "_law_first_here", "_law_pieces_here", "_law_due", "_law_partner", "_law_turn", "_law_book", "_law_many", "_law_load", "_law_last", "_law_some", "_law_swap", "_law_rows"] (AG s_p_law) ["_law_row"] (ixC [] 1) (Jn s_p_law 4) := ⟨rfl, by decide +kernel, by decide +kernel, by decide +kernel, by decide +kernel⟩
theorem NG : (["_law_row"] : List Str).Nodup := by decide +kernel
theorem Mu : Ab ["_law_script", "_law_k", "_law_pen_here", "_law_train_here", "_law_kind", "_law_first_here", "_law_pieces_here", "_law_due", "_law_partner", "_law_turn", "_law_book", "_law_many", "_law_load", "_law_last", "_law_some", "_law_swap", "_law_rows"] (AG s_p_law) ["_law_kind", "_law_book", "_law_many", "_law_partner"] (ixC [4, 10, 11] 1) (Jn s_p_law 5) := ⟨rfl, by decide +kernel, by decide +kernel, by decide +kernel, by decide +kernel⟩
theorem Mw : (["_law_kind", "_law_book", "_law_many", "_law_partner"] : List Str).Nodup := by decide +kernel
end Mi
end
section
namespace Mi
open PySem PySem.Spec L2
theorem nr {α : Sort _} {a b : α} (h : a = b) : a = b := h
@[simp high] theorem Cv {α β : Type} (a : α) (f : α -> Option β) : (some a).bind f = f a := Eq.mp (congrArg (fun z => z = f a) rfl) (Eq.refl (f a))
@[simp high] theorem Vj {α β : Type} (a : α) (f : α -> β) : (some a).map f = some (f a) := Eq.mp (congrArg (fun z => z = some (f a)) rfl) (Eq.refl (some (f a)))
section
variable {E : En} {S : Sto} {op : OpN} {f g c : Ev} {d : D} {i : Nat} {w : Wv} {a b e h r' : D} {r : List D} {fs : List Ev}
@[simp] theorem aB {o : Option D} {E : En} : at? (o :: E) 0 = o := nr rfl
@[simp] theorem aC {o : Option D} {E : En} {i : Nat} : at? (o :: E) (i + 1) = at? E i := nr rfl
@[simp] theorem Yt : eC d E S = some (d, S) := nr rfl
@[simp] theorem Yy : eV i E S = (at? E i).map fun d => (d, S) := nr rfl
@[simp] theorem TY : evs [] E S = some ([], S) := nr rfl
@[simp] theorem Gp : evs (f :: fs) E S = (f E S).bind fun r => (evs fs E r.2).map fun q => (r.1 :: q.1, q.2) := nr rfl
@[simp] theorem XH {cf : Bool} : MI cf op fs E S = (evs fs E S).bind fun r => (op (r.1.map (dr r.2))).bind fun w => fin cf w r.2 := nr rfl
@[simp] theorem Zi {cf : Bool} : fin cf (.val d) S = some (d, S) := by cases cf <;> rfl
@[simp] theorem ZR : fin false (.own r) S = some (.lst r, S) := nr rfl
@[simp] theorem Zz : fin true (.own r) S = some (.ref S.length, S ++ [.lst r]) := nr rfl
@[simp] theorem Ym : dr S .non = .val .non := nr rfl
@[simp] theorem Zp {b : Bool} : dr S (.bl b) = .val (.bl b) := nr rfl
@[simp] theorem ZA {i : Int} : dr S (.int i) = .val (.int i) := nr rfl
@[simp] theorem ZK {x : Str} : dr S (.str x) = .val (.str x) := nr rfl
@[simp] theorem Zd {x : String} : dr S (.ty x) = .val (.ty x) := nr rfl
@[simp] theorem ZI : dr S (.tup r) = .val (.tup r) := nr rfl
@[simp] theorem ZD : dr S (.lst r) = .val (.lst r) := nr rfl
@[simp] theorem Yi {ns : List Int} : dr S (.scr ns) = .val (.scr ns) := nr rfl
theorem Df {n : Nat} (h : S[n]? = some (.lst r)) : dr S (.ref n) = .own r := by
 show (match S[n]? with | some (.lst ds) => Wv.own ds | _ => .val (.ref n)) = _
 rw [h]
theorem C6 {n : Nat} (h : S[n]? = some (.lst r)) : FI S n = some r := by
 unfold FI
 rw [h]
@[simp] theorem Yr {f : Op1} : o1 f [w] = f w := nr rfl
@[simp] theorem Ys {f : Op2} {w' : Wv} : o2 f [w, w'] = f w w' := nr rfl
@[simp] theorem Y3 : fz (.val d) = d := nr rfl
@[simp] theorem Yx : fz (.own r) = .lst r := nr rfl
def XW (g : Ev) (E : En) (r : D × Sto) : Option (D × Sto) := match r.1 with | .bl true => g E r.2 | .bl false => some (.bl false, r.2) | _ => none
def orK (g : Ev) (E : En) (r : D × Sto) : Option (D × Sto) := match r.1 with | .bl false => g E r.2 | .bl true => some (.bl true, r.2) | _ => none
def ZH (r : D × Sto) : Option (D × Sto) := match r.1 with | .bl b => some (.bl (!b), r.2) | _ => none
def ifK (f g : Ev) (E : En) (r : D × Sto) : Option (D × Sto) := match r.1 with | .bl true => f E r.2 | .bl false => g E r.2 | _ => none
@[simp] theorem ZJ : XW g E (.bl true, S) = g E S := nr rfl
@[simp] theorem Y9 : XW g E (.bl false, S) = some (.bl false, S) := nr rfl
@[simp] theorem Zo : orK g E (.bl false, S) = g E S := nr rfl
@[simp] theorem Y4 {b : Bool} : ZH (.bl b, S) = some (.bl (!b), S) := nr rfl
@[simp] theorem Zx : ifK f g E (.bl true, S) = f E S := nr rfl
@[simp] theorem ZM : ifK f g E (.bl false, S) = g E S := nr rfl
@[simp] theorem WR : Nd f g E S = (f E S).bind (XW g E) := nr rfl
@[simp] theorem Xi : eOr f g E S = (f E S).bind (orK g E) := nr rfl
@[simp] theorem WJ : Ry f E S = (f E S).bind ZH := nr rfl
@[simp] theorem Xe : eIf c f g E S = (c E S).bind (ifK f g E) := nr rfl
@[simp] theorem W3 : D9 fs E S = (evs fs E S).bind fun r => if r.1.length ≤ sizeLine then some (.tup r.1, r.2) else none := nr rfl
@[simp] theorem W7 {cf : Bool} : RV cf fs E S = (evs fs E S).bind fun r => if r.1.length ≤ sizeLine then fin cf (.own r.1) r.2 else none := nr rfl
@[simp] theorem Um {F : Fn} : AJ F fs E S = (evs fs E S).bind fun r => F r.1 r.2 := nr rfl
def Yq (op : Mo) (fs : List Ev) (E : En) (r : D × Sto) : Option (D × Sto) := match r.1 with
 | .ref n => (FI r.2 n).bind fun _ => (evs fs E r.2).bind fun p => (FI p.2 n).bind fun ds => (op p.2 ds p.1).map fun q => (q.1, p.2.set n (.lst q.2))
 | _ => none
@[simp] theorem WN {op : Mo} {n : Nat} : Yq op fs E (.ref n, S) = (FI S n).bind fun _ => (evs fs E S).bind fun p => (FI p.2 n).bind fun ds => (op p.2 ds p.1).map fun q => (q.1, p.2.set n (.lst q.2)) := nr rfl
@[simp] theorem WH {op : Mo} : Md op f fs E S = (f E S).bind (Yq op fs E) := nr rfl
@[simp] theorem WT : Pl S r [d] = if r.length < sizeLine then some (.non, r ++ [d]) else none := nr rfl
variable {x y : Ex}
def Ww (y : Ex) (r : Fl × En × Sto) : Option (Fl × En × Sto) := match r.1 with | .nx => y r.2.1 r.2.2 | .ret w => some (.ret w, r.2)
def Xj (x y : Ex) (E : En) (r : D × Sto) : Option (Fl × En × Sto) := match r.1 with | .bl true => x E r.2 | .bl false => y E r.2 | _ => none
@[simp] theorem PJ : Ww y (.nx, E, S) = y E S := nr rfl
@[simp] theorem WY {w : D} : Ww y (.ret w, E, S) = some (.ret w, E, S) := nr rfl
@[simp] theorem ZF : Xj x y E (.bl true, S) = x E S := nr rfl
@[simp] theorem Yp : Xj x y E (.bl false, S) = y E S := nr rfl
@[simp] theorem L4 : Am x y E S = (x E S).bind (Ww y) := nr rfl
@[simp] theorem WK : Ep E S = some (.nx, E, S) := nr rfl
@[simp] theorem YK : xIf c x y E S = (c E S).bind (Xj x y E) := nr rfl
@[simp] theorem Wu : Bq f E S = (f E S).map fun r => (.ret r.1, E, r.2) := nr rfl
@[simp] theorem Wx : CB i f E S = (f E S).map fun r => (.nx, E.set i (some r.1), r.2) := nr rfl
@[simp] theorem V6 : Gj f E S = (f E S).map fun r => (.nx, E, r.2) := nr rfl
def Yl (d b : D) (E : En) (i : D × Sto) : Option (Fl × En × Sto) := match b, i.1 with
 | .ref n, .int j => (FI i.2 n).bind fun ds => (ixN ds.length j).map fun m => (.nx, E, i.2.set n (.lst (ds.set m d)))
 | _, _ => none
@[simp] theorem WW {n : Nat} {j : Int} : Yl d (.ref n) E (.int j, S) = (FI S n).bind fun ds => (ixN ds.length j).map fun m => (.nx, E, S.set n (.lst (ds.set m d))) := nr rfl
@[simp] theorem Wa {k o : Ev} : RO k f o E S = (k E S).bind fun r => (f E r.2).bind fun b => (o E b.2).bind (Yl r.1 b.1 E) := nr rfl
@[simp] theorem W6 {t : Tf} : ND t f E S = (f E S).bind fun r => (t r.1 E r.2).map fun E' => (.nx, E', r.2) := nr rfl
@[simp] theorem WS {i j : Nat} : Pf i j f g E S = (f E S).bind fun r => (g E r.2).map fun q => (.nx, (E.set i (some r.1)).set j (some q.1), q.2) := by
  unfold Pf
  rw [Gp]
  cases f E S with
  | none => rfl
  | some r =>
    rw [Cv, Cv, Gp]
    cases g E r.2 with
    | none => rfl
    | some q => rfl
@[simp] theorem Xb : tNm i d E S = some (E.set i (some d)) := nr rfl
@[simp] theorem Yb {ts : List Tf} {ds : List D} : tTp ts (.tup ds) E S = tMs ts ds E S := nr rfl
@[simp] theorem Xx {ts : List Tf} {ds : List D} : tTp ts (.lst ds) E S = tMs ts ds E S := nr rfl
@[simp] theorem XG : tMs [] [] E S = some E := nr rfl
@[simp] theorem Wy {t : Tf} {ts : List Tf} {ds : List D} : tMs (t :: ts) (d :: ds) E S = (t d E S).bind fun E1 => tMs ts ds E1 S := nr rfl
@[simp] theorem U1 {N : Nat} {ds : List D} : A8 (BC N x) ds S = (x (ds.map some ++ List.replicate (N - ds.length) none) S).map fun r => (flD r.1, r.2.2) := by rw [Nx]; rfl
@[simp] theorem Yh : flD .nx = .non := nr rfl
@[simp] theorem YI : flD (.ret d) = d := nr rfl
@[simp] theorem YC {i j : Int} : EE (.val (.int i)) (.val (.int j)) = some (.val (.int (i + j))) := nr rfl
@[simp] theorem XB {xs ys : List D} : EE (.val (.tup xs)) (.val (.tup ys)) = if xs.length + ys.length ≤ sizeLine then some (.val (.tup (xs ++ ys))) else none := nr rfl
@[simp] theorem Xm {xs ys : List D} : EE (.val (.lst xs)) (.val (.lst ys)) = if xs.length + ys.length ≤ sizeLine then some (.own (xs ++ ys)) else none := nr rfl
@[simp] theorem WL {i j : Int} : Bl (.val (.int i)) (.val (.int j)) = if Cp i j = true then some (.val (.int (i * j))) else none := nr rfl
@[simp] theorem Gh {k : Int} : Bl (.val (.lst r)) (.val (.int k)) = if (decide (k < 2 ^ 63) && decide (-(2 ^ 63) ≤ k) && decide (r.length * k.toNat ≤ sizeLine)) = true then some (.own (List.replicate k.toNat r).flatten) else none := nr rfl
@[simp] theorem Xz : asS (.own r) = some r := nr rfl
@[simp] theorem XX : asS (.val (.lst r)) = some r := nr rfl
@[simp] theorem YQ : asS (.val (.tup r)) = some r := nr rfl
@[simp] theorem Xy {ns : List Int} : asS (.val (.scr ns)) = some (ns.map .int) := nr rfl
@[simp] theorem Sk {j : Int} : wIx w (.val (.int j)) = (asS w).bind fun ds => (atI ds j).map .val := nr rfl
theorem CL {α : Type} {xs : List α} {n : Nat} {x : α} (h : xs[n]? = some x) : atI xs (n : Int) = some x := Sa h
theorem VQ {α : Type} {xs : List α} {i : Int} (h0 : 0 ≤ i) (h1 : i < xs.length) : atI xs i = some (xs[i.toNat]'(by omega)) := by
 have : atI xs ((i.toNat : Nat) : Int) = some (xs[i.toNat]'(by omega)) := CL (List.getElem?_eq_getElem (by omega))
 rwa [Int.toNat_of_nonneg h0] at this
@[simp] theorem Zv : atI (a :: r) 0 = some a := CL (n := 0) rfl
@[simp] theorem Zl : atI (a :: b :: r) 1 = some b := CL (n := 1) rfl
@[simp] theorem Zm : atI (a :: b :: e :: r) 2 = some e := CL (n := 2) rfl
@[simp] theorem Zs : atI (a :: b :: e :: h :: r) 3 = some h := CL (n := 3) rfl
@[simp] theorem Zq {k : D} : atI (a :: b :: e :: h :: k :: r) 4 = some k := CL (n := 4) rfl
theorem Jt {n k : Nat} (h : k < n) : ixN n (k : Int) = some k := by
 unfold ixN
 simp
 omega
theorem Ou {n : Nat} {i : Int} (h0 : 0 ≤ i) (h1 : i < n) : ixN n i = some i.toNat := by
 have := Jt (n := n) (k := i.toNat) (by omega)
 rwa [Int.toNat_of_nonneg h0] at this
@[simp] theorem Zu {n : Nat} : ixN (n + 1) 0 = some 0 := Ou (by decide) (by omega)
@[simp] theorem Za {n : Nat} : ixN (n + 3) 2 = some 2 := Ou (by decide) (by omega)
@[simp] theorem Y7 {i j : Int} : deq (.int i) (.int j) = (i == j) := nr rfl
@[simp] theorem YT {i j : Int} : Cu (.int i) (.int j) = true := nr rfl
@[simp] theorem XE {w' : Wv} : wEq w w' = if Cu (fz w) (fz w') = true then some (.val (.bl (deq (fz w) (fz w')))) else none := nr rfl
@[simp] theorem XI {w' : Wv} : wNe w w' = if Cu (fz w) (fz w') = true then some (.val (.bl (!deq (fz w) (fz w')))) else none := nr rfl
@[simp] theorem YZ {i j : Int} : wLt (.val (.int i)) (.val (.int j)) = some (.val (.bl (decide (i < j)))) := nr rfl
@[simp] theorem Xt {i j : Int} : wLe (.val (.int i)) (.val (.int j)) = some (.val (.bl (decide (i ≤ j)))) := nr rfl
@[simp] theorem Xu {i j : Int} : wGt (.val (.int i)) (.val (.int j)) = some (.val (.bl (decide (j < i)))) := nr rfl
@[simp] theorem Xr {i j : Int} : wGe (.val (.int i)) (.val (.int j)) = some (.val (.bl (decide (j ≤ i)))) := nr rfl
@[simp] theorem We {i j : Int} : P1 (.val (.int i)) (.val (.int j)) = some (.val (.int (i - j))) := nr rfl
@[simp] theorem Wi {i : Int} : Lx (.val (.int i)) = some (.val (.int (-i))) := nr rfl
@[simp] theorem Wz {i j : Int} : MO (.val (.int i)) (.val (.int j)) = (if 0 < j then some (.val (.int (i % j))) else none) := by
 show Option.map Wv.val (if 0 < j then some (D.int (i % j)) else none) = _
 split <;> rfl
@[simp] theorem VO {i j : Int} : Ju (.val (.int i)) (.val (.int j)) = (if (decide (0 < j) && decide (j.natAbs < EM)) = true then some (.val (.int (i / j))) else none) := by
 show Option.map Wv.val (if (decide (0 < j) && decide (j.natAbs < EM)) = true then some (D.int (i / j)) else none) = _
 split <;> rfl
@[simp] theorem Wn {i j : Int} : WI (.val (.int i)) (.val (.int j)) = if (decide (0 ≤ j) && decide (j ≤ 1000) && decide (i.natAbs < 2 ^ 64)) = true then some (.val (.int (i ^ j.toNat))) else none := by
 show Option.map Wv.val (if (decide (0 ≤ j) && decide (j ≤ 1000) && decide (i.natAbs < 2 ^ 64)) = true then some (D.int (i ^ j.toNat)) else none) = _
 split <;> rfl
@[simp] theorem WU {i : Int} : UM (.val (.int i)) = some (.val (.int (i.natAbs : Int))) := by
 show some (Wv.val (D.int (if i < 0 then -i else i))) = _
 congr 3
 split <;> omega
@[simp] theorem WC : GW (.own r) = some (.val (.int r.length)) := nr rfl
@[simp] theorem QF : GW (.val (.lst r)) = some (.val (.int r.length)) := nr rfl
@[simp] theorem WQ : GW (.val (.tup r)) = some (.val (.int r.length)) := nr rfl
@[simp] theorem Wo {ns : List Int} : GW (.val (.scr ns)) = some (.val (.int ns.length)) := by
 show some (Wv.val (D.int ((ns.map D.int).length : Nat))) = _
 rw [List.length_map]
@[simp] theorem UP : FY w = (asS w).map fun ds => .val (.tup ds) := nr rfl
@[simp] theorem VM : N8 w = (asS w).map fun ds => .own ds := nr rfl
@[simp] theorem ZC {b : Bool} : W4 (.val (.bl b)) = some (.val (.int (if b then 1 else 0))) := nr rfl
@[simp] theorem WD {i j : Int} : Wf (.val (.int i)) (.val (.int j)) = some (.val (.int (if j > i then j else i))) := nr rfl
@[simp] theorem Wh {i j : Int} : UN (.val (.int i)) (.val (.int j)) = some (.val (.int (if j < i then j else i))) := nr rfl
@[simp] theorem WA {T : String} : Uq w (.val (.ty T)) = if My T = true then (kdW w).map fun k => .val (.bl (k.isA T)) else none := nr rfl
@[simp] theorem Xd : My "int" = true := by decide
@[simp] theorem WX : My "bool" = true := by decide
theorem AV {n : Nat} (h : n ≤ 1000) : n ≤ sizeLine := Nat.le_trans h (by decide)
@[simp] theorem sz1 : (1 : Nat) ≤ sizeLine := AV (by decide)
@[simp] theorem sz2 : (2 : Nat) ≤ sizeLine := AV (by decide)
@[simp] theorem sz3 : (3 : Nat) ≤ sizeLine := AV (by decide)
@[simp] theorem sz4 : (4 : Nat) ≤ sizeLine := AV (by decide)
@[simp] theorem sz5 : (5 : Nat) ≤ sizeLine := AV (by decide)
@[simp] theorem sz6 : (6 : Nat) ≤ sizeLine := AV (by decide)
@[simp] theorem Ee : BM E S = some (.bl true, S) := nr rfl
@[simp] theorem Wt {s : Sr} {t : Tf} {b : Ex} : Kn s t b E S = (s E S).bind fun r => J3 r.1.2 t b r.1.1 E r.2 := nr rfl
@[simp] theorem Ah : gOk [] S := fun _ h => (nomatch h)
theorem J9 {gs : Gd} {t : Tf} {b : Ex} (h : gOk gs S) : J3 gs t b [] E S = some (.nx, E, S) := by
 unfold J3
 rw [if_pos h]
theorem Nl {gs : Gd} {t : Tf} {b : Ex} {ds : List D} (h : gOk gs S) : J3 gs t b (d :: ds) E S = (t d E S).bind fun E1 => (b E1 S).bind fun r => match r.1 with
  | .nx => J3 gs t b ds r.2.1 r.2.2
  | .ret w => some (.ret w, r.2) := by
 rw [J3, if_pos h]
 all_goals rfl
theorem HU {gs : Gd} {t : Tf} {b : Ex} {ds : List D} (h : gOk gs S) : J3 gs t b (d :: ds) E S = (t d E S).bind fun E1 => (b E1 S).bind (Ww (J3 gs t b ds)) := by
 rw [Nl h]
 rfl
@[simp] theorem WG : Im f E S = (f E S).bind fun r => (sqD r.2 r.1).map fun p => (p, r.2) := nr rfl
@[simp] theorem YB : sqD S (.tup r) = some (r, []) := nr rfl
@[simp] theorem X6 : sqD S (.lst r) = some (r, []) := nr rfl
theorem PM {n : Nat} (h : S[n]? = some (.lst r)) : sqD S (.ref n) = some (r, [(n, r)]) := by
 show (FI S n).map (fun ds => (ds, [(n, ds)])) = _
 rw [C6 h]
 rfl
@[simp] theorem Wr : Ws f E S = (f E S).bind fun r => (sqD r.2 r.1).map fun p => ((Lc 0 p.1, p.2), r.2) := nr rfl
@[simp] theorem WZ : UO f g E S = (f E S).bind fun r => (g E r.2).bind fun q => (sqD q.2 r.1).bind fun a => (sqD q.2 q.1).map fun b => ((NC a.1 b.1, a.2 ++ b.2), q.2) := by
  unfold UO
  rw [Gp]
  cases f E S with
  | none => rfl
  | some r =>
    rw [Cv, Cv, Gp]
    cases g E r.2 with
    | none => rfl
    | some q => rfl
def HH (j : Int) : Bool := decide (-(2 ^ 62) ≤ j) && decide (j < 2 ^ 62)
theorem Dj {j : Int} (h : -1000000 ≤ j) (g : j ≤ 1000000) : HH j = true := by
 unfold HH
 rw [Bool.and_eq_true]
 exact ⟨decide_eq_true (by omega), decide_eq_true (by omega)⟩
def Yz (S : Sto) : D -> Option ((List D × Gd) × Sto)
 | .int j => if HH j = true then some ((GV 0 j.toNat, []), S) else none
 | _ => none
@[simp] theorem Wb {j : Int} : Yz S (.int j) = if HH j = true then some ((GV 0 j.toNat, []), S) else none := nr rfl
@[simp] theorem Wj : JQ [f] E S = (f E S).bind fun r => Yz r.2 r.1 := by
  unfold JQ
  rw [Gp]
  cases f E S with
  | none => rfl
  | some r =>
    obtain ⟨d, S1⟩ := r
    rw [Cv, TY, Vj, Cv, Cv]
    cases d <;> rfl
@[simp] theorem U6 {cf : Bool} {cap : List Nat} {m : Nat} {s : Sr} {t : Tf} : Jk cf cap m s t c f E S = (s E S).bind fun r => (By r.1.2 t c f r.1.1 [] (Nc cap m E) r.2).bind fun q => fin cf (.own q.1) q.2 := nr rfl
@[simp] theorem Wd {cap : List Nat} {m : Nat} : Nc cap m E = cap.map (at? E) ++ List.replicate m none := nr rfl
@[simp] theorem NZ {i : Int} : Iq (.int i :: r) = (Iq r).map fun ns => i :: ns := by
 unfold Iq
 rw [List.mapM_cons]
 show (do let r1 ← some i; let rs ← List.mapM intD r; pure (r1 :: rs)) = _
 cases List.mapM intD r <;> rfl
theorem Ea : ∀ (ns : List Int), Iq (ns.map D.int) = some ns
 | [] => rfl
 | n :: ns => by rw [List.map_cons, NZ, Ea ns]; rfl
@[simp] theorem WM : Pe (.own r) = (Iq r).map fun ns => .val (.int ns.sum) := nr rfl
@[simp] theorem Wl : Pe (.val (.lst r)) = (Iq r).map fun ns => .val (.int ns.sum) := nr rfl
@[simp] theorem Yg : UL true w (.val .non) = some (.val (.bl (!isN w))) := nr rfl
@[simp] theorem ZU {i : Int} {w : Wv} : Jc true false [w, .val (.int i)] = wSl (some i) none w := nr rfl
@[simp] theorem Zt {i : Int} {w : Wv} : Jc false true [w, .val (.int i)] = wSl none (some i) w := nr rfl
@[simp] theorem Yc {lo hi : Option Int} : wSl lo hi (.val (.tup r)) = some (.val (.tup (Hg r lo hi))) := nr rfl
@[simp] theorem YR {lo hi : Option Int} : wSl lo hi (.val (.lst r)) = some (.own (Hg r lo hi)) := nr rfl
@[simp] theorem XZ {lo hi : Option Int} : wSl lo hi (.own r) = some (.own (Hg r lo hi)) := nr rfl
end
structure Cw (A : List Nat) (S S' : Sto) : Prop where
 len : S.length ≤ S'.length
 keep : ∀ n, n < S.length -> n ∉ A -> S'[n]? = S[n]?
theorem Cw.refl {A : List Nat} {S : Sto} : Cw A S S := ⟨Nat.le_refl _, fun _ _ _ => rfl⟩
theorem Cw.trans {A : List Nat} {S S' S2 : Sto} (h : Cw A S S') (g : Cw A S' S2) : Cw A S S2 := ⟨Nat.le_trans h.len g.len, fun n hn ha => (g.keep n (Nat.lt_of_lt_of_le hn h.len) ha).trans (h.keep n hn ha)⟩
theorem Cw.mono {A B : List Nat} {S S' : Sto} (h : Cw A S S') (s : ∀ n ∈ A, n ∈ B) : Cw B S S' := ⟨h.len, fun n hn hb => h.keep n hn fun z => hb (s n z)⟩
theorem Cw.get {A : List Nat} {S S' : Sto} (h : Cw A S S') {n : Nat} {c : Cl} (e : S[n]? = some c) (ha : n ∉ A) : S'[n]? = some c := by
 rw [h.keep n (List.getElem?_eq_some_iff.mp e).1 ha]; exact e
theorem Cw.app {A : List Nat} {S T : Sto} : Cw A S (S ++ T) := ⟨by simp, fun n hn _ => List.getElem?_append_left hn⟩
theorem Cw.set {A : List Nat} {S : Sto} {n : Nat} {c : Cl} (h : n ∈ A) : Cw A S (S.set n c) := ⟨by simp, fun m hm ha => List.getElem?_set_ne (fun z => ha (by rw [← z]; exact h))⟩
theorem Cw.new {A : List Nat} {S S' S2 : Sto} (h : Cw A S S') (g : Cw (A ++ B) S' S2) (hb : ∀ n ∈ B, S.length ≤ n) : Cw A S S2 := ⟨Nat.le_trans h.len g.len, fun n hn ha => (g.keep n (Nat.lt_of_lt_of_le hn h.len) (fun z => by
 rcases List.mem_append.mp z with z | z
 ·exact ha z
 ·have := hb n z; omega)).trans (h.keep n hn ha)⟩
theorem CN {S : Sto} {n : Nat} {c : Cl} (h : S[n]? = some c) : n < S.length := (List.getElem?_eq_some_iff.mp h).1
end Mi
end
section
namespace Mi
open PySem PySem.Spec L2
theorem mulL {i j : Int} (h : -18446744073709551616 < i) (g : i < 18446744073709551616) : Cp i j = true := by
 unfold Cp
 rw [Bool.or_eq_true]
 exact .inl (decide_eq_true (by omega))
theorem mulR {i j : Int} (h : -18446744073709551616 < j) (g : j < 18446744073709551616) : Cp i j = true := by
 unfold Cp
 rw [Bool.or_eq_true, Bool.or_eq_true]
 exact .inr (.inl (decide_eq_true (by omega)))
theorem DQ {n k : Nat} (h : n < 2 ^ k) (hk : k ≤ 8000) : n < EM := Nat.lt_of_lt_of_le h (Nat.pow_le_pow_right (by decide) hk)
theorem EH {n : Int} (h0 : 0 < n) (h1 : n < 1152921504606846976) : n.natAbs < EM := DQ (k := 60) (show n.natAbs < 2 ^ 60 by omega) (by decide)
variable {S : Sto}
def Lb (a b : Int) : Int := ((Nat.gcd a.natAbs b.natAbs : Nat) : Int)
theorem IK {c : Ev} {b : Ex} {k : Nat} {E : En} : FN c b (k + 1) E S = (c E S).bind fun r => match r.1 with
    | .bl true => (b E r.2).bind fun p => match p.1 with
      | .nx => FN c b k p.2.1 p.2.2
      | .ret w => some (.ret w, p.2)
    | .bl false => some (.nx, E, r.2)
    | _ => none := rfl
theorem MT {c : Ev} {b : Ex} {k : Nat} {E E2 : En} {S1 S2 : Sto} (e1 : c E S = some (.bl true, S1)) (e2 : b E S1 = some (.nx, E2, S2)) : FN c b (k + 1) E S = FN c b k E2 S2 := by
 rw [IK, e1]
 show (b E S1).bind _ = _
 rw [e2]
 rfl
theorem MD {c : Ev} {b : Ex} {k : Nat} {E : En} {S1 : Sto} (e1 : c E S = some (.bl false, S1)) : FN c b (k + 1) E S = some (.nx, E, S1) := by
 rw [IK, e1]
 rfl
theorem MZ : ∀ (k : Nat) (x y : Nat), y < k -> FN (eOp (o2 wNe) [(eV 1), (eC (.int 0))]) (Pf 0 1 (eV 1) (eOp (o2 MO) [(eV 0), (eV 1)])) k [some (.int x), some (.int y)] S = some (.nx, [some (.int (Nat.gcd x y : Nat)), some (.int 0)], S)
  | 0, x, y, h => absurd h (Nat.not_lt_zero _)
  | k + 1, x, y, h => by
    by_cases hy : y = 0
    · subst hy
      rw [MD (S1 := S) (by simp)]
      simp
    · have hy2 : (((y : Nat) : Int) == 0) = false := by simpa using hy
      have ih := MZ k y (x % y) (by have := Nat.mod_lt x (Nat.pos_of_ne_zero hy); omega)
      rw [show ((x % y : Nat) : Int) = (x : Int) % (y : Int) by omega] at ih
      have hy4 : 0 < y := Nat.pos_of_ne_zero hy
      rw [MT (S1 := S) (S2 := S) (E2 := [some (.int y), some (.int ((x : Int) % (y : Int)))]) (by simp [hy2]) (by simp [hy4]), ih]
      rw [Nat.gcd_comm x y, Nat.gcd_rec y x, Nat.gcd_comm]
theorem UY (a b : Int) : Bc [.int a, .int b] S = some (.int (Lb a b), S) := by
 have := MZ (S := S) (b.natAbs + 2) a.natAbs b.natAbs (by omega)
 simp [Bc, Dg, LL, M8, this, Lb]
theorem IH : ∀ (k : Nat) (x y : Nat), y < k -> FN (eOp (o2 wGt) [(eV 1), (eC (.int 0))]) (Pf 0 1 (eV 1) (eOp (o2 MO) [(eV 0), (eV 1)])) k [some (.int x), some (.int y)] S = some (.nx, [some (.int (Nat.gcd x y : Nat)), some (.int 0)], S)
  | 0, x, y, h => absurd h (Nat.not_lt_zero _)
  | k + 1, x, y, h => by
    by_cases hy : y = 0
    · subst hy
      rw [MD (S1 := S) (by simp)]
      simp
    · have ih := IH k y (x % y) (by have := Nat.mod_lt x (Nat.pos_of_ne_zero hy); omega)
      rw [show ((x % y : Nat) : Int) = (x : Int) % (y : Int) by omega] at ih
      have hy4 : 0 < y := Nat.pos_of_ne_zero hy
      rw [MT (S1 := S) (S2 := S) (E2 := [some (.int y), some (.int ((x : Int) % (y : Int)))]) (by simp [hy4]) (by simp [hy4]), ih]
      rw [Nat.gcd_comm x y, Nat.gcd_rec y x, Nat.gcd_comm]
theorem OF (a b : Int) (ha : 0 ≤ a) (hb : 0 ≤ b) : EF [.int a, .int b] S = some (.int (Lb a b), S) := by
 have := IH (S := S) (b.natAbs + 2) a.natAbs b.natAbs (by omega)
 have e1 : ((a.natAbs : Nat) : Int) = a := by omega
 have e2 : ((b.natAbs : Nat) : Int) = b := by omega
 rw [e1, e2] at this
 simp [EF, Hj, LL, M8, this, Lb]
def lowP (t b : Int) : Int × Int := (t / Lb t b, b / Lb t b)
theorem MW {t b : Int} (h : 0 < b) : 0 < Lb t b := by
 unfold Lb
 have : 0 < Nat.gcd t.natAbs b.natAbs := Nat.gcd_pos_of_pos_right _ (by omega)
 omega
theorem PR {t b : Int} (h : 0 < b) : (Lb t b).natAbs ≤ b.natAbs := by
 unfold Lb
 have : Nat.gcd t.natAbs b.natAbs ≤ b.natAbs := Nat.gcd_le_right _ (by omega)
 omega
def amD (p : Int × Int) : D := .tup [.int p.1, .int p.2]
theorem Gi {t b : Int} (h : 0 < b) (hb : b.natAbs < EM) : CI [.int t, .int b] S = some (amD (lowP t b), S) := by
 have h1 := MW (t := t) h
 have h2 : (Lb t b).natAbs < EM := Nat.lt_of_le_of_lt (PR h) hb
 simp [CI, Jd, UY, h1, h2, amD, lowP]
theorem RM {t b : Int} : Lb (t.natAbs : Int) b = Lb t b := by
 unfold Lb
 rw [Int.natAbs_natCast]
theorem Lq {t b : Int} (h : 0 < b) (hb : b.natAbs < EM) : CG [.int t, .int b] S = some (amD (lowP t b), S) := by
 have h1 := MW (t := t) h
 have h2 : (Lb t b).natAbs < EM := Nat.lt_of_le_of_lt (PR h) hb
 have h3 := OF (S := S) (t.natAbs : Int) b (by omega) (by omega)
 rw [RM] at h3
 simp [CG, Jg, h3, h1, h2, amD, lowP]
def aD (q : Rat) : D := .tup [.int q.num, .int q.den]
def Sz (k : Nat) (q : Rat) : Prop := q.num.natAbs < 2 ^ k /\ q.den < 2 ^ k
theorem C5 (q : Rat) : (q.num : Rat) / (q.den : Rat) = q := by
 rw [← Rat.mkRat_eq_div, Rat.mkRat_self]
theorem F4 (q : Rat) : (q.den : Rat) ≠ 0 := by
 have := q.den_nz
 exact_mod_cast this
theorem Kg (t : Int) (n : Nat) (h : 0 < n) : ((t : Rat) / (n : Rat)).num = t / (Nat.gcd t.natAbs n : Nat) /\ ((t : Rat) / (n : Rat)).den = n / Nat.gcd t.natAbs n := by
 have e : (t : Rat) / (n : Rat) = mkRat t n := by rw [Rat.mkRat_eq_div]
 rw [e, Rat.mkRat_def, dif_neg (by omega), Rat.normalize_eq]
 exact ⟨rfl, rfl⟩
theorem GG {t b : Int} (h : 0 < b) : amD (lowP t b) = aD ((t : Rat) / (b : Rat)) := by
 obtain ⟨n, rfl⟩ : ∃ n : Nat, b = n := ⟨b.natAbs, by omega⟩
 obtain ⟨h1, h2⟩ := Kg t n (by omega)
 unfold amD aD lowP Lb
 rw [show (((n : Nat) : Int) : Rat) = ((n : Nat) : Rat) from rfl, h1, h2]
 simp
theorem OZ {t b : Int} {k : Nat} (h : 0 < b) (ht : t.natAbs < 2 ^ k) (hb : b.natAbs < 2 ^ k) : Sz k ((t : Rat) / (b : Rat)) := by
 obtain ⟨n, rfl⟩ : ∃ n : Nat, b = n := ⟨b.natAbs, by omega⟩
 obtain ⟨h1, h2⟩ := Kg t n (by omega)
 unfold Sz
 rw [show (((n : Nat) : Int) : Rat) = ((n : Nat) : Rat) from rfl, h1, h2]
 exact ⟨Nat.lt_of_le_of_lt (Int.natAbs_ediv_le_natAbs _ _) ht, Nat.lt_of_le_of_lt (Nat.div_le_self _ _) (by simpa using hb)⟩
theorem Cd {a b j k : Nat} (ha : a < 2 ^ j) (hb : b < 2 ^ k) : a * b < 2 ^ (j + k) := by
 rw [Nat.pow_add]
 exact Nat.mul_lt_mul'' ha hb
theorem Et {i j : Int} {k m : Nat} (hi : i.natAbs < 2 ^ k) (hj : j.natAbs < 2 ^ m) (h : k ≤ 60000) (g : m ≤ 60000) : Cp i j = true := by
 unfold Cp
 rw [Bool.or_eq_true, Bool.or_eq_true, Bool.and_eq_true]
 exact .inr (.inr ⟨decide_eq_true (Nat.lt_of_lt_of_le hi (Nat.pow_le_pow_right (by decide) h)), decide_eq_true (Nat.lt_of_lt_of_le hj (Nat.pow_le_pow_right (by decide) g))⟩)
theorem den_pos (q : Rat) : 0 < (q.den : Int) := by have := q.den_pos; omega
theorem X5 {x : Int} {n m : Nat} (h : x.natAbs < 2 ^ n) (g : n ≤ m) : x.natAbs < 2 ^ m := Nat.lt_of_lt_of_le h (Nat.pow_le_pow_right (by decide) g)
section
variable {p q : Rat} {j k : Nat}
theorem Dm (hp : Sz j p) (hq : Sz k q) : (p.num * q.den + q.num * p.den).natAbs < 2 ^ (j + k + 1) /\ ((p.den : Int) * q.den).natAbs < 2 ^ (j + k) /\ (p.num * q.den - q.num * p.den).natAbs < 2 ^ (j + k + 1) := by
 have a1 := Cd hp.1 hq.2
 have a2 := Cd hq.1 hp.2
 have a3 := Cd hp.2 hq.2
 rw [Nat.add_comm k j] at a2
 have e : 2 ^ (j + k + 1) = 2 ^ (j + k) + 2 ^ (j + k) := by rw [Nat.pow_succ]; omega
 refine ⟨?_, ?_, ?_⟩
 ·refine Nat.lt_of_le_of_lt (Int.natAbs_add_le _ _) ?_
  rw [Int.natAbs_mul, Int.natAbs_mul, Int.natAbs_natCast, Int.natAbs_natCast, e]
  omega
 ·rw [Int.natAbs_mul, Int.natAbs_natCast, Int.natAbs_natCast]; exact a3
 ·refine Nat.lt_of_le_of_lt (Int.natAbs_sub_le _ _) ?_
  rw [Int.natAbs_mul, Int.natAbs_mul, Int.natAbs_natCast, Int.natAbs_natCast, e]
  omega
theorem L0 : (((p.num * q.den + q.num * p.den : Int) : Rat) / (((p.den : Int) * q.den : Int) : Rat)) = p + q := by
 have h1 := C5 p; have h2 := C5 q
 have d1 := F4 p; have d2 := F4 q
 push_cast
 grind
theorem RA : (((p.num * q.den - q.num * p.den : Int) : Rat) / (((p.den : Int) * q.den : Int) : Rat)) = p - q := by
 have h1 := C5 p; have h2 := C5 q
 have d1 := F4 p; have d2 := F4 q
 push_cast
 grind
theorem IF : (((p.num * q.num : Int) : Rat) / (((p.den : Int) * q.den : Int) : Rat)) = p * q := by
 have h1 := C5 p; have h2 := C5 q
 have d1 := F4 p; have d2 := F4 q
 push_cast
 grind
theorem Vm (hp : Sz j p) (hq : Sz k q) : Sz (j + k) (p * q) := by
 rw [← IF]
 have := Dm hp hq
 exact OZ (Int.mul_pos (den_pos _) (den_pos _)) (by rw [Int.natAbs_mul]; exact Cd hp.1 hq.1) this.2.1
end
section
variable {p q : Rat} {j k : Nat}
theorem Jq (hp : Sz j p) (hq : Sz k q) (hj : j + k ≤ 7990) : Cp p.num q.den = true /\ Cp q.num p.den = true /\ Cp p.den q.den = true /\ Cp p.num q.num = true := by
 refine ⟨Et hp.1 (by simpa using hq.2) (by omega) (by omega), Et hq.1 (by simpa using hp.2) (by omega) (by omega), Et (by simpa using hp.2) (by simpa using hq.2) (by omega) (by omega), Et hp.1 hq.1 (by omega) (by omega)⟩
theorem Uw (hp : Sz j p) (hq : Sz k q) (hj : j + k ≤ 7990) : Ew [(aD p), (aD q)] S = some ((aD (p + q)), S) := by
 obtain ⟨m1, m2, m3, m4⟩ := Jq hp hq (by omega)
 have b := Dm hp hq
 have l := Gi (S := S) (t := p.num * q.den + q.num * p.den) (b := p.den * q.den) (Int.mul_pos (den_pos _) (den_pos _)) (DQ b.2.1 (by omega))
 rw [GG (Int.mul_pos (den_pos _) (den_pos _)), L0] at l
 simp only [aD] at l ⊢
 simp [Ew, MN, m1, m2, m3, l]
theorem YY (hp : Sz j p) (hq : Sz k q) (hj : j + k ≤ 7990) : Gq [(aD p), (aD q)] S = some ((aD (p - q)), S) := by
 obtain ⟨m1, m2, m3, m4⟩ := Jq hp hq (by omega)
 have b := Dm hp hq
 have l := Gi (S := S) (t := p.num * q.den - q.num * p.den) (b := p.den * q.den) (Int.mul_pos (den_pos _) (den_pos _)) (DQ b.2.1 (by omega))
 rw [GG (Int.mul_pos (den_pos _) (den_pos _)), RA] at l
 simp only [aD] at l ⊢
 simp [Gq, L6, m1, m2, m3, l]
theorem SR (hp : Sz j p) (hq : Sz k q) (hj : j + k ≤ 7990) : D0 [(aD p), (aD q)] S = some ((aD (p * q)), S) := by
 obtain ⟨m1, m2, m3, m4⟩ := Jq hp hq (by omega)
 have b := Dm hp hq
 have l := Gi (S := S) (t := p.num * q.num) (b := p.den * q.den) (Int.mul_pos (den_pos _) (den_pos _)) (DQ b.2.1 (by omega))
 rw [GG (Int.mul_pos (den_pos _) (den_pos _)), IF] at l
 simp only [aD] at l ⊢
 simp [D0, LZ, m3, m4, l]
theorem Vv (hp : Sz j p) (hq : Sz k q) (hj : j + k ≤ 7990) : EU [(aD p), (aD q)] S = some ((aD (p + q)), S) := by
 obtain ⟨m1, m2, m3, m4⟩ := Jq hp hq (by omega)
 have b := Dm hp hq
 have l := Lq (S := S) (t := p.num * q.den + q.num * p.den) (b := p.den * q.den) (Int.mul_pos (den_pos _) (den_pos _)) (DQ b.2.1 (by omega))
 rw [GG (Int.mul_pos (den_pos _) (den_pos _)), L0] at l
 simp only [aD] at l ⊢
 simp [EU, JW, m1, m2, m3, l]
theorem OJ (hp : Sz j p) (hq : Sz k q) (hj : j + k ≤ 7990) : A3 [(aD p), (aD q)] S = some ((aD (p * q)), S) := by
 obtain ⟨m1, m2, m3, m4⟩ := Jq hp hq (by omega)
 have b := Dm hp hq
 have l := Lq (S := S) (t := p.num * q.num) (b := p.den * q.den) (Int.mul_pos (den_pos _) (den_pos _)) (DQ b.2.1 (by omega))
 rw [GG (Int.mul_pos (den_pos _) (den_pos _)), IF] at l
 simp only [aD] at l ⊢
 simp [A3, Ic, m3, m4, l]
end
theorem PN {t b : Int} (h : 0 < b) (hb : b.natAbs < EM) : CI [(.int t), (.int b)] S = some ((aD (t / b)), S) := by
 rw [Gi h hb, GG h]
theorem YW {t b : Int} (h : 0 < b) (hb : b.natAbs < EM) : CG [(.int t), (.int b)] S = some ((aD (t / b)), S) := by
 rw [Lq h hb, GG h]
theorem G6 {a b : Int} {k : Nat} (ha : a.natAbs < 2 ^ k) (hb : b.natAbs < 2 ^ k) : (a + b).natAbs < 2 ^ (k + 1) := by
 have e : 2 ^ (k + 1) = 2 ^ k + 2 ^ k := by rw [Nat.pow_succ]; omega
 have := Int.natAbs_add_le a b
 omega
theorem Gw {a b : Int} {j k : Nat} (ha : a.natAbs < 2 ^ j) (hb : b.natAbs < 2 ^ k) : (a * b).natAbs < 2 ^ (j + k) := by
 rw [Int.natAbs_mul]; exact Cd ha hb
theorem N7 {p q : Rat} {w m : Int} (h : 0 < w + m) : ((p.num * q.den * w + q.num * p.den * m : Int) : Rat) / (((p.den : Int) * q.den * (w + m) : Int) : Rat) = (p * w + q * m) / (w + m) := by
 have h1 := C5 p; have h2 := C5 q
 have d1 := F4 p; have d2 := F4 q
 have d3 : ((w : Rat) + (m : Rat)) ≠ 0 := by
  intro e
  have : ((w + m : Int) : Rat) = 0 := by push_cast; exact e
  have := Rat.intCast_eq_zero_iff.mp this
  omega
 push_cast
 grind
section
variable {p q : Rat} {w m : Int} {j k n : Nat}
theorem RU (hp : Sz j p) (hq : Sz k q) (hw : w.natAbs < 2 ^ n) (hm : m.natAbs < 2 ^ n) : (p.num * q.den * w + q.num * p.den * m).natAbs < 2 ^ (j + k + n + 1) /\ ((p.den : Int) * q.den * (w + m)).natAbs < 2 ^ (j + k + (n + 1)) := by
 have d1 : ((p.den : Int)).natAbs < 2 ^ j := by simpa using hp.2
 have d2 : ((q.den : Int)).natAbs < 2 ^ k := by simpa using hq.2
 refine ⟨G6 (Gw (Gw hp.1 d2) hw) ?_, Gw (Gw d1 d2) (G6 hw hm)⟩
 have := Gw (Gw hq.1 d1) hm
 rwa [Nat.add_comm k j] at this
theorem VR (hp : Sz j p) (hq : Sz k q) (hw : w.natAbs < 2 ^ n) (hm : m.natAbs < 2 ^ n) (h : 0 < w + m) (hj : j + k + n + 1 ≤ 7990) :
  FQ [(aD p), (.int w), (aD q), (.int m)] S = some ((aD ((p * w + q * m) / (w + m))), S) := by
 obtain ⟨m1, m2, m3, m4⟩ := Jq hp hq (by omega)
 have d1 : ((p.den : Int)).natAbs < 2 ^ j := by simpa using hp.2
 have d2 : ((q.den : Int)).natAbs < 2 ^ k := by simpa using hq.2
 have b := RU hp hq hw hm
 have m5 : Cp (p.num * q.den) w = true := Et (Gw hp.1 d2) hw (by omega) (by omega)
 have m6 : Cp (q.num * p.den) m = true := Et (Gw hq.1 d1) hm (by omega) (by omega)
 have m7 : Cp ((p.den : Int) * q.den) (w + m) = true := Et (Gw d1 d2) (G6 hw hm) (by omega) (by omega)
 have l := PN (S := S) (t := p.num * q.den * w + q.num * p.den * m) (b := p.den * q.den * (w + m)) (Int.mul_pos (Int.mul_pos (den_pos _) (den_pos _)) h) (DQ b.2 (by omega))
 rw [N7 h] at l
 simp only [aD] at l ⊢
 simp [FQ, Ki, m1, m2, m3, m5, m6, m7, l]
end
end Mi
end
section
namespace Mi
open PySem PySem.Spec L2
variable {S : Sto} {p : Nat}
theorem SA {r : List D} (h : p < S.length) : dr (S.set p (.lst r)) (.ref p) = .own r := Df (List.getElem?_set_self h)
def Pen (ds : List D) : Prop := ∃ a b c d : Int, ds = [.int a, .int b, .int c, .int d] /\ 0 ≤ d /\ d < 1000000007
def C0 (p : Nat) (S : Sto) : Prop := ∃ ds, S[p]? = some (.lst ds) /\ Pen ds
structure Pn (p : Nat) (S S' : Sto) : Prop where
 same : Cw [p] S S'
 pen : C0 p S'
theorem Pn.trans {S S' S2 : Sto} (h : Pn p S S') (g : Pn p S' S2) : Pn p S S2 := ⟨h.same.trans g.same, g.pen⟩
theorem Pn.get {S S' : Sto} (h : Pn p S S') {n : Nat} {c : Cl} (e : S[n]? = some c) (ha : n ≠ p) : S'[n]? = some c := h.same.get e (by simpa using ha)
theorem Pn.refl (h : C0 p S) : Pn p S S := ⟨.refl, h⟩
theorem C0.lt (h : C0 p S) : p < S.length := by obtain ⟨ds, e, _⟩ := h; exact CN e
theorem C0.app (h : C0 p S) (T : Sto) : C0 p (S ++ T) := by obtain ⟨ds, e, hp⟩ := h; exact ⟨ds, by rw [List.getElem?_append_left (CN e)]; exact e, hp⟩
theorem Bp (h : C0 p S) {n : Int} (h0 : 0 < n) (h1 : n < 1152921504606846976) : ∃ r S', AL [.ref p, .int n] S = some (.int r, S') /\ 0 ≤ r /\ r < n /\ Pn p S S' := by
 obtain ⟨ds, hp, a, b, c, d, rfl, hd0, hd1⟩ := h
 have hl := CN hp
 have hs := EH h0 h1
 have hr := Df hp
 have hc := C6 hp
 by_cases hb : b = 1 /\ 0 < a
 ·obtain ⟨rfl, ha⟩ := hb
  refine ⟨a % n, S.set p (.lst [.int (a / n), .int 1, .int c, .int d]), ?_, Int.emod_nonneg _ (by omega), Int.emod_lt_of_pos _ h0, .set (by simp), _, List.getElem?_set_self hl, _, _, _, _, rfl, hd0, hd1⟩
  simp [AL, Fw, ha, h0, hs, hr, hc]
 ·have m1 : Cp (d + 17) (69621 + 2 * (c + 1)) = true := mulL (by omega) (by omega)
  have m2 : Cp 2 (c + 1) = true := mulL (by decide) (by decide)
  generalize ht : (d + 17) * (69621 + 2 * (c + 1)) % 2147483647 = t at *
  have t0 : 0 ≤ t := by rw [← ht]; exact Int.emod_nonneg _ (by decide)
  have t1 : t < 2147483647 := by rw [← ht]; exact Int.emod_lt_of_pos _ (by decide)
  have m3 : Cp t t = true := mulL (by omega) (by omega)
  have m4 : Cp 40503 (c + 1) = true := mulL (by decide) (by decide)
  generalize hu : (t * t + 40503 * (c + 1) + 5) % 2147483629 = u at *
  have u0 : 0 ≤ u := by rw [← hu]; exact Int.emod_nonneg _ (by decide)
  have u1 : u < 2147483629 := by rw [← hu]; exact Int.emod_lt_of_pos _ (by decide)
  have m5 : Cp u 48271 = true := mulL (by omega) (by omega)
  have d32 : (32 : Int).natAbs < EM := EH (by decide) (by decide)
  have d32' : (32 : Nat) < EM := d32
  refine ⟨u * 48271 % 2147483647 / 32 % n, S.set p (.lst [.int a, .int b, .int (c + 1), .int d]), ?_, Int.emod_nonneg _ (by omega), Int.emod_lt_of_pos _ h0, .set (by simp), _, List.getElem?_set_self hl, _, _, _, _, rfl, hd0, hd1⟩
  by_cases hb1 : b = 1
  ·subst hb1
   have ha : ¬ 0 < a := fun z => hb ⟨rfl, z⟩
   simp [AL, Fw, ha, h0, hs, hr, hc, SA, hl, m1, m2, m3, m4, m5, ht, hu, d32']
  ·have hb2 : (b == 1) = false := by simpa using hb1
   simp [AL, Fw, hb2, h0, hs, hr, hc, SA, hl, m1, m2, m3, m4, m5, ht, hu, d32']
theorem VT (c : Int) : ∃ p S', Fd [.int c] S = some (.ref p, S') /\ C0 p S' /\ Cw [] S S' /\ S.length ≤ p := by
 refine ⟨S.length, S ++ [.lst [.int c, .int (if (10 : Int) ^ 18 ≤ c then 1 else 0), .int 0, .int (c % 1000000007)]], ?_, ⟨_, List.getElem?_concat_length, _, _, _, _, rfl, Int.emod_nonneg _ (by decide), Int.emod_lt_of_pos _ (by decide)⟩, .app, Nat.le_refl _⟩
 simp [Fd, LU]
theorem D8 {gs : Gd} {t : Tf} {c f : Ev} {acc : List D} {E : En} (h : gOk gs S) : By gs t c f [] acc E S = some (acc, S) := by
 unfold By
 rw [if_pos h]
theorem Js {gs : Gd} {t : Tf} {c f : Ev} {d : D} {ds acc : List D} {E : En} (h : gOk gs S) (hz : acc.length < sizeLine) : By gs t c f (d :: ds) acc E S = (t d E S).bind fun E1 => (c E1 S).bind fun r => match r.1 with
   | .bl true => (f E1 r.2).bind fun p => By gs t c f ds (acc ++ [p.1]) E1 p.2
   | .bl false => By gs t c f ds acc E1 r.2
   | _ => none := by
 rw [By, if_pos h, if_pos hz]
 all_goals rfl
theorem GI {gs : Gd} {t : Tf} {c f : Ev} {d : D} {ds acc : List D} {E E1 : En} {S1 : Sto} (h : gOk gs S) (hz : acc.length < sizeLine) (e1 : t d E S = some E1) (e2 : c E1 S = some (.bl true, S1)) : By gs t c f (d :: ds) acc E S = (f E1 S1).bind fun p => By gs t c f ds (acc ++ [p.1]) E1 p.2 := by
 rw [Js h hz, e1]
 show (c E1 S).bind _ = _
 rw [e2]
 rfl
theorem HD {gs : Gd} {t : Tf} {c f : Ev} {d : D} {ds acc : List D} {E E1 : En} {S1 : Sto} (h : gOk gs S) (hz : acc.length < sizeLine) (e1 : t d E S = some E1) (e2 : c E1 S = some (.bl false, S1)) : By gs t c f (d :: ds) acc E S = By gs t c f ds acc E1 S1 := by
 rw [Js h hz, e1]
 show (c E1 S).bind _ = _
 rw [e2]
 rfl
theorem KQ {gs : Gd} {t : Tf} {f : Ev} {C : En} {m : Nat} {I : Sto -> Prop} {R : D -> D -> Prop} (hg : ∀ S, I S -> gOk gs S) : ∀ {ds acc : List D} {os : En} {S : Sto}, os.length = m -> I S -> acc.length + ds.length ≤ sizeLine ->
    (∀ d ∈ ds, ∀ os S, os.length = m -> I S -> ∃ us y S', us.length = m /\ t d (C ++ os) S = some (C ++ us) /\ f (C ++ us) S = some (y, S') /\ I S' /\ R d y) ->
    ∃ ys S', By gs t BM f ds acc (C ++ os) S = some (acc ++ ys, S') /\ I S' /\ ys.length = ds.length /\ Paired R ds ys
  | [], acc, os, S, ho, hI, hz, h => ⟨[], S, by rw [D8 (hg S hI)]; simp, hI, rfl, .nil⟩
  | d :: ds, acc, os, S, ho, hI, hz, h => by
    obtain ⟨us, y, S1, hu, e1, e2, I1, r1⟩ := h d List.mem_cons_self os S ho hI
    obtain ⟨ys, S2, e3, I2, l2, r2⟩ := KQ hg (ds := ds) (acc := acc ++ [y]) (os := us) (S := S1) hu I1 (by simp at hz ⊢; omega) fun d' hd => h d' (List.mem_cons_of_mem _ hd)
    refine ⟨y :: ys, S2, ?_, I2, by simp [l2], .cons r1 r2⟩
    rw [GI (hg S hI) (by simp at hz; omega) e1 Ee, e2, Cv, e3]
    simp
theorem comp_map {gs : Gd} {t : Tf} {f : Ev} {C : En} {m : Nat} {g : D -> D} {S : Sto} (hg : gOk gs S) : ∀ {ds acc : List D} {os : En}, os.length = m -> acc.length + ds.length ≤ sizeLine ->
    (∀ d ∈ ds, ∀ os, os.length = m -> ∃ us, us.length = m /\ t d (C ++ os) S = some (C ++ us) /\ f (C ++ us) S = some (g d, S)) ->
    By gs t BM f ds acc (C ++ os) S = some (acc ++ ds.map g, S)
  | [], acc, os, ho, hz, h => by rw [D8 hg]; simp
  | d :: ds, acc, os, ho, hz, h => by
    obtain ⟨us, hu, e1, e2⟩ := h d List.mem_cons_self os ho
    rw [GI hg (by simp at hz; omega) e1 Ee, e2, Cv]
    rw [comp_map hg hu (by simp at hz ⊢; omega) fun d' hd => h d' (List.mem_cons_of_mem _ hd)]
    simp
theorem GL {gs : Gd} {t : Tf} {b : Ex} {I : List D -> En -> Sto -> Prop} (hg : ∀ ds E S, I ds E S -> gOk gs S) : ∀ {ds : List D} {E : En} {S : Sto}, I ds E S ->
    (∀ d ds E S, I (d :: ds) E S -> ∃ E1 E2 S2, t d E S = some E1 /\ b E1 S = some (.nx, E2, S2) /\ I ds E2 S2) ->
    ∃ E' S', J3 gs t b ds E S = some (.nx, E', S') /\ I [] E' S'
  | [], E, S, hI, h => ⟨E, S, J9 (hg _ _ _ hI), hI⟩
  | d :: ds, E, S, hI, h => by
    obtain ⟨E1, E2, S2, e1, e2, I2⟩ := h d ds E S hI
    obtain ⟨E', S', e3, I3⟩ := GL hg I2 h
    exact ⟨E', S', by rw [HU (hg _ _ _ hI), e1]; simp [e2, e3], I3⟩
theorem pick {xs : List D} {r : Int} (h0 : 0 ≤ r) (h1 : r < xs.length) : ∃ x, atI xs r = some x /\ x ∈ xs := ⟨_, VQ h0 h1, List.getElem_mem _⟩
theorem HL {α β : Type} {P : β -> Prop} : ∀ {xs : List α} {ys : List β}, Paired (fun _ y => P y) xs ys -> ∀ y ∈ ys, P y
  | _, _, .nil, y, h => by cases h
  | _, _, .cons r t, y, h => by
    rcases List.mem_cons.mp h with h | h
    · rw [h]; exact r
    · exact HL t y h
theorem Fs {lo : Int} {n : Nat} : (GV lo n).length = n := by simp [GV]
end Mi
end
section
namespace Mi
open PySem PySem.Spec L2
def Ok (G B : Nat) (r : Rat) : Prop := ∃ z : Nat, r * (G : Rat) = (z : Rat) /\ z ≤ B
theorem Jm {n : Nat} (h : 0 < n) : (n : Rat) ≠ 0 := by
 have : n ≠ 0 := by omega
 exact_mod_cast this
theorem Ok.sz {G B k : Nat} {r : Rat} (h : Ok G B r) (hG : 0 < G) (g : G < 2 ^ k) (b : B < 2 ^ k) : Sz k r := by
 obtain ⟨z, e, hz⟩ := h
 have e2 : r = ((z : Int) : Rat) / ((G : Int) : Rat) := by
  have := Jm hG
  rw [show (((z : Nat) : Int) : Rat) = (z : Rat) from rfl, show (((G : Nat) : Int) : Rat) = (G : Rat) from rfl, ← e]
  grind
 rw [e2]
 exact OZ (by omega) (by simpa using Nat.lt_of_le_of_lt hz b) (by simpa using g)
theorem Ok.up {G B t B' : Nat} {r : Rat} (h : Ok G B r) (hB : B * t ≤ B') : Ok (G * t) B' r := by
 obtain ⟨z, e, hz⟩ := h
 refine ⟨z * t, ?_, Nat.le_trans (Nat.mul_le_mul_right t hz) hB⟩
 push_cast
 rw [← e]
 grind
theorem Ok.zero {G B : Nat} : Ok G B 0 := ⟨0, by simp, Nat.zero_le _⟩
theorem Ok.one {G B : Nat} (h : G ≤ B) : Ok G B 1 := ⟨G, by simp, h⟩
theorem Ok.mix {G B a b t : Nat} {r o : Rat} (hr : Ok G B r) (ho : Ok G B o) (ht : a + b = t) (h0 : 0 < t) : Ok (G * t) (B * t) ((r * (a : Rat) + o * (b : Rat)) / (t : Rat)) := by
 obtain ⟨z, e1, h1⟩ := hr
 obtain ⟨y, e2, h2⟩ := ho
 refine ⟨z * a + y * b, ?_, ?_⟩
 ·have := Jm h0
  push_cast
  rw [← e1, ← e2]
  grind
 ·rw [← ht, Nat.mul_add]
  exact Nat.add_le_add (Nat.mul_le_mul_right a h1) (Nat.mul_le_mul_right b h2)
structure Tr where
 p : Nat
 k : Nat
 b : Nat
 ho : List Rat
 h : Int
 l : Int
structure Ld where
 k : Nat
 n : Int
 ow : List Rat
structure Stt where
 loads : List Ld
 hold : List Rat
 nums : List Int
inductive Aj where
 | bring (p k : Nat) (n : Int)
 | pool (a b : Nat)
 | swap (l : Nat) (g : Int) (k : Nat) (n : Int)
 | trade (t : Int) (l : Nat) (g : Int) (k : Nat) (n : Int)
 | spoil (l : Nat) (n : Int)
 | thr (l : Nat) (n : Int) (ws : List Int)
 | sell (p q : Nat) (s : Rat)
def shD (rs : List Rat) : D := .tup (rs.map aD)
def Tr.d (t : Tr) : D := .tup [.int t.p, .int t.k, .int t.b, shD t.ho, .int t.h, .int t.l]
def Ld.d (l : Ld) : D := .tup [.int l.k, .int l.n, shD l.ow]
def Aj.d : Aj -> D
 | .bring p k n => .tup [.str "bring", .int p, .int k, .int n]
 | .pool a b => .tup [.str "pool", .int a, .int b]
 | .swap l g k n => .tup [.str "swap", .int l, .int g, .int k, .int n]
 | .trade t l g k n => .tup [.str "trade", .int t, .int l, .int g, .int k, .int n]
 | .spoil l n => .tup [.str "spoil", .int l, .int n]
 | .thr l n ws => .tup [.str "throw", .int l, .int n, .tup (ws.map .int)]
 | .sell p q s => .tup [.str "sell", .int p, .int q, aD s]
def JO (x : Rat) (os ss : List Rat) : List Rat := List.zipWith (fun s o => s * (1 - x) + o * x) ss os
def Iv (p q : Nat) (s : Rat) (ss : List Rat) : List Rat := (ss.set p (ss.getD p 0 - ss.getD p 0 * s)).set q (ss.getD q 0 + ss.getD p 0 * s)
def Co (n m : Int) (ss os : List Rat) : List Rat := List.zipWith (fun s o => (s * n + o * m) / (n + m : Int)) ss os
def DM (t : Tr) (ls : List Ld) (ws : List Int) : Int := (ls.map fun l => l.n * ws.getD l.k 0).sum + t.b * ws.getD t.k 0
def Iu (t : Tr) (ls : List Ld) (l : Nat) (n : Int) (ws : List Int) : Rat := ((n * ws.getD ((ls[l]?.map (·.k)).getD 0) 0 : Int) : Rat) / (DM t ls ws : Rat)
def AN (ls : List Ld) (l : Nat) : Ld := ls.getD l ⟨0, 0, []⟩
def less (ls : List Ld) (l : Nat) (n : Int) : List Ld := ls.set l { AN ls l with n := (AN ls l).n - n }
def RQ (p i : Nat) : List Rat := (List.range p).map fun j => if j = i then 1 else 0
def step (t : Tr) (s : Stt) : Aj -> Stt
 | .bring p k n => { s with loads := s.loads ++ [⟨k, n, RQ t.p p⟩] }
 | .pool a b => { s with loads := less (less s.loads a (AN s.loads a).n) b (AN s.loads b).n ++ [⟨(AN s.loads a).k, (AN s.loads a).n + (AN s.loads b).n, Co (AN s.loads a).n (AN s.loads b).n (AN s.loads a).ow (AN s.loads b).ow⟩] }
 | .swap l g k n => { s with loads := less s.loads l g ++ [⟨k, n, (AN s.loads l).ow⟩] }
 | .trade u l g k n => { s with loads := less s.loads l g ++ [⟨k, n, (AN s.loads l).ow⟩], nums := s.nums ++ [u] }
 | .spoil l n => { s with loads := less s.loads l n }
 | .thr l n ws => { s with loads := (less s.loads l n).map fun x => { x with ow := JO (Iu t s.loads l n ws) (AN s.loads l).ow x.ow }, hold := JO (Iu t s.loads l n ws) (AN s.loads l).ow s.hold }
 | .sell p q x => { s with loads := s.loads.map fun y => { y with ow := Iv p q x y.ow }, hold := Iv p q x s.hold }
def Lg (t : Tr) : Prop := 1 ≤ t.p /\ t.p ≤ 4 /\ 1 ≤ t.k /\ t.k ≤ 5 /\ 1 ≤ t.b /\ t.b ≤ 20
def Can (t : Tr) (s : Stt) : Aj -> Prop
 | .bring p k n => p < t.p /\ k < t.k /\ 1 ≤ n /\ n < 2 ^ 131
 | .pool a b => a ≠ b /\ a < s.loads.length /\ b < s.loads.length /\ 0 < (AN s.loads a).n /\ 0 < (AN s.loads b).n /\ (AN s.loads a).k = (AN s.loads b).k
 | .swap l g k n => l < s.loads.length /\ 1 ≤ g /\ g ≤ (AN s.loads l).n /\ k < t.k /\ k ≠ (AN s.loads l).k /\ 1 ≤ n /\ n < 2 ^ 131
 | .trade u l g k n => l < s.loads.length /\ 1 ≤ g /\ g ≤ (AN s.loads l).n /\ k < t.k /\ k ≠ (AN s.loads l).k /\ 1 ≤ n /\ n < 2 ^ 131 /\ u ∉ s.nums /\ 0 ≤ u /\ u ≤ 9
 | .spoil l n => l < s.loads.length /\ 1 ≤ n /\ n ≤ (AN s.loads l).n
 | .thr l n ws => l < s.loads.length /\ 1 ≤ n /\ n ≤ (AN s.loads l).n /\ ws.length = t.k + 1 /\ ∀ w ∈ ws, 1 ≤ w /\ w ≤ 99
 | .sell p q x => p ≠ q /\ p < t.p /\ q < t.p /\ 0 < x.num /\ x.num ≤ x.den /\ x.den ≤ 12
structure F2 (t : Tr) (k : Nat) (s : Stt) : Prop where
 len : s.loads.length ≤ 4 + k
 kind : ∀ l ∈ s.loads, l.k < t.k
 pcs : ∀ l ∈ s.loads, 0 ≤ l.n /\ l.n < 2 ^ (131 + k)
 own : ∀ l ∈ s.loads, l.ow.length = t.p
 hold : s.hold.length = t.p
 nm : s.nums.length ≤ k
 gb : ∃ G B : Nat, 0 < G /\ G ≤ B /\ B < 2 ^ (30 + 170 * k) /\ (∀ l ∈ s.loads, ∀ r ∈ l.ow, Ok G B r) /\ ∀ r ∈ s.hold, Ok G B r
theorem F2.sz {t : Tr} {k : Nat} {s : Stt} (h : F2 t k s) : (∀ l ∈ s.loads, ∀ r ∈ l.ow, Sz (30 + 170 * k) r) /\ ∀ r ∈ s.hold, Sz (30 + 170 * k) r := by
 obtain ⟨G, B, g0, gb, b, h1, h2⟩ := h.gb
 exact ⟨fun l hl r hr => (h1 l hl r hr).sz g0 (Nat.lt_of_le_of_lt gb b) b, fun r hr => (h2 r hr).sz g0 (Nat.lt_of_le_of_lt gb b) b⟩
theorem Ad {ls : List Ld} {l : Nat} (h : l < ls.length) : AN ls l ∈ ls := by
 unfold AN
 rw [List.getD_eq_getElem?_getD, List.getElem?_eq_getElem h]
 exact List.getElem_mem h
theorem EJ {ls : List Ld} {l : Nat} (h : l < ls.length) : ls[l]? = some (AN ls l) := by
 unfold AN
 rw [List.getD_eq_getElem?_getD, List.getElem?_eq_getElem h]
 rfl
theorem G5 {ls : List Ld} {l : Nat} {n : Int} {x : Ld} (h : x ∈ less ls l n) (hl : l < ls.length) : x ∈ ls ∨ x = { AN ls l with n := (AN ls l).n - n } := by
 unfold less at h
 rcases List.mem_or_eq_of_mem_set h with h | h
 ·exact .inl h
 ·exact .inr h
theorem BN {ls : List Ld} {l : Nat} {n : Int} : (less ls l n).length = ls.length := by simp [less]
end Mi
end
section
namespace Mi
open PySem PySem.Spec L2
variable {S : Sto} {p : Nat}
theorem Np {P : Int -> Prop} : ∀ {ys : List D}, (∀ y ∈ ys, ∃ i : Int, y = .int i /\ P i) -> ∃ ns : List Int, ys = ns.map D.int /\ ∀ n ∈ ns, P n
  | [], _ => ⟨[], rfl, fun n h => by cases h⟩
  | y :: ys, h => by
    obtain ⟨i, rfl, hi⟩ := h y List.mem_cons_self
    obtain ⟨ns, rfl, hn⟩ := Np (P := P) (ys := ys) fun z hz => h z (List.mem_cons_of_mem _ hz)
    exact ⟨i :: ns, rfl, fun n hn' => by
      rcases List.mem_cons.mp hn' with e | e
      · rw [e]; exact hi
      · exact hn n e⟩
theorem Ka {ns : List Int} (h : ∀ n ∈ ns, 0 ≤ n /\ n ≤ 8) : 0 ≤ ns.sum /\ ns.sum ≤ 8 * ns.length /\ ∀ n ∈ ns, n ≤ ns.sum := by
  induction ns with
  | nil => simp
  | cons a l ih =>
    have h1 := h a List.mem_cons_self
    obtain ⟨i1, i2, i3⟩ := ih fun n hn => h n (List.mem_cons_of_mem _ hn)
    rw [List.sum_cons, List.length_cons]
    refine ⟨by omega, by push_cast; omega, fun n hn => ?_⟩
    rcases List.mem_cons.mp hn with e | e
    · omega
    · have := i3 n e; omega
theorem Mq (h : C0 p S) {n : Nat} (hn : n ≤ 20) : ∃ (ns : List Int) (S' : Sto), By [] (tNm 1) BM (eOp (o2 wIx) [(K6 [(eC (.int 0)), (eC (.int 1)), (AJ AL [(eV 0), (eC (.int 4))]), (AJ AL [(eV 0), (eC (.int 9))])]), (AJ AL [(eV 0), (eC (.int 4))])]) (GV 0 n) [] [some (.ref p), none] S = some (ns.map D.int, S') /\ Pn p S S' /\ ns.length = n /\ ∀ i ∈ ns, 0 ≤ i /\ i ≤ 8 := by
 obtain ⟨ys, S', e, hI, l, r⟩ := KQ (gs := []) (t := tNm 1) (f := eOp (o2 wIx) [(K6 [(eC (.int 0)), (eC (.int 1)), (AJ AL [(eV 0), (eC (.int 4))]), (AJ AL [(eV 0), (eC (.int 9))])]), (AJ AL [(eV 0), (eC (.int 4))])]) (C := [some (.ref p)]) (m := 1) (I := Pn p S) (R := fun _ y => ∃ i : Int, y = .int i /\ 0 ≤ i /\ i ≤ 8)
  (fun _ _ => Ah) (ds := GV 0 n) (acc := []) (os := [none]) rfl (Pn.refl h) (by rw [Fs]; simp; exact AV (by omega)) fun d _ os S0 ho I0 => by
   obtain ⟨o, rfl⟩ : ∃ o, os = [o] := by
    match os, ho with
    | [o], _ => exact ⟨o, rfl⟩
   obtain ⟨r1, S1, e1, a1, b1, p1⟩ := Bp I0.pen (n := 4) (by decide) (by decide)
   obtain ⟨r2, S2, e2, a2, b2, p2⟩ := Bp p1.pen (n := 9) (by decide) (by decide)
   obtain ⟨r3, S3, e3, a3, b3, p3⟩ := Bp p2.pen (n := 4) (by decide) (by decide)
   obtain ⟨x, ex, hx⟩ := pick (xs := [.int 0, .int 1, .int r1, .int r2]) (r := r3) a3 (by simpa using b3)
   refine ⟨[some d], x, S3, rfl, by simp, by simp [e1, e2, e3, ex], ((I0.trans p1).trans p2).trans p3, ?_⟩
   simp only [List.mem_cons, List.not_mem_nil, or_false] at hx
   rcases hx with rfl | rfl | rfl | rfl
   ·exact ⟨0, rfl, by decide, by decide⟩
   ·exact ⟨1, rfl, by decide, by decide⟩
   ·exact ⟨r1, rfl, by omega, by omega⟩
   ·exact ⟨r2, rfl, by omega, by omega⟩
 obtain ⟨ns, rfl, hns⟩ := Np (HL r)
 exact ⟨ns, S', by simpa using e, hI, by simpa [Fs] using l, hns⟩
def F3 (ns : List Int) : List Rat := ns.map fun (n : Int) => (n : Rat) / (ns.sum : Rat)
theorem Ii {ns : List Int} (h : ∀ n ∈ ns, 0 ≤ n /\ n ≤ 8) (hs : 0 < ns.sum) : ∀ r ∈ F3 ns, Ok ns.sum.toNat ns.sum.toNat r := by
 intro r hr
 obtain ⟨n, hn, rfl⟩ := List.mem_map.mp hr
 have h1 := h n hn
 have h2 := (Ka h).2.2 n hn
 refine ⟨n.toNat, ?_, by omega⟩
 have e1 : ((ns.sum.toNat : Nat) : Rat) = (ns.sum : Rat) := by
  have : ((ns.sum.toNat : Nat) : Int) = ns.sum := by omega
  exact congrArg (fun z : Int => (z : Rat)) this
 have e2 : ((n.toNat : Nat) : Rat) = (n : Rat) := by
  have : ((n.toNat : Nat) : Int) = n := by omega
  exact congrArg (fun z : Int => (z : Rat)) this
 rw [e1, e2]
 have : (ns.sum : Rat) ≠ 0 := by
  intro z
  have := Rat.intCast_eq_zero_iff.mp z
  omega
 grind
theorem OB {s : Rat} : ∀ {ns : List Int}, (ns.map fun (n : Int) => (n : Rat) / s).sum = (ns.sum : Rat) / s
  | [] => by simp; grind
  | n :: ns => by
    rw [List.map_cons, List.sum_cons, List.sum_cons, OB (ns := ns)]
    push_cast
    grind
theorem K3 {ns : List Int} (hs : 0 < ns.sum) : (F3 ns).sum = 1 := by
 unfold F3
 rw [OB]
 have : (ns.sum : Rat) ≠ 0 := by
  intro z
  have := Rat.intCast_eq_zero_iff.mp z
  omega
 grind
theorem L1 {ns : List Int} {q : Nat} (hq : S[q]? = some (.lst (ns.map D.int))) (hl : ns.length ≤ 20) (hn : ∀ n ∈ ns, 0 ≤ n /\ n ≤ 8) (hs : 0 < ns.sum) :
  By [(q, ns.map D.int)] (tNm 1) BM (AJ CG [(eV 1), (eOp (o1 Pe) [(eV 0)])]) (ns.map D.int) [] [some (.ref q), none] S = some ((F3 ns).map aD, S) := by
 obtain ⟨s1, s2, s3⟩ := Ka hn
 have := comp_map (gs := [(q, ns.map D.int)]) (t := tNm 1) (f := AJ CG [(eV 1), (eOp (o1 Pe) [(eV 0)])]) (C := [some (.ref q)]) (m := 1) (g := fun d => match d with | .int n => aD ((n : Rat) / (ns.sum : Rat)) | d => d) (S := S) (fun g hg => by rw [List.mem_singleton.mp hg]; exact C6 hq) (ds := ns.map D.int) (acc := []) (os := [none]) rfl (by simp; exact AV (by omega)) fun d hd os ho => by
   obtain ⟨o, rfl⟩ : ∃ o, os = [o] := by
    match os, ho with
    | [o], _ => exact ⟨o, rfl⟩
   obtain ⟨i, hi, rfl⟩ := List.mem_map.mp hd
   have m := YW (S := S) (t := i) hs (EH (by omega) (by omega))
   exact ⟨[some (.int i)], rfl, by simp, by simp [Df hq, Ea, m]⟩
 have e2 : (ns.map D.int).map (fun d => match d with | .int n => aD ((n : Rat) / (ns.sum : Rat)) | d => d) = (F3 ns).map aD := by
  unfold F3
  rw [List.map_map, List.map_map]
  rfl
 rw [e2] at this
 simpa using this
theorem Mb (h : C0 p S) {n : Nat} (h1 : 1 ≤ n) (h2 : n ≤ 4) : ∃ rs S', Bt [.ref p, .int n] S = some (shD rs, S') /\ Pn p S S' /\ (rs.length = n /\ rs.sum = 1) /\ ∃ G : Nat, 0 < G /\ G ≤ 32 /\ ∀ r ∈ rs, Ok G G r := by
 obtain ⟨ns, S1, e1, p1, l1, i1⟩ := Mq (n := n) h (by omega)
 obtain ⟨s1, s2, s3⟩ := Ka i1
 have hq : (S1 ++ [Cl.lst (ns.map D.int)])[S1.length]? = some (.lst (ns.map D.int)) := List.getElem?_concat_length
 have pp : C0 p (S1 ++ [Cl.lst (ns.map D.int)]) := p1.pen.app _
 have hlt := p1.pen.lt
 have r1 : HH (n : Int) = true := Dj (by omega) (by omega)
 by_cases hz : ns.sum = 0
 ·obtain ⟨r, S2, e2, a2, b2, p2⟩ := Bp pp (n := n) (by omega) (by omega)
  have hq2 : S2[S1.length]? = some (.lst (ns.map D.int)) := p2.get hq (by omega)
  have hn' : ∀ x ∈ ns.set r.toNat 1, 0 ≤ x /\ x ≤ 8 := fun x hx => by
   rcases List.mem_or_eq_of_mem_set hx with hx | rfl
   ·exact i1 x hx
   ·exact ⟨by decide, by decide⟩
  have hs' : 0 < (ns.set r.toNat 1).sum := by
   have := (Ka hn').2.2 1 (List.mem_set (by omega) 1)
   omega
  have hq3 : (S2.set S1.length (.lst ((ns.set r.toNat 1).map D.int)))[S1.length]? = some (.lst ((ns.set r.toNat 1).map D.int)) := List.getElem?_set_self (CN hq2)
  have e3 := L1 hq3 (by simp; omega) hn' hs'
  have ix : ixN ns.length r = some r.toNat := Ou a2 (by omega)
  refine ⟨F3 (ns.set r.toNat 1), S2.set S1.length (.lst ((ns.set r.toNat 1).map D.int)), ?_, ⟨?_, ?_⟩, ⟨by simp [F3, l1], K3 hs'⟩, _, (show 0 < (ns.set r.toNat 1).sum.toNat by omega), ?_, Ii hn' hs'⟩
  ·have sq3 := PM hq3
   rw [List.map_set] at e3 sq3 hq3
   simp [Bt, GQ, r1, e1, Df hq, Ea, hz, e2, C6 hq2, ix, sq3, e3, shD]
  ·have g : Cw [p] S (S1 ++ [Cl.lst (ns.map D.int)]) := p1.same.trans .app
   refine ⟨Nat.le_trans (g.trans p2.same).len (by simp), fun m hm hmp => ?_⟩
   rw [List.getElem?_set_ne (by have := p1.same.len; omega)]
   exact (g.trans p2.same).keep m hm hmp
  ·obtain ⟨ds, ed, hd⟩ := p2.pen
   exact ⟨ds, by rw [List.getElem?_set_ne (by omega)]; exact ed, hd⟩
  ·have := (Ka hn').2.1
   rw [List.length_set] at this
   omega
 ·have hz' : (ns.sum == 0) = false := by simpa using hz
  have e3 := L1 hq (by omega) i1 (by omega)
  refine ⟨F3 ns, S1 ++ [Cl.lst (ns.map D.int)], ?_, ⟨p1.same.trans .app, pp⟩, ⟨by simp [F3, l1], K3 (by omega)⟩, _, (show 0 < ns.sum.toNat by omega), by omega, Ii i1 (by omega)⟩
  have sq3 := PM hq
  simp [Bt, GQ, r1, e1, Df hq, Ea, hz', sq3, e3, shD]
end Mi
end
section
namespace Mi
open PySem PySem.Spec L2
variable {S : Sto} {p : Nat}
theorem TH : (2 : Nat) < EM := EH (n := 2) (by decide) (by decide)
theorem OG (h : C0 p S) : ∃ n S', Br [.ref p] S = some (.int n, S') /\ Pn p S S' /\ 1 ≤ n /\ n < 2 ^ 131 := by
  obtain ⟨r1, S1, e1, a1, b1, p1⟩ := Bp h (n := 99) (by decide) (by decide)
  obtain ⟨r2, S2, e2, a2, b2, p2⟩ := Bp p1.pen (n := 4) (by decide) (by decide)
  obtain ⟨r3, S3, e3, a3, b3, p3⟩ := Bp p2.pen (n := 40) (by decide) (by decide)
  obtain ⟨r4, S4, e4, a4, b4, p4⟩ := Bp p3.pen (n := 999) (by decide) (by decide)
  obtain ⟨r5, S5, e5, a5, b5, p5⟩ := Bp p4.pen (n := 7) (by decide) (by decide)
  have pp := (((p1.trans p2).trans p3).trans p4).trans p5
  have d2 := TH
  have go : ∀ g : Int, 1 ≤ g -> g < 2 ^ 131 -> ∃ n : Int, atI [D.int (1 + r2), .int (1 + r3), .int (1 + r4), .int g] (r5 / 2) = some (.int n) /\ 1 ≤ n /\ n < 2 ^ 131 := fun g g1 g2 => by
    obtain ⟨x, ex, hx⟩ := pick (xs := [D.int (1 + r2), .int (1 + r3), .int (1 + r4), .int g]) (r := r5 / 2) (by omega) (by simp; omega)
    simp only [List.mem_cons, List.not_mem_nil, or_false] at hx
    rcases hx with rfl | rfl | rfl | rfl
    · exact ⟨_, ex, by omega, by omega⟩
    · exact ⟨_, ex, by omega, by omega⟩
    · exact ⟨_, ex, by omega, by omega⟩
    · exact ⟨_, ex, g1, g2⟩
  first
    | (obtain ⟨n, en, n1, n2⟩ := go (10 ^ 39 + r1) (by omega) (by omega)
       exact ⟨n, S5, by simp [Br, Fb, e1, e2, e3, e4, e5, d2] at en ⊢; simp [en], pp, n1, n2⟩)
    | (obtain ⟨n, en, n1, n2⟩ := go (10 ^ 30 + r1) (by omega) (by omega)
       exact ⟨n, S5, by simp [Br, Fb, e1, e2, e3, e4, e5, d2] at en ⊢; simp [en], pp, n1, n2⟩)
theorem Iw {r : Int} (h : 0 ≤ r) : ∃ m : Nat, r = m := ⟨r.toNat, by omega⟩
theorem P7 (h : C0 p S) : ∃ t S', Du [.ref p] S = some (Tr.d t, S') /\ Pn p S S' /\ Lg t /\ (t.ho.length = t.p /\ t.ho.sum = 1) /\ ∃ G : Nat, 0 < G /\ G ≤ 32 /\ ∀ r ∈ t.ho, Ok G G r := by
 obtain ⟨r1, S1, e1, a1, b1, p1⟩ := Bp h (n := 4) (by decide) (by decide)
 obtain ⟨r2, S2, e2, a2, b2, p2⟩ := Bp p1.pen (n := 5) (by decide) (by decide)
 obtain ⟨r3, S3, e3, a3, b3, p3⟩ := Bp p2.pen (n := 3) (by decide) (by decide)
 obtain ⟨r4, S4, e4, a4, b4, p4⟩ := Bp p3.pen (n := 20) (by decide) (by decide)
 obtain ⟨r5, S5, e5, a5, b5, p5⟩ := Bp p4.pen (n := 2) (by decide) (by decide)
 obtain ⟨m1, rfl⟩ := Iw a1
 obtain ⟨m2, rfl⟩ := Iw a2
 obtain ⟨b, eb, hb1, hb2⟩ : ∃ b : Nat, atI [D.int (1 + r3), .int (1 + r4)] r5 = some (.int b) /\ 1 ≤ b /\ b ≤ 20 := by
  obtain ⟨x, ex, hx⟩ := pick (xs := [D.int (1 + r3), .int (1 + r4)]) (r := r5) a5 (by simpa using b5)
  obtain ⟨m3, rfl⟩ := Iw a3
  obtain ⟨m4, rfl⟩ := Iw a4
  simp only [List.mem_cons, List.not_mem_nil, or_false] at hx
  rcases hx with rfl | rfl
  ·exact ⟨1 + m3, by rw [ex]; simp, by omega, by omega⟩
  ·exact ⟨1 + m4, by rw [ex]; simp, by omega, by omega⟩
 obtain ⟨rs, S6, e6, p6, l6, G, g0, g1, g2⟩ := Mb p5.pen (n := 1 + m1) (by omega) (by omega)
 obtain ⟨r7, S7, e7, a7, b7, p7⟩ := Bp p6.pen (n := 10) (by decide) (by decide)
 obtain ⟨r8, S8, e8, a8, b8, p8⟩ := Bp p7.pen (n := 10) (by decide) (by decide)
 rw [show ((1 + m1 : Nat) : Int) = 1 + (m1 : Int) by omega] at e6
 refine ⟨⟨1 + m1, 1 + m2, b, rs, r7, r8⟩, S8, ?_, ((((((p1.trans p2).trans p3).trans p4).trans p5).trans p6).trans p7).trans p8, ⟨by simp, by simp; omega, by simp, by simp; omega, hb1, hb2⟩, l6, G, g0, g1, g2⟩
 simp [Du, IY, e1, e2, e3, e4, e5, eb, e6, e7, e8, Tr.d]
def ER (t : Tr) (ls : List Ld) : Prop := (∀ l ∈ ls, l.k < t.k /\ 1 ≤ l.n /\ l.n < 2 ^ 131 /\ l.ow.length = t.p /\ l.ow.sum = 1) /\ ∃ G : Nat, 0 < G /\ G ≤ 32 ^ ls.length /\ ∀ l ∈ ls, ∀ r ∈ l.ow, Ok G G r
theorem ER.snoc {t : Tr} {ls : List Ld} {l : Ld} (h : ER t ls) (h1 : l.k < t.k /\ 1 ≤ l.n /\ l.n < 2 ^ 131 /\ l.ow.length = t.p /\ l.ow.sum = 1) {g : Nat} (g0 : 0 < g) (g1 : g ≤ 32) (g2 : ∀ r ∈ l.ow, Ok g g r) : ER t (ls ++ [l]) := by
 obtain ⟨ha, G, G0, G1, G2⟩ := h
 refine ⟨fun x hx => ?_, G * g, Nat.mul_pos G0 g0, ?_, fun x hx r hr => ?_⟩
 ·rcases List.mem_append.mp hx with hx | hx
  ·exact ha x hx
  ·rw [List.mem_singleton.mp hx]; exact h1
 ·rw [List.length_append, List.length_singleton, Nat.pow_succ]
  exact Nat.mul_le_mul G1 g1
 ·rcases List.mem_append.mp hx with hx | hx
  ·exact (G2 x hx r hr).up (Nat.le_refl _)
  ·rw [List.mem_singleton.mp hx] at hr
   have := (g2 r hr).up (t := G) (B' := G * g) (by rw [Nat.mul_comm]; exact Nat.le_refl _)
   rwa [Nat.mul_comm g G] at this
end Mi
end
section
namespace Mi
open PySem PySem.Spec L2
variable {S : Sto} {p : Nat}
theorem ER.nil {t : Tr} : ER t [] := ⟨fun l hl => (nomatch hl), 1, by decide, by simp, fun l hl => (nomatch hl)⟩
def YJ (x : Ld) : Cl := .lst [.int x.k, .int x.n, shD x.ow]
structure SAt (S : Sto) (s l m : Nat) (as : List Nat) (st : Stt) : Prop where
 root : S[s]? = some (.lst [.ref l, shD st.hold, .ref m])
 lo : S[l]? = some (.lst (as.map .ref))
 nu : S[m]? = some (.lst (st.nums.map .int))
 ld : ∀ (i a : Nat) (x : Ld), as[i]? = some a -> st.loads[i]? = some x -> S[a]? = some (YJ x)
 len : as.length = st.loads.length
 nd : (s :: l :: m :: as).Nodup
end Mi
end
section
namespace Mi
open PySem PySem.Spec L2
variable {S : Sto} {p : Nat}
@[simp] theorem Zn {rs : List Rat} {S : Sto} : sqD S (shD rs) = some (rs.map aD, []) := nr rfl
@[simp] theorem XU {S : Sto} {r : List D} : dr (S ++ [.lst r]) (.ref S.length) = .own r := Df List.getElem?_concat_length
@[simp] theorem UQ {S : Sto} {r : List D} : FI (S ++ [.lst r]) S.length = some r := C6 List.getElem?_concat_length
def un : D -> Rat
 | .tup [.int n, .int d] => (n : Rat) / (d : Rat)
 | _ => 0
theorem Ol (n : Int) : aD (n : Rat) = .tup [.int n, .int 1] := by
 unfold aD
 simp
end Mi
end
section
namespace Mi
open PySem PySem.Spec L2
variable {S : Sto} {p : Nat}
theorem getD_get {α : Type} {xs : List α} {n : Nat} {d : α} (h : n < xs.length) : xs[n]? = some (xs.getD n d) := by
 rw [List.getD_eq_getElem?_getD, List.getElem?_eq_getElem h]
 rfl
theorem getD_mem {α : Type} {xs : List α} {n : Nat} {d : α} (h : n < xs.length) : xs.getD n d ∈ xs := List.mem_of_getElem? (getD_get h)
theorem Ro {ss : List Rat} {n : Nat} (h : n < ss.length) : atI (ss.map aD) (n : Int) = some (aD (ss.getD n 0)) := CL (by rw [List.getElem?_map, getD_get h]; rfl)
theorem Vd {ss : List Rat} {n : Nat} (h : n < ss.length) : ixN (ss.map aD).length (n : Int) = some n := Jt (by simpa using h)
end Mi
end
section
namespace Mi
open PySem PySem.Spec L2
variable {S : Sto} {p : Nat}
theorem CT {α : Type} {gs : Gd} {t : Tf} {f : Ev} {C : En} {m : Nat} {e g : α -> D} {S : Sto} (hg : gOk gs S) : ∀ {xs : List α} {acc : List D} {os : En}, os.length = m -> acc.length + xs.length ≤ sizeLine ->
    (∀ x ∈ xs, ∀ os, os.length = m -> ∃ us, us.length = m /\ t (e x) (C ++ os) S = some (C ++ us) /\ f (C ++ us) S = some (g x, S)) ->
    By gs t BM f (xs.map e) acc (C ++ os) S = some (acc ++ xs.map g, S)
  | [], acc, os, ho, hz, h => by rw [List.map_nil, D8 hg]; simp
  | x :: xs, acc, os, ho, hz, h => by
    obtain ⟨us, hu, e1, e2⟩ := h x List.mem_cons_self os ho
    rw [List.map_cons, GI hg (by simp at hz; omega) e1 Ee, e2, Cv]
    rw [CT hg hu (by simp at hz ⊢; omega) fun x' hx => h x' (List.mem_cons_of_mem _ hx)]
    simp
section
variable {s l m : Nat} {as : List Nat} {st : Stt}
end
theorem PC {M : Int} (hM : 0 ≤ M) : ∀ {xs : List Int}, (∀ x ∈ xs, 0 ≤ x /\ x ≤ M) -> 0 ≤ xs.sum /\ xs.sum ≤ xs.length * M
  | [], _ => by simp
  | x :: xs, h => by
    have h1 := h x List.mem_cons_self
    have h2 := PC hM fun y hy => h y (List.mem_cons_of_mem _ hy)
    simp only [List.sum_cons, List.length_cons]
    refine ⟨by omega, ?_⟩
    have : ((xs.length + 1 : Nat) : Int) * M = xs.length * M + M := by push_cast; grind
    omega
theorem Jp : ∀ {xs : List Int} {y : Int}, (∀ x ∈ xs, 0 ≤ x) -> y ∈ xs -> y ≤ xs.sum
  | x :: xs, y, h, hy => by
    have h1 := h x List.mem_cons_self
    have h2 : 0 ≤ xs.sum := by
      clear hy
      induction xs with
      | nil => simp
      | cons z zs ih =>
        have := h z (by simp)
        have := ih fun w hw => h w (by simp at hw ⊢; rcases hw with hw | hw <;> simp [hw])
        simp only [List.sum_cons]; omega
    simp only [List.sum_cons]
    rcases List.mem_cons.mp hy with e | e
    · omega
    · have := Jp (fun z hz => h z (List.mem_cons_of_mem _ hz)) e
      omega
section
variable {t : Tr} {k : Nat} {st : Stt} {ws : List Int} {n : Int} {l : Nat}
theorem Kq {i : Nat} (hw : ∀ w ∈ ws, 1 ≤ w /\ w ≤ 99) (hi : i < ws.length) : 1 ≤ ws.getD i 0 /\ ws.getD i 0 ≤ 99 := hw _ (getD_mem hi)
theorem SI {i : Nat} (hi : i < ws.length) : atI (ws.map D.int) (i : Int) = some (.int (ws.getD i 0)) := CL (by rw [List.getElem?_map, getD_get hi]; rfl)
theorem Lz (hi : ws.length = k + 1) : atI (ws.map D.int) (-1 : Int) = some (.int (ws.getD k 0)) := by
 have ix : ixN (ws.map D.int).length (-1) = some k := by
  rw [List.length_map, hi]
  unfold ixN
  simp
  omega
 unfold atI
 rw [ix]
 show (ws.map D.int)[k]? = _
 rw [List.getElem?_map, getD_get (d := (0 : Int)) (by omega)]
 rfl
theorem Hy (ht : Lg t) (h : F2 t k st) (hk : k ≤ 20) (hl : ws.length = t.k + 1) (hw : ∀ w ∈ ws, 1 ≤ w /\ w ≤ 99) : 0 < DM t st.loads ws /\ DM t st.loads ws < 2 ^ (145 + k) := by
 obtain ⟨t1, t2, t3, t4, t5, t6⟩ := ht
 have hP : (0 : Int) ≤ 2 ^ (131 + k) := Int.le_of_lt (Int.pow_pos (by decide))
 have hs := PC (M := 2 ^ (131 + k) * 99) (by omega) (xs := st.loads.map fun l => l.n * ws.getD l.k 0) (by
  intro x hx
  obtain ⟨y, hy, rfl⟩ := List.mem_map.mp hx
  have h1 := h.pcs y hy
  have h2 := Kq hw (i := y.k) (by have := h.kind y hy; omega)
  refine ⟨Int.mul_nonneg h1.1 (by omega), Int.mul_le_mul (by omega) h2.2 (by omega) hP⟩)
 have hb := Kq hw (i := t.k) (by omega)
 have hlen := h.len
 rw [List.length_map] at hs
 have h3 : (st.loads.length : Int) * (2 ^ (131 + k) * 99) ≤ 24 * (2 ^ (131 + k) * 99) := Int.mul_le_mul_of_nonneg_right (by omega) (by omega)
 have h4 : (1 : Int) ≤ t.b * ws.getD t.k 0 := by
  have : 0 < (t.b : Int) * ws.getD t.k 0 := Int.mul_pos (by omega) (by omega)
  omega
 have h5 : t.b * ws.getD t.k 0 ≤ 20 * 99 := Int.mul_le_mul (by omega) hb.2 (by omega) (by decide)
 have h6 : (2 : Int) ^ (145 + k) = 2 ^ (131 + k) * 16384 := by rw [show 145 + k = (131 + k) + 14 by omega, Int.pow_add]; rfl
 have h7 : (1 : Int) ≤ 2 ^ (131 + k) := by have : (0 : Int) < 2 ^ (131 + k) := Int.pow_pos (by decide); omega
 have h7' : (2 : Int) ^ 11 ≤ 2 ^ (131 + k) := by
  have : (2 ^ 11 : Nat) ≤ 2 ^ (131 + k) := Nat.pow_le_pow_right (by decide) (by omega)
  exact_mod_cast this
 unfold DM
 rw [h6]
 generalize (2 : Int) ^ (131 + k) = P at *
 omega
theorem O8 (ht : Lg t) (h : F2 t k st) (hl : ws.length = t.k + 1) (hw : ∀ w ∈ ws, 1 ≤ w /\ w ≤ 99) (hi : l < st.loads.length) (h1 : 1 ≤ n) (h2 : n ≤ (AN st.loads l).n) : 0 < n * ws.getD (AN st.loads l).k 0 /\ n * ws.getD (AN st.loads l).k 0 < DM t st.loads ws := by
 obtain ⟨t1, t2, t3, t4, t5, t6⟩ := ht
 have hw1 := Kq hw (i := (AN st.loads l).k) (by have := h.kind _ (Ad hi); omega)
 have hb := Kq hw (i := t.k) (by omega)
 have h4 : (1 : Int) ≤ t.b * ws.getD t.k 0 := by
  have : 0 < (t.b : Int) * ws.getD t.k 0 := Int.mul_pos (by omega) (by omega)
  omega
 have h5 := Jp (xs := st.loads.map fun l => l.n * ws.getD l.k 0) (y := (AN st.loads l).n * ws.getD (AN st.loads l).k 0) (by
  intro x hx
  obtain ⟨y, hy, rfl⟩ := List.mem_map.mp hx
  have h1 := h.pcs y hy
  have h2 := Kq hw (i := y.k) (by have := h.kind y hy; omega)
  exact Int.mul_nonneg h1.1 (by omega)) (List.mem_map.mpr ⟨_, Ad hi, rfl⟩)
 have h6 : n * ws.getD (AN st.loads l).k 0 ≤ (AN st.loads l).n * ws.getD (AN st.loads l).k 0 := Int.mul_le_mul_of_nonneg_right h2 (by omega)
 refine ⟨Int.mul_pos (by omega) (by omega), ?_⟩
 unfold DM
 omega
theorem KJ (hi : l < st.loads.length) : Iu t st.loads l n ws = ((n * ws.getD (AN st.loads l).k 0 : Int) : Rat) / (DM t st.loads ws : Rat) := by
 unfold Iu
 rw [EJ hi]
 rfl
theorem GH {x : Int} {j : Nat} (h0 : 0 ≤ x) (h1 : x < 2 ^ j) : x.natAbs < 2 ^ j := by
 have : ((x.natAbs : Nat) : Int) < ((2 ^ j : Nat) : Int) := by
  rw [Int.natAbs_of_nonneg h0]; push_cast; exact h1
 exact_mod_cast this
theorem Tn (ht : Lg t) (h : F2 t k st) (hk : k ≤ 20) (hl : ws.length = t.k + 1) (hw : ∀ w ∈ ws, 1 ≤ w /\ w ≤ 99) (hi : l < st.loads.length) (h1 : 1 ≤ n) (h2 : n ≤ (AN st.loads l).n) : Sz (145 + k) (Iu t st.loads l n ws) := by
 have a := Hy ht h hk hl hw
 have b := O8 ht h hl hw hi h1 h2
 rw [KJ hi]
 exact OZ a.1 (GH (by omega) (by omega)) (GH (by omega) a.2)
theorem PH {G B : Nat} (ht : Lg t) (h : F2 t k st) (hk : k ≤ 20) (hl : ws.length = t.k + 1) (hw : ∀ w ∈ ws, 1 ≤ w /\ w ≤ 99) (hi : l < st.loads.length) (h1 : 1 ≤ n) (h2 : n ≤ (AN st.loads l).n) {os ss : List Rat} (ho : ∀ r ∈ os, Ok G B r) (hs : ∀ r ∈ ss, Ok G B r) : ∀ r ∈ JO (Iu t st.loads l n ws) os ss, Ok (G * (DM t st.loads ws).toNat) (B * (DM t st.loads ws).toNat) r := by
 have a := Hy ht h hk hl hw
 have b := O8 ht h hl hw hi h1 h2
 intro r hr
 unfold JO at hr
 rw [List.mem_iff_getElem?] at hr
 obtain ⟨i, hi'⟩ := hr
 rw [List.getElem?_zipWith_eq_some] at hi'
 obtain ⟨x, y, hx, hy, rfl⟩ := hi'
 rw [KJ hi]
 generalize n * ws.getD (AN st.loads l).k 0 = c at *
 generalize DM t st.loads ws = W at *
 have := Ok.mix (a := (W - c).toNat) (b := c.toNat) (t := W.toNat) (hs x (List.mem_of_getElem? hx)) (ho y (List.mem_of_getElem? hy)) (by omega) (by omega)
 have e1 : (((W - c).toNat : Nat) : Rat) = (W : Rat) - (c : Rat) := by
  have : (((W - c).toNat : Nat) : Int) = W - c := Int.toNat_of_nonneg (by omega)
  have : ((((W - c).toNat : Nat) : Int) : Rat) = ((W - c : Int) : Rat) := by rw [this]
  push_cast at this
  exact this
 have e2 : ((c.toNat : Nat) : Rat) = (c : Rat) := by
  have : ((c.toNat : Nat) : Int) = c := Int.toNat_of_nonneg (by omega)
  have : (((c.toNat : Nat) : Int) : Rat) = (c : Rat) := by rw [this]
  exact this
 have e3 : ((W.toNat : Nat) : Rat) = (W : Rat) := by
  have : ((W.toNat : Nat) : Int) = W := Int.toNat_of_nonneg (by omega)
  have : (((W.toNat : Nat) : Int) : Rat) = (W : Rat) := by rw [this]
  exact this
 rw [e1, e2, e3] at this
 have ne : (W : Rat) ≠ 0 := by
  intro z
  have := Rat.intCast_eq_zero_iff.mp z
  omega
 have ev : (x * ((W : Rat) - (c : Rat)) + y * (c : Rat)) / (W : Rat) = x * (1 - (c : Rat) / (W : Rat)) + y * ((c : Rat) / (W : Rat)) := by grind
 rw [ev] at this
 exact this
end
end Mi
end
section
namespace Mi
open PySem PySem.Spec L2
variable {S : Sto}
theorem Aa {x y : Str} (h : PyData.strOk x = true) (g : PyData.strOk y = true) : Cu (.str x) (.str y) = true := by
 unfold Cu
 show (PyData.strOk x && PyData.strOk y && _) = true
 rw [h, g]
 rfl
theorem CF : PyData.strOk (Str.ofString "bring") = true := by decide +kernel
theorem Dc : PyData.strOk (Str.ofString "pool") = true := by decide +kernel
theorem DV : PyData.strOk (Str.ofString "swap") = true := by decide +kernel
theorem CC : PyData.strOk (Str.ofString "trade") = true := by decide +kernel
theorem Fj : PyData.strOk (Str.ofString "spoil") = true := by decide +kernel
theorem CU : PyData.strOk (Str.ofString "throw") = true := by decide +kernel
theorem DX : PyData.strOk (Str.ofString "sell") = true := by decide +kernel
@[simp] theorem P5 : Cu (.str (Str.ofString "bring")) (.str (Str.ofString "bring")) = true := Aa CF CF
@[simp] theorem PZ : deq (.str (Str.ofString "bring")) (.str (Str.ofString "bring")) = true := nr rfl
@[simp] theorem Qv : Cu (.str (Str.ofString "bring")) (.str (Str.ofString "pool")) = true := Aa CF Dc
@[simp] theorem RI : deq (.str (Str.ofString "bring")) (.str (Str.ofString "pool")) = false := nr rfl
@[simp] theorem RE : Cu (.str (Str.ofString "bring")) (.str (Str.ofString "swap")) = true := Aa CF DV
@[simp] theorem Qi : deq (.str (Str.ofString "bring")) (.str (Str.ofString "swap")) = false := nr rfl
@[simp] theorem Pw : Cu (.str (Str.ofString "bring")) (.str (Str.ofString "trade")) = true := Aa CF CC
@[simp] theorem Pm : deq (.str (Str.ofString "bring")) (.str (Str.ofString "trade")) = false := nr rfl
@[simp] theorem Pu : Cu (.str (Str.ofString "bring")) (.str (Str.ofString "throw")) = true := Aa CF CU
@[simp] theorem Pt : deq (.str (Str.ofString "bring")) (.str (Str.ofString "throw")) = false := nr rfl
@[simp] theorem Rg : Cu (.str (Str.ofString "bring")) (.str (Str.ofString "sell")) = true := Aa CF DX
@[simp] theorem Ql : deq (.str (Str.ofString "bring")) (.str (Str.ofString "sell")) = false := nr rfl
@[simp] theorem RL : wIn false (.val (.str "bring")) (.val (.tup [.str "spoil", .str "throw"])) = some (.val (.bl false)) := nr rfl
@[simp] theorem Q5 : Cu (.str (Str.ofString "pool")) (.str (Str.ofString "bring")) = true := Aa Dc CF
@[simp] theorem Qd : deq (.str (Str.ofString "pool")) (.str (Str.ofString "bring")) = false := nr rfl
@[simp] theorem Rz : Cu (.str (Str.ofString "pool")) (.str (Str.ofString "pool")) = true := Aa Dc Dc
@[simp] theorem Rn : deq (.str (Str.ofString "pool")) (.str (Str.ofString "pool")) = true := nr rfl
@[simp] theorem QL : Cu (.str (Str.ofString "pool")) (.str (Str.ofString "trade")) = true := Aa Dc CC
@[simp] theorem Rc : deq (.str (Str.ofString "pool")) (.str (Str.ofString "trade")) = false := nr rfl
@[simp] theorem QQ : Cu (.str (Str.ofString "pool")) (.str (Str.ofString "throw")) = true := Aa Dc CU
@[simp] theorem Qt : deq (.str (Str.ofString "pool")) (.str (Str.ofString "throw")) = false := nr rfl
@[simp] theorem Rw : Cu (.str (Str.ofString "pool")) (.str (Str.ofString "sell")) = true := Aa Dc DX
@[simp] theorem SJ : deq (.str (Str.ofString "pool")) (.str (Str.ofString "sell")) = false := nr rfl
@[simp] theorem ZG : wIn false (.val (.str "pool")) (.val CW) = some (.val (.bl true)) := nr rfl
@[simp] theorem QG : Cu (.str (Str.ofString "swap")) (.str (Str.ofString "bring")) = true := Aa DV CF
@[simp] theorem Qp : deq (.str (Str.ofString "swap")) (.str (Str.ofString "bring")) = false := nr rfl
@[simp] theorem Ri : Cu (.str (Str.ofString "swap")) (.str (Str.ofString "pool")) = true := Aa DV Dc
@[simp] theorem SG : deq (.str (Str.ofString "swap")) (.str (Str.ofString "pool")) = false := nr rfl
@[simp] theorem Rr : Cu (.str (Str.ofString "swap")) (.str (Str.ofString "swap")) = true := Aa DV DV
@[simp] theorem R5 : deq (.str (Str.ofString "swap")) (.str (Str.ofString "swap")) = true := nr rfl
@[simp] theorem RF : Cu (.str (Str.ofString "swap")) (.str (Str.ofString "trade")) = true := Aa DV CC
@[simp] theorem P8 : deq (.str (Str.ofString "swap")) (.str (Str.ofString "trade")) = false := nr rfl
@[simp] theorem Qy : Cu (.str (Str.ofString "swap")) (.str (Str.ofString "throw")) = true := Aa DV CU
@[simp] theorem QP : deq (.str (Str.ofString "swap")) (.str (Str.ofString "throw")) = false := nr rfl
@[simp] theorem R9 : Cu (.str (Str.ofString "swap")) (.str (Str.ofString "sell")) = true := Aa DV DX
@[simp] theorem R1 : deq (.str (Str.ofString "swap")) (.str (Str.ofString "sell")) = false := nr rfl
@[simp] theorem TQ : wIn false (.val (.str "swap")) (.val (.tup [.str "swap", .str "trade"])) = some (.val (.bl true)) := nr rfl
@[simp] theorem Y5 : wIn false (.val (.str "swap")) (.val CW) = some (.val (.bl true)) := nr rfl
@[simp] theorem Py : Cu (.str (Str.ofString "trade")) (.str (Str.ofString "bring")) = true := Aa CC CF
@[simp] theorem P2 : deq (.str (Str.ofString "trade")) (.str (Str.ofString "bring")) = false := nr rfl
@[simp] theorem QT : Cu (.str (Str.ofString "trade")) (.str (Str.ofString "pool")) = true := Aa CC Dc
@[simp] theorem QH : deq (.str (Str.ofString "trade")) (.str (Str.ofString "pool")) = false := nr rfl
@[simp] theorem Qb : Cu (.str (Str.ofString "trade")) (.str (Str.ofString "swap")) = true := Aa CC DV
@[simp] theorem Q4 : deq (.str (Str.ofString "trade")) (.str (Str.ofString "swap")) = false := nr rfl
@[simp] theorem Px : Cu (.str (Str.ofString "trade")) (.str (Str.ofString "trade")) = true := Aa CC CC
@[simp] theorem Pb : deq (.str (Str.ofString "trade")) (.str (Str.ofString "trade")) = true := nr rfl
@[simp] theorem Pg : Cu (.str (Str.ofString "trade")) (.str (Str.ofString "throw")) = true := Aa CC CU
@[simp] theorem Pp : deq (.str (Str.ofString "trade")) (.str (Str.ofString "throw")) = false := nr rfl
@[simp] theorem RH : Cu (.str (Str.ofString "trade")) (.str (Str.ofString "sell")) = true := Aa CC DX
@[simp] theorem Q9 : deq (.str (Str.ofString "trade")) (.str (Str.ofString "sell")) = false := nr rfl
@[simp] theorem R8 : wIn false (.val (.str "trade")) (.val (.tup [.str "swap", .str "trade"])) = some (.val (.bl true)) := nr rfl
@[simp] theorem YU : wIn false (.val (.str "trade")) (.val CW) = some (.val (.bl true)) := nr rfl
@[simp] theorem Ph : Cu (.str (Str.ofString "spoil")) (.str (Str.ofString "bring")) = true := Aa Fj CF
@[simp] theorem Po : deq (.str (Str.ofString "spoil")) (.str (Str.ofString "bring")) = false := nr rfl
@[simp] theorem Qg : Cu (.str (Str.ofString "spoil")) (.str (Str.ofString "pool")) = true := Aa Fj Dc
@[simp] theorem Qh : deq (.str (Str.ofString "spoil")) (.str (Str.ofString "pool")) = false := nr rfl
@[simp] theorem RS : Cu (.str (Str.ofString "spoil")) (.str (Str.ofString "swap")) = true := Aa Fj DV
@[simp] theorem Q0 : deq (.str (Str.ofString "spoil")) (.str (Str.ofString "swap")) = false := nr rfl
@[simp] theorem Pq : Cu (.str (Str.ofString "spoil")) (.str (Str.ofString "trade")) = true := Aa Fj CC
@[simp] theorem P4 : deq (.str (Str.ofString "spoil")) (.str (Str.ofString "trade")) = false := nr rfl
@[simp] theorem Pj : Cu (.str (Str.ofString "spoil")) (.str (Str.ofString "throw")) = true := Aa Fj CU
@[simp] theorem P0 : deq (.str (Str.ofString "spoil")) (.str (Str.ofString "throw")) = false := nr rfl
@[simp] theorem Q1 : Cu (.str (Str.ofString "spoil")) (.str (Str.ofString "sell")) = true := Aa Fj DX
@[simp] theorem QR : deq (.str (Str.ofString "spoil")) (.str (Str.ofString "sell")) = false := nr rfl
@[simp] theorem Rx : wIn false (.val (.str "spoil")) (.val (.tup [.str "swap", .str "trade"])) = some (.val (.bl false)) := nr rfl
@[simp] theorem QJ : wIn false (.val (.str "spoil")) (.val (.tup [.str "spoil", .str "throw"])) = some (.val (.bl true)) := nr rfl
@[simp] theorem YE : wIn false (.val (.str "spoil")) (.val CW) = some (.val (.bl false)) := nr rfl
@[simp] theorem Pz : Cu (.str (Str.ofString "throw")) (.str (Str.ofString "bring")) = true := Aa CU CF
@[simp] theorem Pk : deq (.str (Str.ofString "throw")) (.str (Str.ofString "bring")) = false := nr rfl
@[simp] theorem Qa : Cu (.str (Str.ofString "throw")) (.str (Str.ofString "pool")) = true := Aa CU Dc
@[simp] theorem QA : deq (.str (Str.ofString "throw")) (.str (Str.ofString "pool")) = false := nr rfl
@[simp] theorem Qc : Cu (.str (Str.ofString "throw")) (.str (Str.ofString "swap")) = true := Aa CU DV
@[simp] theorem QI : deq (.str (Str.ofString "throw")) (.str (Str.ofString "swap")) = false := nr rfl
@[simp] theorem Pd : Cu (.str (Str.ofString "throw")) (.str (Str.ofString "trade")) = true := Aa CU CC
@[simp] theorem Pr : deq (.str (Str.ofString "throw")) (.str (Str.ofString "trade")) = false := nr rfl
@[simp] theorem Pa : Cu (.str (Str.ofString "throw")) (.str (Str.ofString "throw")) = true := Aa CU CU
@[simp] theorem Pc : deq (.str (Str.ofString "throw")) (.str (Str.ofString "throw")) = true := nr rfl
@[simp] theorem SM : wIn false (.val (.str "throw")) (.val (.tup [.str "swap", .str "trade"])) = some (.val (.bl false)) := nr rfl
@[simp] theorem P9 : wIn false (.val (.str "throw")) (.val (.tup [.str "spoil", .str "throw"])) = some (.val (.bl true)) := nr rfl
@[simp] theorem XM : wIn false (.val (.str "throw")) (.val CW) = some (.val (.bl false)) := nr rfl
@[simp] theorem RN : Cu (.str (Str.ofString "sell")) (.str (Str.ofString "bring")) = true := Aa DX CF
@[simp] theorem Qw : deq (.str (Str.ofString "sell")) (.str (Str.ofString "bring")) = false := nr rfl
@[simp] theorem SE : Cu (.str (Str.ofString "sell")) (.str (Str.ofString "pool")) = true := Aa DX Dc
@[simp] theorem Rm : deq (.str (Str.ofString "sell")) (.str (Str.ofString "pool")) = false := nr rfl
@[simp] theorem SO : Cu (.str (Str.ofString "sell")) (.str (Str.ofString "swap")) = true := Aa DX DV
@[simp] theorem Rl : deq (.str (Str.ofString "sell")) (.str (Str.ofString "swap")) = false := nr rfl
@[simp] theorem QM : Cu (.str (Str.ofString "sell")) (.str (Str.ofString "trade")) = true := Aa DX CC
@[simp] theorem QO : deq (.str (Str.ofString "sell")) (.str (Str.ofString "trade")) = false := nr rfl
@[simp] theorem QW : Cu (.str (Str.ofString "sell")) (.str (Str.ofString "throw")) = true := Aa DX CU
@[simp] theorem RD : deq (.str (Str.ofString "sell")) (.str (Str.ofString "throw")) = false := nr rfl
@[simp] theorem SK : Cu (.str (Str.ofString "sell")) (.str (Str.ofString "sell")) = true := Aa DX DX
@[simp] theorem R0 : deq (.str (Str.ofString "sell")) (.str (Str.ofString "sell")) = true := nr rfl
@[simp] theorem TC : wIn false (.val (.str "sell")) (.val (.tup [.str "swap", .str "trade"])) = some (.val (.bl false)) := nr rfl
@[simp] theorem SQ : wIn false (.val (.str "sell")) (.val (.tup [.str "spoil", .str "throw"])) = some (.val (.bl false)) := nr rfl
@[simp] theorem Yo : wIn false (.val (.str "sell")) (.val CW) = some (.val (.bl false)) := nr rfl
@[simp] theorem VU : dr S CW = .val CW := nr rfl
section
variable {a b c d e f : D} {r : List D}
@[simp] theorem W5 : Hg [a, b, c, d, e] (some (-4)) none = [b, c, d, e] := nr rfl
@[simp] theorem WV : Hg [a, b, c, d, e, f] (some (-4)) none = [c, d, e, f] := nr rfl
@[simp] theorem XA : Hg [a, b, c, d] (some 1) none = [b, c, d] := nr rfl
end
end Mi
end
section
namespace Mi
open PySem PySem.Spec L2
section
variable {S S' : Sto} {s l m : Nat} {as : List Nat} {st : Stt} {t : Tr} {k : Nat}
theorem Lj {ls : List Ld} {l : Nat} {n : Int} : less ls l n = ls.set l ⟨(AN ls l).k, (AN ls l).n - n, (AN ls l).ow⟩ := rfl
theorem RX {P p : Nat} {cond : Int} {C : En} {dd : D} {f : Ev} (hP : P ≤ 10) (hf : ∀ (i : Nat), f [some dd, some (.int i)] S = some (aD (if i = p then 1 else 0), S)) : By [] (tNm 1) BM f (GV 0 P) [] [some dd, none] S = some ((RQ P p).map aD, S) := by
 have := CT (gs := []) (t := tNm 1) (f := f) (C := [some dd]) (m := 1) (e := fun i : Nat => D.int (0 + (i : Int))) (g := fun i => aD (if i = p then 1 else 0)) (S := S) Ah (xs := List.range P) (acc := []) (os := [none]) rfl (Nat.le_trans (show _ ≤ 10 by simp; omega) (AV (by decide))) (by
  intro i _ os ho
  obtain ⟨o, rfl⟩ : ∃ o, os = [o] := by
   match os, ho with
   | [a], _ => exact ⟨a, rfl⟩
  refine ⟨[some (.int i)], rfl, by simp, hf i⟩)
 simp only [List.cons_append, List.nil_append] at this
 rw [RQ, List.map_map]
 exact this
end
end Mi
end
section
namespace Mi
open PySem PySem.Spec L2
section
variable {st : Stt} {t : Tr} {k : Nat}
theorem Il {a b : Nat} (h : a ≤ b) : 2 ^ a ≤ 2 ^ b := Nat.pow_le_pow_right (by decide) h
theorem IJ {a b : Nat} (h : a ≤ b) : (2 : Int) ^ a ≤ 2 ^ b := by
 have := Il h
 exact_mod_cast this
theorem FU {c : Int} (h : 0 ≤ c) : ((c.toNat : Nat) : Rat) = (c : Rat) := by
 have : ((c.toNat : Nat) : Int) = c := Int.toNat_of_nonneg h
 have : (((c.toNat : Nat) : Int) : Rat) = (c : Rat) := by rw [this]
 exact this
theorem Nt {B T k j : Nat} (hB : B < 2 ^ (30 + 170 * k)) (hT : T < 2 ^ j) (hj : j ≤ 170) : B * T < 2 ^ (30 + 170 * (k + 1)) := by
 have := Cd hB hT
 exact Nat.lt_of_lt_of_le this (Il (by omega))
theorem VX {G B P p : Nat} (h : G ≤ B) : ∀ r ∈ RQ P p, Ok G B r := by
 intro r hr
 obtain ⟨i, _, rfl⟩ := List.mem_map.mp hr
 split
 ·exact Ok.one h
 ·exact Ok.zero
theorem N6 {G B : Nat} {n m : Int} {ss os : List Rat} (hn : 0 < n) (hm : 0 < m) (hs : ∀ r ∈ ss, Ok G B r) (ho : ∀ r ∈ os, Ok G B r) : ∀ r ∈ Co n m ss os, Ok (G * (n + m).toNat) (B * (n + m).toNat) r := by
 intro r hr
 unfold Co at hr
 rw [List.mem_iff_getElem?] at hr
 obtain ⟨i, hi'⟩ := hr
 rw [List.getElem?_zipWith_eq_some] at hi'
 obtain ⟨x, y, hx, hy, rfl⟩ := hi'
 have := Ok.mix (a := n.toNat) (b := m.toNat) (t := (n + m).toNat) (hs x (List.mem_of_getElem? hx)) (ho y (List.mem_of_getElem? hy)) (by omega) (by omega)
 rwa [FU (by omega), FU (by omega), FU (by omega)] at this
theorem Oy {G B p q : Nat} {x : Rat} {ss : List Rat} (hp : p < ss.length) (hq : q < ss.length) (x1 : 0 < x.num) (x2 : x.num ≤ x.den) (hs : ∀ r ∈ ss, Ok G B r) : ∀ r ∈ Iv p q x ss, Ok (G * x.den) (2 * B * x.den) r := by
 have dp := x.den_pos
 have hsp := hs _ (getD_mem (d := 0) hp)
 have hsq := hs _ (getD_mem (d := 0) hq)
 have xs := C5 x
 have ex : (x.num : Rat) = ((x.num.toNat : Nat) : Rat) := (FU (by omega)).symm
 have nz := F4 x
 intro r hr
 unfold Iv at hr
 rcases List.mem_or_eq_of_mem_set hr with hr | hr
 ·rcases List.mem_or_eq_of_mem_set hr with hr | hr
  ·exact (hs r hr).up (by rw [Nat.mul_assoc]; omega)
  ·rw [hr]
   obtain ⟨z, e, hz⟩ := Ok.mix (a := x.den - x.num.toNat) (b := x.num.toNat) (t := x.den) hsp (Ok.zero (G := G) (B := B)) (by omega) dp
   refine ⟨z, ?_, Nat.le_trans hz (by rw [Nat.mul_assoc]; omega)⟩
   rw [← e]
   have e2 : ((x.den - x.num.toNat : Nat) : Rat) = (x.den : Rat) - (x.num : Rat) := by
    have : (((x.den - x.num.toNat : Nat) : Int) : Rat) = ((x.den - x.num : Int) : Rat) := by
     congr 1; omega
    push_cast at this
    exact this
   rw [e2]
   generalize ss.getD p 0 = sp at *
   congr 1
   grind
 ·rw [hr]
  obtain ⟨z, e1, hz⟩ := hsp
  obtain ⟨y, e2, hy⟩ := hsq
  refine ⟨y * x.den + z * x.num.toNat, ?_, ?_⟩
  ·generalize ss.getD p 0 = sp at *
   generalize ss.getD q 0 = sq at *
   push_cast
   rw [← ex, ← e1, ← e2]
   grind
  ·have h1 : y * x.den ≤ B * x.den := Nat.mul_le_mul_right _ hy
   have h2 : z * x.num.toNat ≤ B * x.den := Nat.mul_le_mul hz (by omega)
   rw [Nat.mul_assoc]; omega
theorem GN {f : Rat -> Rat -> Rat} {a b : List Rat} {n : Nat} (h : a.length = n) (g : b.length = n) : (List.zipWith f a b).length = n := by rw [List.length_zipWith, h, g]; omega
theorem Fp {P : Ld -> Prop} {i : Nat} {n : Int} (hi : i < st.loads.length) (h : ∀ x ∈ st.loads, P x) (g : P ⟨(AN st.loads i).k, (AN st.loads i).n - n, (AN st.loads i).ow⟩) : ∀ x ∈ less st.loads i n, P x := by
 intro x hx
 rcases G5 hx hi with h1 | h1
 ·exact h x h1
 ·rw [h1]; exact g
theorem KI {P : Ld -> Prop} {ls : List Ld} {y : Ld} (h : ∀ x ∈ ls, P x) (g : P y) : ∀ x ∈ ls ++ [y], P x := by
 intro x hx
 rcases List.mem_append.mp hx with w | w
 ·exact h x w
 ·simp at w; rw [w]; exact g
structure LOk (t : Tr) (k G B : Nat) (x : Ld) : Prop where
 kd : x.k < t.k
 n0 : 0 ≤ x.n
 n1 : x.n < 2 ^ (131 + k)
 own : x.ow.length = t.p
 ok : ∀ r ∈ x.ow, Ok G B r
theorem LOk.up {G B T B' : Nat} {x : Ld} (h : LOk t k G B x) (hT : B * T ≤ B') : LOk t (k + 1) (G * T) B' x := ⟨h.kd, h.n0, Int.lt_of_lt_of_le h.n1 (IJ (by omega)), h.own, fun r hr => (h.ok r hr).up hT⟩
theorem LOk.up1 {G B : Nat} {x : Ld} (h : LOk t k G B x) : LOk t (k + 1) G B x := ⟨h.kd, h.n0, Int.lt_of_lt_of_le h.n1 (IJ (by omega)), h.own, h.ok⟩
theorem LOk.less {G B : Nat} {x : Ld} {n : Int} (h : LOk t k G B x) (h0 : 0 ≤ n) (h1 : n ≤ x.n) : LOk t k G B ⟨x.k, x.n - n, x.ow⟩ := ⟨h.kd, show 0 ≤ x.n - n by omega, show x.n - n < _ by have := h.n1; omega, h.own, h.ok⟩
theorem F2.of {G B : Nat} (h1 : st.loads.length ≤ 4 + k) (h2 : ∀ x ∈ st.loads, LOk t k G B x) (h3 : st.hold.length = t.p) (h4 : st.nums.length ≤ k) (g0 : 0 < G) (g1 : G ≤ B) (g2 : B < 2 ^ (30 + 170 * k)) (h5 : ∀ r ∈ st.hold, Ok G B r) : F2 t k st := ⟨h1, fun x hx => (h2 x hx).kd, fun x hx => ⟨(h2 x hx).n0, (h2 x hx).n1⟩, fun x hx => (h2 x hx).own, h3, h4, G, B, g0, g1, g2, fun x hx => (h2 x hx).ok, h5⟩
theorem W2 {n : Int} (h : n < 2 ^ 131) : n < 2 ^ (131 + k) := Int.lt_of_lt_of_le h (IJ (by omega))
theorem Qe (ht : Lg t) (h : F2 t k st) (hk : k ≤ 16) {d : Aj} (hc : Can t st d) : F2 t (k + 1) (step t st d) := by
  obtain ⟨G, B, g0, g1, g2, hl, hh⟩ := h.gb
  have L : ∀ x ∈ st.loads, LOk t k G B x := fun x hx => ⟨h.kind x hx, (h.pcs x hx).1, (h.pcs x hx).2, h.own x hx, hl x hx⟩
  have g2' : B < 2 ^ (30 + 170 * (k + 1)) := Nat.lt_of_lt_of_le g2 (Il (by omega))
  have hlen := h.len
  have hnm := h.nm
  cases d with
  | bring p kd n =>
    obtain ⟨h1, h2, h3, h4⟩ := hc
    refine F2.of (G := G) (B := B) (by simp [step]; omega) (KI (fun x hx => (L x hx).up1) ⟨h2, by show 0 ≤ n; omega, W2 h4, by simp [RQ], VX g1⟩) h.hold (Nat.le_succ_of_le hnm) g0 g1 g2' hh
  | pool i j =>
    obtain ⟨hij, hi, hj, h1, h2, h3⟩ := hc
    have li := L _ (Ad hi)
    have lj := L _ (Ad hj)
    have tl : ((AN st.loads i).n + (AN st.loads j).n).toNat < 2 ^ (132 + k) := by
      have a := li.n1; have b := lj.n1
      have e : (2 : Int) ^ (132 + k) = 2 ^ (131 + k) * 2 := by rw [show 132 + k = (131 + k) + 1 by omega, Int.pow_succ]
      have : (((AN st.loads i).n + (AN st.loads j).n).toNat : Int) < ((2 ^ (132 + k) : Nat) : Int) := by
        rw [Int.toNat_of_nonneg (by omega)]
        push_cast
        rw [e]; omega
      exact_mod_cast this
    have t0 : 0 < ((AN st.loads i).n + (AN st.loads j).n).toNat := by omega
    refine F2.of (G := G * ((AN st.loads i).n + (AN st.loads j).n).toNat) (B := B * ((AN st.loads i).n + (AN st.loads j).n).toNat) (by simp [step, BN]; omega) (KI ?_ ⟨li.kd, by show 0 ≤ (AN st.loads i).n + (AN st.loads j).n; omega, ?_, ?_, N6 h1 h2 li.ok lj.ok⟩) h.hold (Nat.le_succ_of_le hnm) (Nat.mul_pos g0 t0) (Nat.mul_le_mul_right _ g1) (Nt g2 tl (by omega)) (fun r hr => (hh r hr).up (Nat.le_refl _))
    · have e0 : AN (less st.loads i (AN st.loads i).n) j = AN st.loads j := by
        unfold AN less
        rw [List.getD_eq_getElem?_getD, List.getElem?_set_ne hij, ← List.getD_eq_getElem?_getD]
      have A := Fp (P := LOk t (k + 1) (G * ((AN st.loads i).n + (AN st.loads j).n).toNat) (B * ((AN st.loads i).n + (AN st.loads j).n).toNat)) (n := (AN st.loads i).n) hi (fun x hx => (L x hx).up (Nat.le_refl _)) ((li.up (Nat.le_refl _)).less (by omega) (Int.le_refl _))
      have A2 := Fp (st := { st with loads := less st.loads i (AN st.loads i).n }) (i := j) (n := (AN st.loads j).n) (by simpa [BN] using hj) A (by
        show LOk _ _ _ _ ⟨(AN (less st.loads i (AN st.loads i).n) j).k, (AN (less st.loads i (AN st.loads i).n) j).n - _, (AN (less st.loads i (AN st.loads i).n) j).ow⟩
        rw [e0]
        exact (lj.up (Nat.le_refl _)).less (by omega) (Int.le_refl _))
      exact A2
    · show (AN st.loads i).n + (AN st.loads j).n < 2 ^ (131 + (k + 1))
      have a := li.n1; have b := lj.n1
      rw [show 131 + (k + 1) = (131 + k) + 1 by omega, Int.pow_succ]; omega
    · exact GN li.own lj.own
  | swap i g kd n =>
    obtain ⟨hi, h1, h2, h3, h4, h5, h6⟩ := hc
    have li := L _ (Ad hi)
    refine F2.of (G := G) (B := B) (by simp [step, BN]; omega) (KI (Fp hi (fun x hx => (L x hx).up1) (li.up1.less (by omega) h2)) ⟨h3, by show 0 ≤ n; omega, W2 h6, li.own, li.ok⟩) h.hold (Nat.le_succ_of_le hnm) g0 g1 g2' hh
  | trade u i g kd n =>
    obtain ⟨hi, h1, h2, h3, h4, h5, h6, h7⟩ := hc
    have li := L _ (Ad hi)
    refine F2.of (G := G) (B := B) (by simp [step, BN]; omega) (KI (Fp hi (fun x hx => (L x hx).up1) (li.up1.less (by omega) h2)) ⟨h3, by show 0 ≤ n; omega, W2 h6, li.own, li.ok⟩) h.hold (by simp [step]; omega) g0 g1 g2' hh
  | spoil i n =>
    obtain ⟨hi, h1, h2⟩ := hc
    have li := L _ (Ad hi)
    refine F2.of (G := G) (B := B) (by simp [step, BN]; omega) (Fp hi (fun x hx => (L x hx).up1) (li.up1.less (by omega) h2)) h.hold (Nat.le_succ_of_le hnm) g0 g1 g2' hh
  | thr i n ws =>
    obtain ⟨hi, h1, h2, h3, h4⟩ := hc
    have li := L _ (Ad hi)
    have W := Hy ht h (by omega) h3 h4
    have wl : (DM t st.loads ws).toNat < 2 ^ (145 + k) := by
      have : ((DM t st.loads ws).toNat : Int) < ((2 ^ (145 + k) : Nat) : Int) := by
        rw [Int.toNat_of_nonneg (by omega)]; push_cast; exact W.2
      exact_mod_cast this
    have bo := fun {ss : List Rat} (hs : ∀ r ∈ ss, Ok G B r) => PH ht h (by omega) h3 h4 hi h1 h2 li.ok hs
    refine F2.of (G := G * (DM t st.loads ws).toNat) (B := B * (DM t st.loads ws).toNat) (by simp [step, BN]; omega) ?_ (GN h.hold li.own) (Nat.le_succ_of_le hnm) (Nat.mul_pos g0 (by omega)) (Nat.mul_le_mul_right _ g1) (Nt g2 wl (by omega)) (bo hh)
    intro x hx
    obtain ⟨y, hy, rfl⟩ := List.mem_map.mp hx
    have ly := Fp (P := LOk t k G B) hi L (li.less (n := n) (by omega) h2) y hy
    exact ⟨ly.kd, ly.n0, ly.up1.n1, GN ly.own li.own, bo ly.ok⟩
  | sell p q x =>
    obtain ⟨h1, h2, h3, h4, h5, h6⟩ := hc
    have dp := x.den_pos
    refine F2.of (G := G * x.den) (B := 2 * B * x.den) (by simp [step]; omega) ?_ (by simp [step, Iv, h.hold]) (Nat.le_succ_of_le hnm) (Nat.mul_pos g0 dp) (Nat.mul_le_mul_right _ (by omega)) ?_ (Oy (by rw [h.hold]; exact h2) (by rw [h.hold]; exact h3) h4 h5 hh)
    · intro y hy
      obtain ⟨z, hz, rfl⟩ := List.mem_map.mp hy
      have lz := L z hz
      exact ⟨lz.kd, lz.n0, lz.up1.n1, by simp [Iv, lz.own], Oy (by rw [lz.own]; exact h2) (by rw [lz.own]; exact h3) h4 h5 lz.ok⟩
    · have := Nt (B := B) (T := 2 * x.den) (j := 5) g2 (by omega) (by omega)
      rw [show 2 * B * x.den = B * (2 * x.den) by rw [← Nat.mul_assoc, Nat.mul_comm 2 B]]
      exact this
end
end Mi
end
section
namespace Mi
open PySem PySem.Spec L2
theorem Fm {α : Type} {f : α -> D} : ∀ {xs : List α}, (∀ x ∈ xs, (f x).lay = true) -> D.lays (xs.map f) = true
  | [], _ => rfl
  | x :: xs, h => by
    show ((f x).lay && D.lays (xs.map f)) = true
    rw [h x List.mem_cons_self, Fm fun y hy => h y (List.mem_cons_of_mem _ hy)]
    rfl
def Ba (is : List Nat) : List D := is.map fun (i : Nat) => D.int i
theorem N1 {ds : List D} : Lc 0 ds = (List.range ds.length).map fun (i : Nat) => D.tup [.int i, ds.getD i .non] := by
 apply List.ext_getElem?
 intro i
 rw [Hz, List.getElem?_map]
 by_cases h : i < ds.length
 ·rw [List.getElem?_eq_getElem h, List.getElem?_range h]
  simp [List.getElem?_eq_getElem h]
 ·rw [List.getElem?_eq_none (by omega), List.getElem?_eq_none (by simp; omega)]
  rfl
theorem Kb {is : List Nat} : (Ba is).length = is.length := by simp [Ba]
theorem UJ {x K : Int} (h0 : 0 ≤ x) (h1 : x < 2 * K) : x % K = if x < K then x else x - K := by
 split
 ·exact Int.emod_eq_of_lt h0 (by assumption)
 ·have : x % K = (x - K) % K := by rw [Int.sub_emod_right]
  rw [this]
  exact Int.emod_eq_of_lt (by omega) (by omega)
section
variable {S : Sto} {p s l m : Nat} {as : List Nat} {st : Stt} {t : Tr} {k : Nat}
theorem Q3 {us : List Int} {i : Int} : inD (.int i) (us.map D.int) = us.any fun u => u == i := by
 unfold inD
 rw [List.any_map]
 rfl
@[simp] theorem XY {b : Bool} {w : Wv} {r : List D} : wIn b w (.val (.lst r)) = if (HK (fz w) && r.all HK) = true then some (.val (.bl (if b then !inD (fz w) r else inD (fz w) r))) else none := nr rfl
theorem OU {us : List Int} : (us.map D.int).all HK = true := by
 rw [List.all_map, List.all_eq_true]
 intro x _; rfl
@[simp] theorem Yk {i : Int} : HK (.int i) = true := nr rfl
end
end Mi
end
section
namespace Mi
open PySem PySem.Spec L2
def runs (t : Tr) (st : Stt) (ds : List Aj) : Stt := ds.foldl (step t) st
def KC (t : Tr) : Stt -> List Aj -> Prop
 | _, [] => True
 | st, d :: ds => Can t st d /\ KC t (step t st d) ds
theorem JY {t : Tr} {d : Aj} : ∀ {ds : List Aj} {st : Stt}, KC t st ds -> Can t (runs t st ds) d -> KC t st (ds ++ [d])
 | [], st, _, h => ⟨h, trivial⟩
 | x :: ds, st, h, g => ⟨h.1, JY h.2 g⟩
theorem J1 {t : Tr} : ∀ {ds : List Aj} {st : Stt} {i : Nat} {d : Aj}, KC t st ds -> ds[i]? = some d -> Can t (runs t st (ds.take i)) d
  | x :: ds, st, 0, d, h, g => by
    simp at g; subst g
    exact h.1
  | x :: ds, st, i + 1, d, h, g => by
    simp at g
    show Can t (runs t (step t st x) (ds.take i)) d
    exact J1 h.2 g
theorem LA {t : Tr} {st : Stt} {ds : List Aj} {d : Aj} : runs t st (ds ++ [d]) = step t (runs t st ds) d := by simp [runs]
theorem LW {t : Tr} {st : Stt} {ds : List Aj} {i : Nat} {d : Aj} (h : ds[i]? = some d) : runs t st (ds.take (i + 1)) = step t (runs t st (ds.take i)) d := by
 rw [List.take_succ, h]
 exact LA
theorem MS {t : Tr} (ht : Lg t) : ∀ {ds : List Aj} {st : Stt} {k : Nat}, F2 t k st -> KC t st ds -> k + ds.length ≤ 17 -> F2 t (k + ds.length) (runs t st ds)
  | [], st, k, h, _, _ => h
  | d :: ds, st, k, h, g, hl => by
    have := MS ht (ds := ds) (Qe ht h (by simp at hl; omega) g.1) g.2 (by simp at hl; omega)
    rw [show k + (d :: ds).length = k + 1 + ds.length by simp; omega]
    exact this
theorem Jb {t : Tr} : ∀ {ds : List Aj} {st : Stt} {i : Nat}, KC t st ds -> KC t st (ds.take i)
 | [], st, i, h => by simp; exact trivial
 | d :: ds, st, 0, h => trivial
 | d :: ds, st, i + 1, h => ⟨h.1, Jb h.2⟩
def st0 (t : Tr) (ls : List Ld) : Stt := ⟨ls, t.ho, []⟩
structure EW (t : Tr) (ls : List Ld) (ds : List Aj) : Prop where
 tr : Lg t
 inv : F2 t 0 (st0 t ls)
 good : KC t (st0 t ls) ds
 len : ds.length ≤ 16
theorem EW.at {t : Tr} {ls : List Ld} {ds : List Aj} (h : EW t ls ds) (i : Nat) : F2 t (ds.take i).length (runs t (st0 t ls) (ds.take i)) := by
 have := MS h.tr (ds := ds.take i) h.inv (Jb h.good) (by have := h.len; simp; omega)
 rwa [Nat.zero_add] at this
def CZ (t : Tr) (ls : List Ld) (ds : List Aj) : D := .tup [t.d, .tup (ls.map Ld.d), .tup (ds.map Aj.d)]
theorem O0 {t : Tr} {ls : List Ld} (h : ER t ls) (hl : ls.length ≤ 4) (h1 : t.ho.length = t.p) {g : Nat} (g0 : 0 < g) (g1 : g ≤ 32) (g2 : ∀ r ∈ t.ho, Ok g g r) : F2 t 0 (st0 t ls) := by
 obtain ⟨ha, G, G0, G1, G2⟩ := h
 have hG : G ≤ 32 ^ 4 := Nat.le_trans G1 (Nat.pow_le_pow_right (by decide) hl)
 have hB : G * g < 2 ^ 30 := by
  have := Nat.mul_le_mul hG g1
  omega
 refine F2.of (G := G * g) (B := G * g) (by simpa [st0] using hl) ?_ h1 (Nat.le_refl _) (Nat.mul_pos G0 g0) (Nat.le_refl _) hB ?_
 ·intro x hx
  have := ha x hx
  exact ⟨this.1, by omega, W2 this.2.2.1, this.2.2.2.1, fun r hr => (G2 x hx r hr).up (Nat.le_refl _)⟩
 ·intro r hr
  have := (g2 r hr).up (t := G) (B' := G * g) (by rw [Nat.mul_comm]; exact Nat.le_refl _)
  rwa [Nat.mul_comm g G] at this
section
variable {S : Sto} {p : Nat}
end
end Mi
end
section
namespace Mi
open PySem PySem.Spec L2
section
variable {S : Sto} {s l m : Nat} {as : List Nat} {st : Stt}
theorem O7 {rs : List Rat} : D.tup (rs.map aD) = shD rs := rfl
end
end Mi
end
section
namespace Mi
open PySem PySem.Spec L2
theorem Lf {n m d : Nat} (h : n ≤ m) : HT.sIx m d (some (n : Int)) = n := by
 unfold HT.sIx
 have : ¬ ((n : Int) < 0) := by omega
 simp [this]
 omega
theorem KU {α : Type} {ds : List α} {n : Nat} (h : n ≤ ds.length) : Hg ds none (some (n : Int)) = ds.take n := by
 unfold Hg
 rw [Lf h]
 simp [HT.sIx]
theorem MM {α : Type} {ds : List α} {n : Nat} (h : n ≤ ds.length) : Hg ds (some (n : Int)) none = ds.drop n := by
 unfold Hg
 rw [Lf h]
 simp [HT.sIx]
 exact List.take_of_length_le (by simp)
def hD (x : Ld) : D := .tup [.int x.k, .int x.n]
def BB (ls : List Ld) : D := .lst (ls.map hD)
def HE (ls : List Ld) : D := .lst (ls.map fun x => shD x.ow)
section
variable {S : Sto} {ls : List Ld} {i j : Nat} {n : Int}
@[simp] theorem YF : dr S (BB ls) = .val (BB ls) := nr rfl
@[simp] theorem Y6 : dr S (HE ls) = .val (HE ls) := nr rfl
@[simp] theorem Wc : asS (.val (BB ls)) = some (ls.map hD) := nr rfl
@[simp] theorem W8 : asS (.val (HE ls)) = some (ls.map fun x => shD x.ow) := nr rfl
@[simp] theorem WB : GW (.val (BB ls)) = some (.val (.int ls.length)) := by
 show GW (.val (.lst (ls.map hD))) = _
 rw [QF, List.length_map]
theorem DY (hi : i < ls.length) : atI (ls.map hD) (i : Int) = some (hD (AN ls i)) := CL (by rw [List.getElem?_map, EJ hi]; rfl)
theorem Io (hi : i < ls.length) : atI (ls.map fun x => shD x.ow) (i : Int) = some (shD (AN ls i).ow) := CL (by rw [List.getElem?_map, EJ hi]; rfl)
@[simp] theorem ZT {x : Ld} : dr S (hD x) = .val (.tup [.int x.k, .int x.n]) := nr rfl
@[simp] theorem Yj {ts : List Tf} {x : Ld} {E : En} : tTp ts (hD x) E S = tMs ts [.int x.k, .int x.n] E S := nr rfl
theorem LO (hi : i < ls.length) (hn : n ≤ (AN ls i).n) : BZ [BB ls, .int i, .int n] S = some (.bl true, S) := by
 have hi' : (i : Int) < ls.length := by omega
 simp [BZ, F7, hi', hi, DY hi, hn]
theorem Lr (hi : i < ls.length) (hj : j < ls.length) (h1 : 0 < (AN ls i).n) (h2 : 0 < (AN ls j).n) (hk : (AN ls i).k = (AN ls j).k) : EN [BB ls, .int i, .int j] S = some (.bl true, S) := by
 have e1 := LO (S := S) (n := 1) hi (by omega)
 have e2 := LO (S := S) (n := 1) hj (by omega)
 simp [EN, Hb, e1, e2, DY hi, DY hj, hk]
theorem IV {k : Nat} (hi : i < ls.length) (hn : n ≤ (AN ls i).n) (hk : k ≠ (AN ls i).k) : DA [BB ls, .int i, .int n, .int k] S = some (.bl true, S) := by
 have e1 := LO (S := S) hi hn
 have e2 : (((AN ls i).k : Int) == (k : Int)) = false := by simp; omega
 simp [DA, He, e1, DY hi, e2]
theorem RC {lo hi : Option Int} : wSl lo hi (.val (BB ls)) = some (.own (Hg (ls.map hD) lo hi)) := nr rfl
theorem Dp (hi : i < ls.length) (hl : ls.length ≤ 60) : BG [BB ls, .int i, .int n] S = some (BB (less ls i n), S) := by
 have c1 := KU (ds := ls.map hD) (n := i) (by simp; omega)
 have c2 : Hg (ls.map hD) (some ((i : Int) + 1)) none = (ls.map hD).drop (i + 1) := by
  have := MM (ds := ls.map hD) (n := i + 1) (by simp; omega)
  simpa using this
 have ef : BB (less ls i n) = .lst ((ls.map hD).take i ++ [.tup [.int (AN ls i).k, .int ((AN ls i).n - n)]] ++ (ls.map hD).drop (i + 1)) := by
  rw [Lj, BB, List.map_set, List.set_eq_take_append_cons_drop, if_pos (by simpa using hi)]
  simp [hD]
 have z1 : (List.take i (ls.map hD)).length + 1 ≤ sizeLine := Nat.le_trans (show _ ≤ 100 by simp; omega) (AV (by decide))
 have z2 : (List.take i (ls.map hD) ++ [D.tup [.int (AN ls i).k, .int ((AN ls i).n - n)]]).length + (List.drop (i + 1) (ls.map hD)).length ≤ sizeLine := Nat.le_trans (show _ ≤ 100 by simp; omega) (AV (by decide))
 rw [ef]
 have ah := DY hi
 have ws := fun {lo hi : Option Int} => RC (ls := ls) (lo := lo) (hi := hi)
 generalize List.take i (ls.map hD) = A at *
 generalize List.drop (i + 1) (ls.map hD) = B at *
 simp only [List.length_append, List.length_cons, List.length_nil] at z2
 simp [BG, FE, ah, ws, c1, c2, z1, z2]
end
end Mi
end
section
namespace Mi
open PySem PySem.Spec L2
section
variable {S : Sto} {st : Stt} {t : Tr} {k : Nat}
@[simp] theorem DN {ls : List Ld} {r : List D} : EE (.val (BB ls)) (.val (.lst r)) = if (ls.map hD).length + r.length ≤ sizeLine then some (.own (ls.map hD ++ r)) else none := nr rfl
theorem IB {ls : List Ld} {y : Ld} : D.lst (ls.map hD ++ [.tup [.int y.k, .int y.n]]) = BB (ls ++ [y]) := by simp [BB, hD]
theorem LJ (h : F2 t k st) (hk : k ≤ 17) {d : Aj} (hc : Can t st d) : AZ [BB st.loads, d.d] S = some (BB (step t st d).loads, S) := by
  have hlen := h.len
  have hz : (st.loads.map hD).length + 1 ≤ sizeLine := Nat.le_trans (show _ ≤ 100 by simp; omega) (AV (by decide))
  have hz2 : ∀ {i : Nat} {n : Int}, ((less st.loads i n).map hD).length + 1 ≤ sizeLine := fun {i n} => Nat.le_trans (show _ ≤ 100 by simp [BN]; omega) (AV (by decide))
  cases d with
  | bring p kd n =>
    have e := IB (ls := st.loads) (y := ⟨kd, n, RQ t.p p⟩)
    show _ = some (BB (st.loads ++ [⟨kd, n, RQ t.p p⟩]), S)
    rw [← e]
    have wA := DN (ls := st.loads) (r := [.tup [.int kd, .int n]])
    rw [if_pos (by simpa using hz)] at wA
    simp [AZ, BA, Aj.d, -DN, wA]
  | pool i j =>
    obtain ⟨hij, hi, hj, h1, h2, h3⟩ := hc
    have e0 : AN (less st.loads i (AN st.loads i).n) j = AN st.loads j := by
      unfold AN less
      rw [List.getD_eq_getElem?_getD, List.getElem?_set_ne hij, ← List.getD_eq_getElem?_getD]
    have w1 := Dp (S := S) (n := (AN st.loads i).n) hi (by omega)
    have w2 := Dp (S := S) (ls := less st.loads i (AN st.loads i).n) (i := j) (n := (AN st.loads j).n) (by rw [BN]; exact hj) (by rw [BN]; omega)
    have z3 : ((less (less st.loads i (AN st.loads i).n) j (AN st.loads j).n).map hD).length + 1 ≤ sizeLine := Nat.le_trans (show _ ≤ 100 by simp [BN]; omega) (AV (by decide))
    have e := IB (ls := less (less st.loads i (AN st.loads i).n) j (AN st.loads j).n) (y := ⟨(AN st.loads i).k, (AN st.loads i).n + (AN st.loads j).n, Co (AN st.loads i).n (AN st.loads j).n (AN st.loads i).ow (AN st.loads j).ow⟩)
    show _ = some (BB (less (less st.loads i (AN st.loads i).n) j (AN st.loads j).n ++ [_]), S)
    rw [← e]
    have a1 := DY hi
    have a2 := DY hj
    have wA := DN (ls := less (less st.loads i (AN st.loads i).n) j (AN st.loads j).n) (r := [.tup [.int (AN st.loads i).k, .int ((AN st.loads i).n + (AN st.loads j).n)]])
    rw [if_pos (by simpa using z3)] at wA
    generalize (less (less st.loads i (AN st.loads i).n) j (AN st.loads j).n).map hD = A at *
    simp [AZ, BA, Aj.d, a1, a2, w1, w2, -DN, wA]
  | swap i g kd n =>
    obtain ⟨hi, h1, h2, h3, h4, h5, h6⟩ := hc
    have w1 := Dp (S := S) (n := g) hi (by omega)
    have e := IB (ls := less st.loads i g) (y := ⟨kd, n, (AN st.loads i).ow⟩)
    show _ = some (BB (less st.loads i g ++ [⟨kd, n, (AN st.loads i).ow⟩]), S)
    rw [← e]
    have wA := DN (ls := less st.loads i g) (r := [.tup [.int kd, .int n]])
    rw [if_pos (by simpa using hz2)] at wA
    simp [AZ, BA, Aj.d, w1, -DN, wA]
  | trade u i g kd n =>
    obtain ⟨hi, h1, h2, h3, h4, h5, h6, h7⟩ := hc
    have w1 := Dp (S := S) (n := g) hi (by omega)
    have e := IB (ls := less st.loads i g) (y := ⟨kd, n, (AN st.loads i).ow⟩)
    show _ = some (BB (less st.loads i g ++ [⟨kd, n, (AN st.loads i).ow⟩]), S)
    rw [← e]
    have wA := DN (ls := less st.loads i g) (r := [.tup [.int kd, .int n]])
    rw [if_pos (by simpa using hz2)] at wA
    simp [AZ, BA, Aj.d, w1, -DN, wA]
  | spoil i n =>
    obtain ⟨hi, h1, h2⟩ := hc
    have w1 := Dp (S := S) (n := n) hi (by omega)
    show _ = some (BB (less st.loads i n), S)
    simp [AZ, BA, Aj.d, w1]
  | thr i n ws =>
    obtain ⟨hi, h1, h2, h3, h4⟩ := hc
    have w1 := Dp (S := S) (n := n) hi (by omega)
    have e : BB (step t st (.thr i n ws)).loads = BB (less st.loads i n) := by
      show D.lst (((less st.loads i n).map _).map hD) = _
      rw [List.map_map]; rfl
    rw [e]
    simp [AZ, BA, Aj.d, w1]
  | sell p q x =>
    have e : BB (step t st (.sell p q x)).loads = BB st.loads := by
      show D.lst ((st.loads.map _).map hD) = _
      rw [List.map_map]; rfl
    rw [e]
    simp [AZ, BA, Aj.d]
def FC : Aj -> Option Int
 | .trade u .. => some u
 | _ => none
theorem O2 {ls : List Ld} : ∀ {ds : List Aj}, (runs t (st0 t ls) ds).nums = ds.filterMap FC := by
  intro ds
  have : ∀ (ds : List Aj) (st : Stt), (runs t st ds).nums = st.nums ++ ds.filterMap FC := by
    intro ds
    induction ds with
    | nil => intro st; simp [runs]
    | cons d ds ih =>
      intro st
      show (runs t (step t st d) ds).nums = _
      rw [ih]
      cases d <;> simp [step, FC, List.filterMap_cons]
  rw [this]; rfl
theorem Hm : ∀ {ds : List Aj} {acc : List D} {o : Option D}, acc.length + ds.length ≤ 100 -> By [] (tNm 0) (eOp (o2 wEq) [(eOp (o2 wIx) [(eV 0), (eC (.int 0))]), (eC (.str "trade"))]) (eOp (o2 wIx) [(eV 0), (eC (.int 1))]) (ds.map Aj.d) acc [o] S = some (acc ++ (ds.filterMap FC).map D.int, S)
  | [], acc, o, h => by rw [List.map_nil, D8 Ah]; simp
  | d :: ds, acc, o, h => by
    have hz : acc.length < sizeLine := Nat.lt_of_lt_of_le (show acc.length < 101 by simp at h; omega) (AV (by decide))
    have ht : tNm 0 d.d [o] S = some [some d.d] := by simp
    rw [List.map_cons]
    cases d with
    | trade u i g kd n =>
      rw [GI Ah hz ht (S1 := S) (by simp [Aj.d])]
      have : eOp (o2 wIx) [(eV 0), (eC (.int 1))] [some (Aj.trade u i g kd n).d] S = some (.int u, S) := by simp [Aj.d]
      rw [this, Cv, Hm (by simp at h ⊢; omega)]
      simp [FC, List.filterMap_cons]
    | bring => rw [HD Ah hz ht (S1 := S) (by simp [Aj.d]), Hm (by simp at h ⊢; omega)]; simp [FC, List.filterMap_cons]
    | pool => rw [HD Ah hz ht (S1 := S) (by simp [Aj.d]), Hm (by simp at h ⊢; omega)]; simp [FC, List.filterMap_cons]
    | swap => rw [HD Ah hz ht (S1 := S) (by simp [Aj.d]), Hm (by simp at h ⊢; omega)]; simp [FC, List.filterMap_cons]
    | spoil => rw [HD Ah hz ht (S1 := S) (by simp [Aj.d]), Hm (by simp at h ⊢; omega)]; simp [FC, List.filterMap_cons]
    | thr => rw [HD Ah hz ht (S1 := S) (by simp [Aj.d]), Hm (by simp at h ⊢; omega)]; simp [FC, List.filterMap_cons]
    | sell => rw [HD Ah hz ht (S1 := S) (by simp [Aj.d]), Hm (by simp at h ⊢; omega)]; simp [FC, List.filterMap_cons]
theorem OT {ds : List Aj} {d : Aj} (hd : ds.length ≤ 50) (hn : st.nums = ds.filterMap FC) (hc : Can t st d) : Bo [BB st.loads, .tup (ds.map Aj.d), d.d] S = some (.bl true, S) := by
  cases d with
  | bring p kd n => simp [Bo, Cb, Aj.d]
  | pool i j =>
    obtain ⟨hij, hi, hj, h1, h2, h3⟩ := hc
    have e := Lr (S := S) hi hj h1 h2 h3
    simp [Bo, Cb, Aj.d, e]
  | swap i g kd n =>
    obtain ⟨hi, h1, h2, h3, h4, h5, h6⟩ := hc
    have e := IV (S := S) (k := kd) hi h2 h4
    simp [Bo, Cb, Aj.d, e]
  | trade u i g kd n =>
    obtain ⟨hi, h1, h2, h3, h4, h5, h6, h7, h8⟩ := hc
    have e := IV (S := S) (k := kd) hi h2 h4
    have tc := Hm (S := S) (ds := ds) (acc := []) (o := none) (by simp; omega)
    rw [← hn] at tc
    have fi := OU (us := st.nums)
    have ii := Q3 (us := st.nums) (i := u)
    have iu : (st.nums.any fun x => x == u) = false := by
      rw [List.any_eq_false]
      intro x hx z
      have : x = u := by simpa using z
      exact h7 (this ▸ hx)
    rw [iu] at ii
    generalize st.nums.map D.int = ud at *
    simp [Bo, Cb, Aj.d, tc, fi, ii, e]
  | spoil i n =>
    obtain ⟨hi, h1, h2⟩ := hc
    have e := LO (S := S) hi h2
    simp [Bo, Cb, Aj.d, e]
  | thr i n ws =>
    obtain ⟨hi, h1, h2, h3, h4⟩ := hc
    have e := LO (S := S) hi h2
    simp [Bo, Cb, Aj.d, e]
  | sell p q x => simp [Bo, Cb, Aj.d]
end
end Mi
end
section
namespace Mi
open PySem PySem.Spec L2
section
variable {S : Sto} {st : Stt} {t : Tr} {k : Nat}
theorem Qz {ss os : List Rat} : NC (ss.map aD) (os.map aD) = (ss.zip os).map fun z => D.tup [aD z.1, aD z.2] := by
 unfold NC
 rw [List.zip_map, List.map_map]
 rfl
def SX (w m : Int) (ss os : List Rat) : List Rat := List.zipWith (fun s o => (s * w + o * m) / (w + m)) ss os
theorem ED {w m : Int} {ss os : List Rat} {j n : Nat} (hs : ∀ r ∈ ss, Sz j r) (ho : ∀ r ∈ os, Sz j r) (hw : w.natAbs < 2 ^ n) (hm : m.natAbs < 2 ^ n) (h : 0 < w + m) (hj : 2 * j + n + 1 ≤ 7990) (hl : ss.length ≤ 10) : B1 [shD ss, .int w, shD os, .int m] S = some (shD (SX w m ss os), S) := by
 have e := CT (gs := []) (t := tTp [(tNm 2), (tNm 3)]) (f := AJ FQ [(eV 2), (eV 0), (eV 3), (eV 1)]) (C := [some (.int w), some (.int m)]) (m := 2) (e := fun z : Rat × Rat => D.tup [aD z.1, aD z.2]) (g := fun z => aD ((z.1 * w + z.2 * m) / (w + m))) (S := S) Ah (xs := ss.zip os) (acc := []) (os := [none, none]) rfl (Nat.le_trans (show _ ≤ 50 by simp; omega) (AV (by decide))) (by
  intro z hz os' ho'
  obtain ⟨q1, q2, rfl⟩ : ∃ q1 q2, os' = [q1, q2] := by
   match os', ho' with
   | [a, b], _ => exact ⟨a, b, rfl⟩
  have hm2 := List.of_mem_zip (a := z.1) (b := z.2) hz
  have l := VR (S := S) (hs _ hm2.1) (ho _ hm2.2) hw hm h (by omega)
  refine ⟨[some (aD z.1), some (aD z.2)], rfl, by simp, ?_⟩
  simp [l])
 rw [← Qz] at e
 have em : (ss.zip os).map (fun z => aD ((z.1 * w + z.2 * m) / (w + m))) = (SX w m ss os).map aD := by
  unfold SX
  rw [← List.map_uncurry_zip_eq_zipWith, List.map_map]
  rfl
 rw [em] at e
 simp only [List.cons_append, List.nil_append] at e
 simp [B1, FG, e, O7]
theorem Jv {P p : Nat} (hP : P ≤ 10) : C9 [.int P, .int p] S = some (shD (RQ P p), S) := by
 have e := RX (S := S) (P := P) (p := p) (cond := 0) (C := []) (dd := .int p) (f := eIf (eOp (o2 wEq) [(eV 1), (eV 0)]) (eC N3) (eC Cq)) hP (by
  intro i
  by_cases hi : i = p
  ·subst hi; simp; rfl
  ·have : ((i : Int) == (p : Int)) = false := by simp; omega
   simp [this, hi]; rfl)
 have rn : HH (P : Int) = true := Dj (by omega) (by omega)
 simp [C9, F8, rn, e, O7]
theorem IP {n m : Int} {ss os : List Rat} : SX n m ss os = Co n m ss os := by
 unfold SX Co
 congr 1
 funext s o
 push_cast
 rfl
theorem Lo {n m : Int} {ss os : List Rat} : Co n m ss os = Co m n os ss := by
 unfold Co
 rw [List.zipWith_comm]
 congr 1
 funext o s
 push_cast
 grind
@[simp] theorem Ny {a b : Int} : JF [a, b] = if a ≤ b then [a, b] else [b, a] := by
 unfold JF
 simp [List.mergeSort, List.MergeSort.Internal.splitInTwo, List.merge]
@[simp] theorem Tc {a b : Int} : Jw (.val (.lst [.int a, .int b])) = some (.own ((if a ≤ b then [a, b] else [b, a]).map D.int)) := by
 have : Jw (.val (.lst [.int a, .int b])) = some (.own ((JF [a, b]).map D.int)) := rfl
 rw [this, Ny]
@[simp] theorem Wk {a b c d e : D} : atI [a, b, c, d, e] (-4) = some b := nr rfl
@[simp] theorem WE {a b c d e f : D} : atI [a, b, c, d, e, f] (-4) = some c := nr rfl
theorem OH {i j : Nat} (ht : Lg t) (h : F2 t k st) (hk : k ≤ 17) (hc : Can t st (.pool i j)) : A1 [BB st.loads, HE st.loads, (Aj.pool i j).d] S = some (shD (Co (AN st.loads i).n (AN st.loads j).n (AN st.loads i).ow (AN st.loads j).ow), S) := by
 obtain ⟨hij, hi, hj, h1, h2, h3⟩ := hc
 have sz := h.sz
 have pi := h.pcs _ (Ad hi)
 have pj := h.pcs _ (Ad hj)
 have ti := h.own _ (Ad hi)
 have tj := h.own _ (Ad hj)
 have zi := sz.1 _ (Ad hi)
 have zj := sz.1 _ (Ad hj)
 have hp : t.p ≤ 10 := by have := ht.2.1; omega
 ·by_cases hle : i ≤ j
  ·have hle' : (i : Int) ≤ j := by omega
   have e := ED (S := S) (j := 30 + 170 * k) (n := 131 + k) zi zj (GH pi.1 pi.2) (GH pj.1 pj.2) (by omega) (by omega) (by omega)
   rw [IP] at e
   have a1 := DY hi
   have a2 := DY hj
   have b1 := Io hi
   have b2 := Io hj
   have mf : BV [(Aj.pool i j).d] S = some (.lst [.int i, .int j], S) := by
    simp [BV, Cj, Aj.d, hle, hle']
   simp only [Aj.d] at mf ⊢
   simp [A1, B5, mf, a1, a2, b1, b2, e]
  ·have hle' : ¬ (i : Int) ≤ j := by omega
   have e := ED (S := S) (j := 30 + 170 * k) (n := 131 + k) zj zi (GH pj.1 pj.2) (GH pi.1 pi.2) (by omega) (by omega) (by omega)
   rw [IP, Lo] at e
   have a1 := DY hi
   have a2 := DY hj
   have b1 := Io hi
   have b2 := Io hj
   have mf : BV [(Aj.pool i j).d] S = some (.lst [.int j, .int i], S) := by
    simp [BV, Cj, Aj.d, hle, hle']
   simp only [Aj.d] at mf ⊢
   simp [A1, B5, mf, a1, a2, b1, b2, e]
theorem Oa {i kd : Nat} {g n : Int} (hi : i < st.loads.length) : A1 [BB st.loads, HE st.loads, (Aj.swap i g kd n).d] S = some (shD (AN st.loads i).ow, S) := by
 have b1 := Io hi
 simp [A1, B5, BV, Cj, Aj.d, b1]
theorem NB {i kd : Nat} {u g n : Int} (hi : i < st.loads.length) : A1 [BB st.loads, HE st.loads, (Aj.trade u i g kd n).d] S = some (shD (AN st.loads i).ow, S) := by
 have b1 := Io hi
 simp [A1, B5, BV, Cj, Aj.d, b1]
theorem QB {ws : List Int} (h : F2 t k st) (hk : k ≤ 17) (hl : ws.length = t.k + 1) (hw : ∀ w ∈ ws, 1 ≤ w /\ w ≤ 99) : CS [t.d, BB st.loads, .tup (ws.map D.int)] S = some (.int (DM t st.loads ws), S) := by
 have hlen := h.len
 have e := CT (gs := []) (t := tTp [(tNm 1), (tNm 2)]) (f := eOp (o2 Bl) [(eV 2), (eOp (o2 wIx) [(eV 0), (eV 1)])]) (C := [some (.tup (ws.map D.int))]) (m := 2) (e := hD) (g := fun x => D.int (x.n * ws.getD x.k 0)) (S := S) Ah (xs := st.loads) (acc := []) (os := [none, none]) rfl (Nat.le_trans (show _ ≤ 50 by simp; omega) (AV (by decide))) (by
  intro x hx os ho
  obtain ⟨q1, q2, rfl⟩ : ∃ q1 q2, os = [q1, q2] := by
   match os, ho with
   | [a, b], _ => exact ⟨a, b, rfl⟩
  have hkk := h.kind _ hx
  have w1 := SI (ws := ws) (i := x.k) (by omega)
  have w2 := Kq hw (i := x.k) (by omega)
  have m1 : Cp x.n (ws.getD x.k 0) = true := mulR (by omega) (by omega)
  generalize ws.getD x.k 0 = wz at *
  refine ⟨[some (.int x.k), some (.int x.n)], rfl, by simp, ?_⟩
  simp [w1, m1])
 simp only [List.cons_append, List.nil_append] at e
 have es : Iq (st.loads.map fun x => D.int (x.n * ws.getD x.k 0)) = some (st.loads.map fun x => x.n * ws.getD x.k 0) := by
  have := Ea (st.loads.map fun x => x.n * ws.getD x.k 0)
  rwa [List.map_map] at this
 have w2 := Lz hl
 have w4 := Kq hw (i := t.k) (by omega)
 have m2 : Cp (t.b : Int) (ws.getD t.k 0) = true := mulR (by omega) (by omega)
 have e2 : DM t st.loads ws = (st.loads.map fun x => x.n * ws.getD x.k 0).sum + t.b * ws.getD t.k 0 := rfl
 rw [e2]
 have sq : sqD S (BB st.loads) = some (st.loads.map hD, []) := rfl
 generalize (st.loads.map fun x => x.n * ws.getD x.k 0) = es' at *
 generalize (st.loads.map fun x => D.int (x.n * ws.getD x.k 0)) = es2 at *
 generalize ws.getD t.k 0 = wb at *
 simp [CS, FD, Tr.d, sq, e, es, w2, m2]
theorem Sd {i : Nat} {n : Int} {ws : List Int} (ht : Lg t) (h : F2 t k st) (hk : k ≤ 17) (hc : Can t st (.thr i n ws)) : Cr [t.d, BB st.loads, (Aj.thr i n ws).d] S = some (aD (Iu t st.loads i n ws), S) := by
 obtain ⟨hi, h1, h2, hl, hw⟩ := hc
 have a := Hy ht h (by omega) hl hw
 have w1 := SI (ws := ws) (i := (AN st.loads i).k) (by have := h.kind _ (Ad hi); omega)
 have w3 := Kq hw (i := (AN st.loads i).k) (by have := h.kind _ (Ad hi); omega)
 have m1 : Cp n (ws.getD (AN st.loads i).k 0) = true := mulR (by omega) (by omega)
 have l1 := PN (S := S) (t := n * ws.getD (AN st.loads i).k 0) a.1 (DQ (GH (by omega) a.2) (by omega))
 have wo := QB (S := S) h hk hl hw
 have ah := DY hi
 rw [KJ hi]
 generalize aD (((n * ws.getD (AN st.loads i).k 0 : Int) : Rat) / (DM t st.loads ws : Rat)) = R at *
 generalize ws.getD (AN st.loads i).k 0 = wa at *
 simp [Cr, FV, Aj.d, ah, w1, m1, wo, l1]
theorem OV {X : Rat} {ss os : List Rat} : SX ((X.den : Int) - X.num) X.num ss os = JO X os ss := by
 unfold SX JO
 congr 1
 funext s o
 have h1 := C5 X
 have h2 := F4 X
 push_cast
 have e : ((X.den : Rat) - (X.num : Rat) + (X.num : Rat)) = (X.den : Rat) := by grind
 rw [e]
 grind
theorem Ov {i : Nat} {n : Int} {ws : List Int} {ss : List Rat} (ht : Lg t) (h : F2 t k st) (hk : k ≤ 17) (hc : Can t st (.thr i n ws)) (hs : ∀ r ∈ ss, Sz (30 + 170 * k) r) (hl : ss.length ≤ 10) : CD [t.d, BB st.loads, HE st.loads, (Aj.thr i n ws).d, shD ss] S = some (shD (JO (Iu t st.loads i n ws) (AN st.loads i).ow ss), S) := by
 have pt := Sd (S := S) ht h hk hc
 obtain ⟨hi, h1, h2, hl', hw⟩ := hc
 have cz := Tn ht h (by omega) hl' hw hi h1 h2
 have b1 := Io hi
 generalize Iu t st.loads i n ws = X at *
 have d0 := den_pos X
 have c2 := cz.2
 have e := ED (S := S) (w := (X.den : Int) - X.num) (m := X.num) (j := 30 + 170 * k) (n := 146 + k) hs (h.sz.1 _ (Ad hi)) (by
  have c1 := cz.1
  have : 2 ^ (146 + k) = 2 ^ (145 + k) * 2 := by rw [show 146 + k = (145 + k) + 1 by omega, Nat.pow_succ]
  generalize 2 ^ (145 + k) = P at *
  omega) (X5 cz.1 (by omega)) (by omega) (by omega) hl
 rw [OV] at e
 generalize JO X (AN st.loads i).ow ss = rs at *
 simp only [aD, Aj.d] at pt ⊢
 simp [CD, EV, pt, b1, e]
theorem PK {p q : Nat} {x : Rat} {ss : List Rat} {j i : Nat} (hs : ∀ r ∈ ss, Sz j r) (hx : Sz i x) (hj : 2 * j + i ≤ 7900) (hp : p < ss.length) (hq : q < ss.length) (hpq : p ≠ q) : ∃ S', Ct [(Aj.sell p q x).d, shD ss] S = some (shD (Iv p q x ss), S') /\ Cw [] S S' := by
 have sp := hs _ (getD_mem (d := 0) hp)
 have sq := hs _ (getD_mem (d := 0) hq)
 have l1 : ∀ S, D0 [aD (ss.getD p 0), aD x] S = some (aD (ss.getD p 0 * x), S) := fun S => SR sp hx (by omega)
 have s1 := Vm sp hx
 have l2 : ∀ S, Gq [aD (ss.getD p 0), aD (ss.getD p 0 * x)] S = some (aD (ss.getD p 0 - ss.getD p 0 * x), S) := fun S => YY sp s1 (by omega)
 have l3 : ∀ S, Ew [aD (ss.getD q 0), aD (ss.getD p 0 * x)] S = some (aD (ss.getD q 0 + ss.getD p 0 * x), S) := fun S => Uw sq s1 (by omega)
 have a1 := Ro hp
 have a2 := Ro hq
 have i1 := Vd hp
 have i2 : ixN (((ss.map aD).set p (aD (ss.getD p 0 - ss.getD p 0 * x))).length) (q : Int) = some q := Jt (by simpa using hq)
 refine ⟨S ++ [.lst ((Iv p q x ss).map aD)], ?_, .app⟩
 simp only [List.length_set, List.length_map] at i1 i2
 have em : (Iv p q x ss).map aD = ((ss.map aD).set p (aD (ss.getD p 0 - ss.getD p 0 * x))).set q (aD (ss.getD q 0 + ss.getD p 0 * x)) := by rw [Iv, List.map_set, List.map_set]
 unfold shD
 rw [em]
 generalize aD (ss.getD p 0 - ss.getD p 0 * x) = d1 at *
 generalize aD (ss.getD q 0 + ss.getD p 0 * x) = d2 at *
 generalize aD (ss.getD p 0 * x) = d3 at *
 generalize aD (ss.getD p 0) = d4 at *
 generalize aD (ss.getD q 0) = d5 at *
 simp [Ct, Fc, Aj.d, a1, a2, l1, l2, l3, i1, i2]
end
end Mi
end
section
namespace Mi
open PySem PySem.Spec L2
theorem Kh {α : Type} {gs : Gd} {t : Tf} {f : Ev} {C : En} {m : Nat} {e g : α -> D} (hg : ∀ S, gOk gs S) : ∀ {xs : List α} {acc : List D} {os : En} {S : Sto}, os.length = m -> acc.length + xs.length ≤ sizeLine ->
    (∀ x ∈ xs, ∀ os S, os.length = m -> ∃ us S', us.length = m /\ t (e x) (C ++ os) S = some (C ++ us) /\ f (C ++ us) S = some (g x, S') /\ Cw [] S S') ->
    ∃ S', By gs t BM f (xs.map e) acc (C ++ os) S = some (acc ++ xs.map g, S') /\ Cw [] S S'
  | [], acc, os, S, ho, hz, h => ⟨S, by rw [List.map_nil, D8 (hg S)]; simp, .refl⟩
  | x :: xs, acc, os, S, ho, hz, h => by
    obtain ⟨us, S1, hu, e1, e2, s1⟩ := h x List.mem_cons_self os S ho
    obtain ⟨S2, e3, s2⟩ := Kh hg (xs := xs) (acc := acc ++ [g x]) (os := us) (S := S1) hu (by simp at hz ⊢; omega) fun x' hx => h x' (List.mem_cons_of_mem _ hx)
    refine ⟨S2, ?_, s1.trans s2⟩
    rw [List.map_cons, GI (hg S) (by simp at hz; omega) e1 Ee, e2, Cv, e3]
    simp
section
variable {S : Sto} {st : Stt} {t : Tr} {k : Nat}
def shB (t : Tr) (st : Stt) : Aj -> List Rat -> List Rat
 | .thr i n ws, ss => JO (Iu t st.loads i n ws) (AN st.loads i).ow ss
 | .sell p q x, ss => Iv p q x ss
 | _, ss => ss
theorem LR {d : Aj} {ss : List Rat} (ht : Lg t) (h : F2 t k st) (hk : k ≤ 17) (hc : Can t st d) (hs : ∀ r ∈ ss, Sz (30 + 170 * k) r) (hl : ss.length = t.p) : ∃ S', AU [t.d, BB st.loads, HE st.loads, d.d, shD ss] S = some (shD (shB t st d ss), S') /\ Cw [] S S' := by
  have tp := ht.2.1
  cases d with
  | thr i n ws =>
    have e := Ov (S := S) ht h hk hc hs (by omega)
    refine ⟨S, ?_, .refl⟩
    simp only [Aj.d] at e ⊢
    simp [AU, Au, e, shB]
  | sell p q x =>
    obtain ⟨hpq, hp, hq, x1, x2, x3⟩ := hc
    have hx : Sz 4 x := by
      refine ⟨?_, by omega⟩
      show x.num.natAbs < 16
      omega
    obtain ⟨S', e, sm⟩ := PK (S := S) (p := p) (q := q) hs hx (by omega) (by omega) (by omega) hpq
    refine ⟨S', ?_, sm⟩
    simp only [Aj.d] at e ⊢
    simp [AU, Au, e, shB]
  | bring p kd n => exact ⟨S, by simp [AU, Au, Aj.d, shB], .refl⟩
  | pool i j => exact ⟨S, by simp [AU, Au, Aj.d, shB], .refl⟩
  | swap i g kd n => exact ⟨S, by simp [AU, Au, Aj.d, shB], .refl⟩
  | trade u i g kd n => exact ⟨S, by simp [AU, Au, Aj.d, shB], .refl⟩
  | spoil i n => exact ⟨S, by simp [AU, Au, Aj.d, shB], .refl⟩
theorem OQ {d : Aj} : (step t st d).hold = shB t st d st.hold := by cases d <;> rfl
theorem HC {i : Nat} {n : Int} {ls : List Ld} (hi : i < ls.length) {β : Type} (f : List Rat -> β) : (less ls i n).map (fun x => f x.ow) = ls.map fun x => f x.ow := by
 rw [Lj, List.map_set]
 have : (ls.map fun x => f x.ow)[i]? = some (f (AN ls i).ow) := by rw [List.getElem?_map, EJ hi]; rfl
 apply List.ext_getElem?
 intro j
 by_cases e : i = j
 ·subst e; rw [List.getElem?_set_self (by simpa using hi), this]
 ·rw [List.getElem?_set_ne e]
@[simp] theorem Yw {ls : List Ld} : sqD S (HE ls) = some (ls.map fun x => shD x.ow, []) := nr rfl
theorem N5 {d : Aj} (ht : Lg t) (h : F2 t k st) (hk : k ≤ 17) (hc : Can t st d) : ∃ S', AY [t.d, BB st.loads, HE st.loads, d.d] S = some (HE (step t st d).loads, S') /\ Cw [] S S' := by
  have hlen := h.len
  have sz := h.sz
  have tp := ht.2.1
  obtain ⟨S', e, sm⟩ := Kh (gs := []) (t := tNm 4) (f := AJ AU [(eV 0), (eV 1), (eV 2), (eV 3), (eV 4)]) (C := [some t.d, some (BB st.loads), some (HE st.loads), some d.d]) (m := 1) (e := fun x : Ld => shD x.ow) (g := fun x => shD (shB t st d x.ow)) (fun _ => Ah) (xs := st.loads) (acc := []) (os := [none]) (S := S) rfl (Nat.le_trans (show _ ≤ 50 by simp; omega) (AV (by decide))) (by
    intro x hx os S0 ho
    obtain ⟨q1, rfl⟩ : ∃ q1, os = [q1] := by
      match os, ho with
      | [a], _ => exact ⟨a, rfl⟩
    obtain ⟨S1, e1, s1⟩ := LR (S := S0) (d := d) (ss := x.ow) ht h hk hc (sz.1 x hx) (h.own x hx)
    refine ⟨[some (shD x.ow)], S1, rfl, by simp, ?_, s1⟩
    simp [e1])
  simp only [List.cons_append, List.nil_append] at e
  refine ⟨S', ?_, sm⟩
  have hz : (st.loads.map fun x => shD (shB t st d x.ow)).length + 1 ≤ sizeLine := Nat.le_trans (show _ ≤ 100 by simp; omega) (AV (by decide))
  cases d with
  | bring p kd n =>
    have a1 := Jv (S := S') (P := t.p) (p := p) (by omega)
    have ef : HE (step t st (.bring p kd n)).loads = .lst ((st.loads.map fun x => shD (shB t st (.bring p kd n) x.ow)) ++ [shD (RQ t.p p)]) := by simp [HE, step, shB]
    rw [ef]
    generalize (st.loads.map fun x => shD (shB t st (.bring p kd n) x.ow)) = A at *
    simp only [Aj.d, Tr.d] at e ⊢
    simp [AY, Ar, e, a1, hz]
  | pool i j =>
    have a1 := OH (S := S') ht h hk hc
    obtain ⟨hij, hi, hj, h1, h2, h3⟩ := hc
    have e0 : AN (less st.loads i (AN st.loads i).n) j = AN st.loads j := by
      unfold AN less
      rw [List.getD_eq_getElem?_getD, List.getElem?_set_ne hij, ← List.getD_eq_getElem?_getD]
    have ef : HE (step t st (.pool i j)).loads = .lst ((st.loads.map fun x => shD (shB t st (.pool i j) x.ow)) ++ [shD (Co (AN st.loads i).n (AN st.loads j).n (AN st.loads i).ow (AN st.loads j).ow)]) := by
      show D.lst ((less (less st.loads i (AN st.loads i).n) j (AN st.loads j).n ++ [_]).map fun x : Ld => shD x.ow) = _
      rw [List.map_append, HC (by rw [BN]; exact hj), HC hi]
      rfl
    rw [ef]
    generalize (st.loads.map fun x => shD (shB t st (.pool i j) x.ow)) = A at *
    simp only [Aj.d] at e a1 ⊢
    simp [AY, Ar, e, a1, hz]
  | swap i g kd n =>
    have hi := hc.1
    have a1 := Oa (S := S') (st := st) (i := i) (kd := kd) (g := g) (n := n) hi
    have ef : HE (step t st (.swap i g kd n)).loads = .lst ((st.loads.map fun x => shD (shB t st (.swap i g kd n) x.ow)) ++ [shD (AN st.loads i).ow]) := by
      show D.lst ((less st.loads i g ++ [_]).map fun x : Ld => shD x.ow) = _
      rw [List.map_append, HC hi]
      rfl
    rw [ef]
    generalize (st.loads.map fun x => shD (shB t st (.swap i g kd n) x.ow)) = A at *
    simp only [Aj.d] at e a1 ⊢
    simp [AY, Ar, e, a1, hz]
  | trade u i g kd n =>
    have hi := hc.1
    have a1 := NB (S := S') (st := st) (i := i) (kd := kd) (u := u) (g := g) (n := n) hi
    have ef : HE (step t st (.trade u i g kd n)).loads = .lst ((st.loads.map fun x => shD (shB t st (.trade u i g kd n) x.ow)) ++ [shD (AN st.loads i).ow]) := by
      show D.lst ((less st.loads i g ++ [_]).map fun x : Ld => shD x.ow) = _
      rw [List.map_append, HC hi]
      rfl
    rw [ef]
    generalize (st.loads.map fun x => shD (shB t st (.trade u i g kd n) x.ow)) = A at *
    simp only [Aj.d] at e a1 ⊢
    simp [AY, Ar, e, a1, hz]
  | spoil i n =>
    have ef : HE (step t st (.spoil i n)).loads = .lst (st.loads.map fun x => shD (shB t st (.spoil i n) x.ow)) := by
      show D.lst ((less st.loads i n).map fun x : Ld => shD x.ow) = _
      rw [HC hc.1]
      rfl
    rw [ef]
    generalize (st.loads.map fun x => shD (shB t st (.spoil i n) x.ow)) = A at *
    simp only [Aj.d] at e ⊢
    simp [AY, Ar, e]
  | thr i n ws =>
    have ef : HE (step t st (.thr i n ws)).loads = .lst (st.loads.map fun x => shD (shB t st (.thr i n ws) x.ow)) := by
      show D.lst (((less st.loads i n).map _).map fun x : Ld => shD x.ow) = _
      rw [List.map_map]
      exact congrArg D.lst (HC hc.1 (fun o => shD (JO (Iu t st.loads i n ws) (AN st.loads i).ow o)))
    rw [ef]
    generalize (st.loads.map fun x => shD (shB t st (.thr i n ws) x.ow)) = A at *
    simp only [Aj.d] at e ⊢
    simp [AY, Ar, e]
  | sell p q x =>
    have ef : HE (step t st (.sell p q x)).loads = .lst (st.loads.map fun y => shD (shB t st (.sell p q x) y.ow)) := by
      show D.lst ((st.loads.map _).map fun y : Ld => shD y.ow) = _
      rw [List.map_map]
      rfl
    rw [ef]
    generalize (st.loads.map fun y => shD (shB t st (.sell p q x) y.ow)) = A at *
    simp only [Aj.d] at e ⊢
    simp [AY, Ar, e]
@[simp] theorem Ya {ls : List Ld} : sqD S (BB ls) = some (ls.map hD, []) := nr rfl
theorem Jr {ls : List Ld} {x y : D} (hl : ls.length ≤ 50) : Bm [.tup [x, .tup (ls.map Ld.d), y]] S = some (BB ls, S) := by
 have e := CT (gs := []) (t := tNm 0) (f := D9 [(eOp (o2 wIx) [(eV 0), (eC (.int 0))]), (eOp (o2 wIx) [(eV 0), (eC (.int 1))])]) (C := []) (m := 1) (e := Ld.d) (g := hD) (S := S) Ah (xs := ls) (acc := []) (os := [none]) rfl (Nat.le_trans (show _ ≤ 50 by simp; omega) (AV (by decide))) (by
  intro x hx os ho
  obtain ⟨q1, rfl⟩ : ∃ q1, os = [q1] := by
   match os, ho with
   | [a], _ => exact ⟨a, rfl⟩
  refine ⟨[some x.d], rfl, by simp, ?_⟩
  simp [Ld.d, hD])
 simp only [List.nil_append] at e
 simp [Bm, Eb, e, BB]
theorem Nr {ls : List Ld} (hl : ls.length ≤ 50) : By [] (tNm 0) BM (eOp (o2 wIx) [(eV 0), (eC (.int 2))]) (ls.map Ld.d) [] [none] S = some (ls.map fun x => shD x.ow, S) :=
 CT (gs := []) (t := tNm 0) (f := eOp (o2 wIx) [(eV 0), (eC (.int 2))]) (C := []) (m := 1) (e := Ld.d) (g := fun x => shD x.ow) (S := S) Ah (xs := ls) (acc := []) (os := [none]) rfl (Nat.le_trans (show _ ≤ 50 by simp; omega) (AV (by decide))) (by
  intro x hx os ho
  obtain ⟨q1, rfl⟩ : ∃ q1, os = [q1] := by
   match os, ho with
   | [a], _ => exact ⟨a, rfl⟩
  refine ⟨[some x.d], rfl, by simp, ?_⟩
  simp [Ld.d])
theorem MJ {ls : List Ld} {ds : List Aj} {n : Nat} (h : EW t ls ds) (hn : n ≤ ds.length) : ∃ S', DH [CZ t ls ds, .int n] S = some (.tup [BB (runs t (st0 t ls) (ds.take n)).loads, HE (runs t (st0 t ls) (ds.take n)).loads, shD (runs t (st0 t ls) (ds.take n)).hold], S') /\ Cw [] S S' := by
 have hl0 : ls.length ≤ 4 := h.inv.len
 have ct : Hg (ds.map Aj.d) none (some (n : Int)) = (ds.take n).map Aj.d := by rw [KU (by simpa using hn), List.map_take]
 obtain ⟨E', S', ef, i, o, f1, f2, rfl, f3⟩ := GL (gs := []) (t := tNm 8) (b := Am (CB 7 (AJ AU [(eV 2), (eV 5), (eV 6), (eV 8), (eV 7)]))
  (Am (CB 6 (AJ AY [(eV 2), (eV 5), (eV 6), (eV 8)]))
  (CB 5 (AJ AZ [(eV 5), (eV 8)]))))
  (I := fun rs E S' => ∃ (i : Nat) (o : Option D), rs = ((ds.take n).drop i).map Aj.d /\ i ≤ n /\ E = [some (CZ t ls ds), some (.int n), some t.d, some (.tup (ls.map Ld.d)), some (.tup (ds.map Aj.d)), some (BB (runs t (st0 t ls) (ds.take i)).loads), some (HE (runs t (st0 t ls) (ds.take i)).loads), some (shD (runs t (st0 t ls) (ds.take i)).hold), o] /\ Cw [] S S')
  (fun _ _ _ _ => Ah) (ds := (ds.take n).map Aj.d) (E := [some (CZ t ls ds), some (.int n), some t.d, some (.tup (ls.map Ld.d)), some (.tup (ds.map Aj.d)), some (BB ls), some (HE ls), some (shD t.ho), none]) (S := S)
  ⟨0, none, by simp, Nat.zero_le _, by simp [runs, st0], .refl⟩ (by
   rintro dd rs E T ⟨i, o, i1, i2, rfl, i3⟩
   have hlt : i < (ds.take n).length := by
    rcases Nat.lt_or_ge i (ds.take n).length with w | w
    ·exact w
    ·rw [List.drop_eq_nil_of_le w] at i1; cases i1
   rw [List.drop_eq_getElem_cons hlt, List.map_cons] at i1
   injection i1 with z1 z2
   subst z1 z2
   have hlt' : i < ds.length := by simp at hlt; omega
   have hin : i < n := by simp at hlt; omega
   have hg : (ds.take n)[i] = ds[i] := List.getElem_take
   rw [hg]
   have inv := h.at i
   have il : (ds.take i).length ≤ 16 := by have := h.len; simp; omega
   have can := J1 h.good (List.getElem?_eq_getElem hlt')
   obtain ⟨T1, e1, s1⟩ := LR (S := T) h.tr inv (by omega) can inv.sz.2 inv.hold
   obtain ⟨T2, e2, s2⟩ := N5 (S := T1) h.tr inv (by omega) can
   have e3 := LJ (S := T2) inv (by omega) can
   have rt := LW (t := t) (st := st0 t ls) (List.getElem?_eq_getElem hlt')
   refine ⟨_, [some (CZ t ls ds), some (.int n), some t.d, some (.tup (ls.map Ld.d)), some (.tup (ds.map Aj.d)), some (BB (runs t (st0 t ls) (ds.take (i + 1))).loads), some (HE (runs t (st0 t ls) (ds.take (i + 1))).loads), some (shD (runs t (st0 t ls) (ds.take (i + 1))).hold), some ds[i].d], T2, by simp; rfl, ?_, i + 1, some ds[i].d, rfl, hin, rfl, (i3.trans s1).trans s2⟩
   rw [rt]
   rw [← OQ] at e1
   simp [e1, e2, e3])
 have hz : i = n := by
  have := congrArg List.length f1
  simp at this
  omega
 subst hz
 refine ⟨S', ?_, f3⟩
 have fh := Jr (S := S) (ls := ls) (x := t.d) (y := .tup (ds.map Aj.d)) (by omega)
 have fo := Nr (S := S) (ls := ls) (by omega)
 have fo' : D.lst (ls.map fun x => shD x.ow) = HE ls := rfl
 have th : atI [D.int t.p, D.int t.k, D.int t.b, shD t.ho, D.int t.h, D.int t.l] 3 = some (shD t.ho) := by simp
 simp only [CZ] at ef ⊢
 have td : wIx (.val t.d) (.val (.int 3)) = some (.val (shD t.ho)) := by simp [Tr.d]
 have dt : dr S t.d = .val t.d := rfl
 rw [List.map_take] at ef ct
 simp [DH, Hl, fh, fo, fo', -Sk, td, dt, ct, ef]
theorem F6 {ls : List Ld} {ds : List Aj} (h : EW t ls ds) : Bn [CZ t ls ds] S = some (.non, S) := by
 have hl0 : ls.length ≤ 4 := h.inv.len
 have hd := h.len
 obtain ⟨E', S', ef, i, o1, o2, f1, f2, rfl, rfl⟩ := GL (gs := []) (t := tTp [(tNm 3), (tNm 4)]) (b := Am (xIf (Ry (AJ Bo [(eV 1), (eOp (Jc false true) [(eV 2), (eV 3)]), (eV 4)])) (Bq (eV 3)) Ep)
  (CB 1 (AJ AZ [(eV 1), (eV 4)])))
  (I := fun rs E S' => ∃ (i : Nat) (o1 o2 : Option D), rs = (Lc 0 (ds.map Aj.d)).drop i /\ i ≤ ds.length /\ E = [some (CZ t ls ds), some (BB (runs t (st0 t ls) (ds.take i)).loads), some (.tup (ds.map Aj.d)), o1, o2] /\ S' = S)
  (fun _ _ _ _ => Ah) (ds := Lc 0 (ds.map Aj.d)) (E := [some (CZ t ls ds), some (BB ls), some (.tup (ds.map Aj.d)), none, none]) (S := S)
  ⟨0, none, none, by simp, Nat.zero_le _, by simp [runs, st0], rfl⟩ (by
   rintro dd rs E T ⟨i, o1, o2, i1, i2, rfl, rfl⟩
   have el : (Lc 0 (ds.map Aj.d)).length = ds.length := by rw [N1]; simp
   have hlt : i < ds.length := by
    rcases Nat.lt_or_ge i ds.length with w | w
    ·exact w
    ·rw [List.drop_eq_nil_of_le (by omega)] at i1; cases i1
   rw [List.drop_eq_getElem_cons (by omega)] at i1
   injection i1 with z1 z2
   have hd1 : dd = .tup [.int i, ds[i].d] := by
    have := Hz (ds := ds.map Aj.d) (k := 0) (i := i)
    rw [List.getElem?_eq_getElem (by omega), ← z1, List.getElem?_map, List.getElem?_eq_getElem hlt] at this
    simpa using this
   subst z2
   subst hd1
   have inv := h.at i
   have il : (ds.take i).length ≤ 16 := by simp; omega
   have can := J1 h.good (List.getElem?_eq_getElem hlt)
   have cd := OT (S := T) (ds := ds.take i) (by omega) O2 can
   have e3 := LJ (S := T) inv (by omega) can
   have rt := LW (t := t) (st := st0 t ls) (List.getElem?_eq_getElem hlt)
   have ct := KU (ds := ds.map Aj.d) (n := i) (by simp; omega)
   rw [List.map_take] at cd
   refine ⟨_, [some (CZ t ls ds), some (BB (runs t (st0 t ls) (ds.take (i + 1))).loads), some (.tup (ds.map Aj.d)), some (.int i), some ds[i].d], T, by simp; rfl, ?_, i + 1, some (.int i), some ds[i].d, rfl, hlt, rfl, rfl⟩
   rw [rt]
   simp [ct, cd, e3])
 have fh := Jr (S := S') (ls := ls) (x := t.d) (y := .tup (ds.map Aj.d)) (by omega)
 simp only [CZ] at ef ⊢
 simp [Bn, FT, fh, ef]
theorem Kc {ls : List Ld} {ds : List Aj} (h : EW t ls ds) : Bg [CZ t ls ds] S = some (.non, S) := by
 have e := F6 (S := S) h
 simp [Bg, Ed, e, isN]
theorem Kz {ls : List Ld} {ds : List Aj} {n : Nat} (hn : n ≤ ds.length) : BI [CZ t ls ds, .int n] S = some (.non, S) := by
 have h1 : (n : Int) ≤ ds.length := by omega
 have k1 : St.Kd.int.isA "int" = true := by decide
 have k2 : St.Kd.int.isA "bool" = false := by decide
 simp [k1, k2, BI, De, Cs, El, Ej, GR, EI, FZ, CZ, kdW, h1]
theorem RY {ls : List Ld} {ds : List Aj} {n : Nat} (h : EW t ls ds) (hn : n ≤ ds.length) : ∃ q S', BL [CZ t ls ds, .int n] S = some (.ref q, S') /\ S'[q]? = some (.lst ((runs t (st0 t ls) (ds.take n)).loads.map Ld.d)) /\ Cw [] S S' /\ S.length ≤ q := by
 obtain ⟨S1, e1, s1⟩ := MJ (S := S) h hn
 have r1 := Kc (S := S) h
 have r2 := Kz (S := S) (t := t) (ls := ls) hn
 have inv := (h.at n).len
 have hd := h.len
 have il : (ds.take n).length ≤ 16 := by simp; omega
 generalize runs t (st0 t ls) (ds.take n) = st at *
 have ez : NC (st.loads.map hD) (st.loads.map fun x => shD x.ow) = st.loads.map fun x => .tup [hD x, shD x.ow] := by
  unfold NC
  rw [List.zip_map', List.map_map]
  rfl
 have ec := CT (gs := []) (t := tTp [(tTp [(tNm 1), (tNm 2)]), (tNm 0)]) (f := D9 [(eV 1), (eV 2), (eV 0)]) (C := []) (m := 3) (e := fun x : Ld => D.tup [hD x, shD x.ow]) (g := Ld.d) (S := S1) Ah (xs := st.loads) (acc := []) (os := [none, none, none]) rfl (Nat.le_trans (show _ ≤ 50 by simp; omega) (AV (by decide))) (by
  intro x hx os ho
  obtain ⟨q1, q2, q3, rfl⟩ : ∃ q1 q2 q3, os = [q1, q2, q3] := by
   match os, ho with
   | [a, b, c], _ => exact ⟨a, b, c, rfl⟩
  refine ⟨[some (shD x.ow), some (.int x.k), some (.int x.n)], rfl, by simp, ?_⟩
  simp [Ld.d])
 rw [← ez] at ec
 simp only [List.nil_append] at ec
 refine ⟨S1.length, S1 ++ [.lst (st.loads.map Ld.d)], ?_, List.getElem?_concat_length, s1.trans .app, s1.len⟩
 simp [BL, Hq, r1, r2, e1, ec]
end
end Mi
end
section
namespace Mi
open PySem PySem.Spec L2
theorem X2 {n : Nat} : ∀ {ds : List D}, (∀ d ∈ ds, d.py.depth ≤ n) -> PyData.depthAll (D.pys ds) ≤ n
  | [], _ => by simp [D.pys, PyData.depthAll]
  | d :: ds, h => by
    have h1 := h d List.mem_cons_self
    have h2 := X2 fun e he => h e (List.mem_cons_of_mem _ he)
    simp only [D.pys, PyData.depthAll]
    omega
theorem V2 {n : Nat} {ds : List D} (h : ∀ d ∈ ds, d.py.depth ≤ n) : (D.lst ds).py.depth ≤ n + 1 := by
 have := X2 h
 simp only [D.py, PyData.depth]
 omega
theorem Tv {n : Nat} {ds : List D} (h : ∀ d ∈ ds, d.py.depth ≤ n) : (D.tup ds).py.depth ≤ n + 1 := by
 have := X2 h
 simp only [D.py, PyData.depth]
 omega
theorem To {i : Int} {n : Nat} : (D.int i).py.depth ≤ n + 1 := by
 simp only [D.py, PyData.depth]
 omega
theorem Yn {r : Rat} : (aD r).py.depth ≤ 2 := Tv (n := 1) (by
 intro d hd
 simp only [List.mem_cons, List.not_mem_nil, or_false] at hd
 rcases hd with rfl | rfl <;> exact To)
theorem Z6 {rs : List Rat} : (shD rs).py.depth ≤ 3 := Tv (n := 2) (by
 intro d hd
 obtain ⟨r, _, rfl⟩ := List.mem_map.mp hd
 exact Yn)
theorem Ni {r : Rat} : (aD r).lay = true := rfl
theorem SF {rs : List Rat} : (shD rs).lay = true := Fm fun _ _ => Ni
theorem G3 {d : D} (h : d.lay = true) (g : d.py.depth ≤ 60) : Cu d d = true := by
 unfold Cu
 rw [h]
 simp only [Bool.true_and, decide_eq_true_eq]
 omega
theorem Hw {d : D} (h : d.lay = true) : deq d d = true := PySem.SeqAt.eqv_refl _ (HI h)
theorem Sw {rs : List Rat} : Cu (shD rs) (shD rs) = true := G3 SF (Nat.le_trans Z6 (by decide))
theorem U7 {rs : List Rat} : deq (shD rs) (shD rs) = true := Hw SF
section
variable {S : Sto}
theorem UB {ns : List Int} {k : Nat} : ∃ c, CH [.scr ns, .int k] S = some (.int c, S) := by
 by_cases h : k < ns.length
 ·have h' : (k : Int) < ns.length := by omega
  refine ⟨ns[k], ?_⟩
  have e : atI (ns.map D.int) (k : Int) = some (.int ns[k]) := CL (by rw [List.getElem?_map, List.getElem?_eq_getElem h]; rfl)
  simp [CH, Ez, h, h', e]
 ·have h' : ¬ (k : Int) < ns.length := by omega
  exact ⟨0, by simp [CH, Ez, h, h']⟩
end
end Mi
end
section
namespace Mi
open PySem PySem.Spec L2
theorem Ok.add {G B C : Nat} {r q : Rat} (h : Ok G B r) (g : Ok G C q) : Ok G (B + C) (r + q) := by
 obtain ⟨z, e1, h1⟩ := h
 obtain ⟨y, e2, h2⟩ := g
 refine ⟨z + y, ?_, Nat.add_le_add h1 h2⟩
 push_cast
 rw [← e1, ← e2]
 grind
theorem Ok.mono {G B C : Nat} {r : Rat} (h : Ok G B r) (g : B ≤ C) : Ok G C r := by
 obtain ⟨z, e, hz⟩ := h
 exact ⟨z, e, Nat.le_trans hz g⟩
theorem Ok.mulN {G B N : Nat} {r : Rat} {n : Int} (h : Ok G B r) (h0 : 0 ≤ n) (h1 : n ≤ N) : Ok G (B * N) ((n : Rat) * r) := by
 obtain ⟨z, e, hz⟩ := h
 refine ⟨z * n.toNat, ?_, Nat.mul_le_mul hz (by omega)⟩
 push_cast
 rw [FU h0, ← e]
 grind
theorem Ok.int {G : Nat} {n : Int} {N : Nat} (h0 : 0 ≤ n) (h1 : n ≤ N) : Ok G (G * N) (n : Rat) := by
 have := (Ok.one (G := G) (B := G) (Nat.le_refl _)).mulN (N := N) h0 h1
 have e : (n : Rat) * 1 = (n : Rat) := by grind
 rwa [e] at this
theorem Me {F : Fn} (hF : ∀ {j k : Nat} {p q : Rat} (S : Sto), Sz j p -> Sz k q -> j + k ≤ 7990 -> F [aD p, aD q] S = some (aD (p + q), S)) {gs : Gd} {S : Sto} (hg : gOk gs S) {X : Option D} {G B K : Nat} (hG : 0 < G) (gK : G < 2 ^ K) (hK : 2 * K ≤ 7990) : ∀ {rs : List Rat} {acc : Rat} {m : Nat} {o : Option D}, Ok G (m * B) acc -> (∀ r ∈ rs, Ok G B r) -> (m + rs.length) * B < 2 ^ K ->
    ∃ o', J3 gs (tNm 2) (CB 1 (AJ F [(eV 1), (eV 2)])) (rs.map aD) [X, some (aD acc), o] S = some (.nx, [X, some (aD (acc + rs.sum)), o'], S)
  | [], acc, m, o, ha, hr, hb => ⟨o, by
      rw [List.map_nil, J9 hg, List.sum_nil]
      have : acc + 0 = acc := by grind
      rw [this]⟩
  | r :: rs, acc, m, o, ha, hr, hb => by
    have h1 := hr r List.mem_cons_self
    have b1 : (m + 1) * B ≤ (m + (r :: rs).length) * B := Nat.mul_le_mul_right _ (by simp)
    have mb : (m + 1) * B = m * B + B := by rw [Nat.succ_mul]
    have za : Sz K acc := ha.sz hG gK (by omega)
    have zr : Sz K r := h1.sz hG gK (by omega)
    have e := hF S za zr (by omega)
    have ha2 : Ok G ((m + 1) * B) (acc + r) := by rw [mb]; exact ha.add h1
    obtain ⟨o', ih⟩ := Me hF hg hG gK hK (X := X) (B := B) (rs := rs) (acc := acc + r) (m := m + 1) (o := some (aD r)) ha2 (fun q hq => hr q (List.mem_cons_of_mem _ hq)) (by
      have : m + 1 + rs.length = m + (r :: rs).length := by simp; omega
      rw [this]; exact hb)
    refine ⟨o', ?_⟩
    have ea : acc + (r :: rs).sum = acc + r + rs.sum := by rw [List.sum_cons]; grind
    rw [List.map_cons, HU hg, ea, ← ih]
    simp [e]
theorem N4 : aD 0 = .tup [.int 0, .int 1] := rfl
end Mi
end
section
namespace Mi
open PySem PySem.Spec L2
section
variable {S : Sto}
theorem Tg {rs : List Rat} {G B K : Nat} (hG : 0 < G) (gK : G < 2 ^ K) (hK : 2 * K ≤ 7990) (hr : ∀ r ∈ rs, Ok G B r) (hb : rs.length * B < 2 ^ K) : Ce [.lst (rs.map aD)] S = some (aD rs.sum, S) := by
 obtain ⟨o', e⟩ := Me (F := EU) (fun S h1 h2 h3 => Vv h1 h2 h3) (gs := []) (S := S) Ah (X := some (.lst (rs.map aD))) (B := B) hG gK hK (rs := rs) (acc := 0) (m := 0) (o := none) (by rw [Nat.zero_mul]; exact Ok.zero) hr (by simpa using hb)
 have ez : (0 : Rat) + rs.sum = rs.sum := by grind
 rw [ez, N4] at e
 simp [Ce, LX, e]
end
end Mi
end
section
namespace Mi
open PySem PySem.Spec L2
def ownAt (x : Ld) (p : Nat) : Rat := x.ow.getD p 0
def kindS (ls : List Ld) (p kd : Nat) : Rat := ((ls.filter fun x => x.k == kd).map fun x => (x.n : Rat) * ownAt x p).sum
def BO (k : Nat) (ls : List Ld) (p : Nat) : List Rat := (List.range k).map (kindS ls p)
theorem NW {ls : List Ld} {x : Ld} {p kd : Nat} : kindS (ls ++ [x]) p kd = if x.k = kd then kindS ls p kd + (x.n : Rat) * ownAt x p else kindS ls p kd := by
 unfold kindS
 rw [List.filter_append, List.map_append, List.sum_append]
 by_cases h : x.k = kd
 ·simp [h]; grind
 ·simp [h]; grind
theorem Ja {ls : List Ld} {x : Ld} {p kd : Nat} : kindS (x :: ls) p kd = (if x.k = kd then (x.n : Rat) * ownAt x p else 0) + kindS ls p kd := by
 unfold kindS
 rw [List.filter_cons]
 by_cases h : x.k = kd
 ·simp [h]
 ·simp [h]; grind
theorem Ln {k : Nat} {ls : List Ld} {x : Ld} {p : Nat} : BO k (ls ++ [x]) p = (BO k ls p).set x.k (kindS ls p x.k + (x.n : Rat) * ownAt x p) := by
 unfold BO
 apply List.ext_getElem
 ·simp
 ·intro i h1 h2
  rw [List.getElem_set]
  simp only [List.getElem_map, List.getElem_range, NW]
  by_cases h : x.k = i
  ·subst h; simp
  ·simp [h]
structure Bd (ls : List Ld) (G B N K : Nat) : Prop where
 g0 : 0 < G
 gK : G < 2 ^ K
 hK : 2 * K ≤ 7000
 own : ∀ l ∈ ls, ∀ r ∈ l.ow, Ok G B r
 pcs : ∀ l ∈ ls, 0 ≤ l.n /\ l.n ≤ N
 hB : B < 2 ^ K
 hN : N < 2 ^ K
 hb : 200 * (B * N) < 2 ^ K
 len : ls.length ≤ 30
section
variable {S : Sto} {ls : List Ld} {G B N K : Nat}
theorem Bd.at (h : Bd ls G B N K) {x : Ld} (hx : x ∈ ls) (p : Nat) : Ok G B (ownAt x p) := by
 unfold ownAt
 rw [List.getD_eq_getElem?_getD]
 cases e : x.ow[p]? with
 | none => exact Ok.zero
 | some r => exact h.own x hx r (List.mem_of_getElem? e)
theorem Bd.mul (h : Bd ls G B N K) {x : Ld} (hx : x ∈ ls) (p : Nat) : Ok G (B * N) ((x.n : Rat) * ownAt x p) := (h.at hx p).mulN (h.pcs x hx).1 (h.pcs x hx).2
theorem MX {G C : Nat} {p kd : Nat} : ∀ {ls : List Ld}, (∀ l ∈ ls, Ok G C ((l.n : Rat) * ownAt l p)) -> Ok G (ls.length * C) (kindS ls p kd)
  | [], _ => Ok.zero
  | x :: ls, h => by
    rw [Ja]
    have ih := MX (kd := kd) (ls := ls) fun l hl => h l (List.mem_cons_of_mem _ hl)
    have h1 : Ok G C (if x.k = kd then (x.n : Rat) * ownAt x p else 0) := by
      split
      · exact h x List.mem_cons_self
      · exact Ok.zero
    have := h1.add ih
    rw [List.length_cons, Nat.succ_mul, Nat.add_comm]
    exact this
theorem Bd.kind (h : Bd ls G B N K) {p kd : Nat} : Ok G (30 * (B * N)) (kindS ls p kd) := (MX fun l hl => h.mul hl p).mono (Nat.mul_le_mul_right _ h.len)
theorem Bd.take (h : Bd ls G B N K) (i : Nat) : Bd (ls.take i) G B N K := ⟨h.g0, h.gK, h.hK, fun l hl => h.own l (List.mem_of_mem_take hl), fun l hl => h.pcs l (List.mem_of_mem_take hl), h.hB, h.hN, h.hb, by have := h.len; simp; omega⟩
theorem Bd.nSz (h : Bd ls G B N K) {x : Ld} (hx : x ∈ ls) : Sz K (x.n : Rat) := by
 have o := Ok.int (G := 1) (h.pcs x hx).1 (h.pcs x hx).2
 refine o.sz (by decide) ?_ (by rw [Nat.one_mul]; exact h.hN)
 have := h.gK; have := h.g0; omega
theorem Lk {n : Nat} : GV 0 (n : Int).toNat = (List.range n).map fun (i : Nat) => D.int i := by simp [GV]
theorem NP {k p : Nat} : (BO k [] p).map aD = List.replicate k (.tup [.int 0, .int 1]) := by
 apply List.ext_getElem
 ·simp [BO]
 ·intro i h1 h2
  simp [BO, kindS, N4]
end
end Mi
end
section
namespace Mi
open PySem PySem.Spec L2
section
variable {S : Sto} {ls : List Ld} {G B N K : Nat}
theorem Tp {k : Nat} (hk : k ≤ 20) {p : Nat} (hkind : ∀ l ∈ ls, l.k < k) (h : Bd ls G B N K) : ∃ S', Bf [.int k, BB ls, .lst (ls.map fun x => aD (ownAt x p))] S = some (shD (BO k ls p), S') /\ Cw [] S S' := by
 have ez : NC (ls.map hD) (ls.map fun x => aD (ownAt x p)) = ls.map fun x => .tup [hD x, aD (ownAt x p)] := by
  unfold NC
  rw [List.zip_map', List.map_map]
  rfl
 have hq : (S ++ [Cl.lst ((BO k [] p).map aD)])[S.length]? = some (.lst ((BO k [] p).map aD)) := List.getElem?_concat_length
 generalize hQ : S.length = q at *
 obtain ⟨E', S', ef, i, o4, o5, o6, f1, f2, rfl, f3, f4⟩ := GL (gs := []) (t := tTp [(tTp [(tNm 5), (tNm 6)]), (tNm 4)]) (b := RO (AJ Ew [(eOp (o2 wIx) [(eV 3), (eV 5)]), (AJ D0 [(D9 [(eV 6), (eC (.int 1))]), (eV 4)])]) (eV 3) (eV 5))
  (I := fun rs E S' => ∃ (i : Nat) (o4 o5 o6 : Option D), rs = (ls.drop i).map (fun x => D.tup [hD x, aD (ownAt x p)]) /\ i ≤ ls.length /\ E = [some (.int k), some (BB ls), some (.lst (ls.map fun x => aD (ownAt x p))), some (.ref q), o4, o5, o6] /\ S'[q]? = some (.lst ((BO k (ls.take i) p).map aD)) /\ Cw [] S S')
  (fun _ _ _ _ => Ah) (ds := ls.map fun x => D.tup [hD x, aD (ownAt x p)]) (E := [some (.int k), some (BB ls), some (.lst (ls.map fun x => aD (ownAt x p))), some (.ref q), none, none, none]) (S := S ++ [Cl.lst ((BO k [] p).map aD)])
  ⟨0, none, none, none, by simp, Nat.zero_le _, rfl, by simpa using hq, .app⟩ (by
   rintro dd rs E T ⟨i, o4, o5, o6, i1, i2, rfl, i3, i4⟩
   have hlt : i < ls.length := by
    rcases Nat.lt_or_ge i ls.length with w | w
    ·exact w
    ·rw [List.drop_eq_nil_of_le w] at i1; cases i1
   rw [List.drop_eq_getElem_cons hlt, List.map_cons] at i1
   injection i1 with z1 z2
   subst z1 z2
   have hm : ls[i] ∈ ls := List.getElem_mem hlt
   have htk : ls.take (i + 1) = ls.take i ++ [ls[i]] := by rw [List.take_succ, List.getElem?_eq_getElem hlt]; rfl
   have tm := SR (S := T) (h.nSz hm) ((h.at hm p).sz h.g0 h.gK h.hB) (by have := h.hK; omega)
   rw [Ol] at tm
   have zb : 30 * (B * N) < 2 ^ K := by have := h.hb; omega
   have zb1 : B * N < 2 ^ K := by have := h.hb; omega
   have pl := Uw (S := T) ((h.take i).kind (p := p) (kd := ls[i].k) |>.sz h.g0 h.gK zb) ((h.mul hm p).sz h.g0 h.gK zb1) (by have := h.hK; omega)
   have hkd := hkind _ hm
   have at1 : atI ((BO k (ls.take i) p).map aD) (ls[i].k : Int) = some (aD (kindS (ls.take i) p ls[i].k)) := CL (by
    rw [List.getElem?_map, BO, List.getElem?_map, List.getElem?_range hkd]; rfl)
   have ix1 : ixN ((BO k (ls.take i) p).map aD).length (ls[i].k : Int) = some ls[i].k := Jt (by simp [BO]; exact hkd)
   have ef : ((BO k (ls.take i) p).map aD).set ls[i].k (aD (kindS (ls.take i) p ls[i].k + (ls[i].n : Rat) * ownAt ls[i] p)) = (BO k (ls.take (i + 1)) p).map aD := by rw [htk, Ln, List.map_set]
   have dq := Df i3
   have cq := C6 i3
   generalize (BO k (ls.take i) p).map aD = V at *
   generalize hx : ls[i] = x at *
   generalize aD (kindS (ls.take i) p x.k + (x.n : Rat) * ownAt x p) = D1 at *
   generalize aD ((x.n : Rat) * ownAt x p) = D2 at *
   generalize aD (kindS (ls.take i) p x.k) = D3 at *
   have lq := i4.len
   refine ⟨_, [some (.int k), some (BB ls), some (.lst (ls.map fun x => aD (ownAt x p))), some (.ref q), some (aD (ownAt x p)), some (.int x.k), some (.int x.n)], T.set q (.lst (V.set x.k D1)), by simp; rfl, ?_, i + 1, _, _, _, rfl, hlt, rfl, by rw [← ef]; exact List.getElem?_set_self (CN i3), Cw.new (A := []) (B := [q]) i4 (.set (by simp)) (by intro n hn'; simp at hn'; omega)⟩
   generalize aD (ownAt x p) = D4 at *
   simp [dq, at1, tm, pl, cq, ix1])
 have hz : i = ls.length := by
  have := congrArg List.length f1
  simp at this
  omega
 subst hz
 rw [List.take_length] at f3
 refine ⟨S', ?_, f4⟩
 have m1 : Bl (.val (.lst [Cq])) (.val (.int k)) = some (.own ((BO k [] p).map aD)) := by
  have hs : k ≤ sizeLine := AV (by omega)
  have h1 : (k : Int) < 2 ^ 63 := by omega
  have h2 : -(2 : Int) ^ 63 ≤ k := by omega
  rw [NP, Gh, if_pos (by simp [hs]; omega)]
  simp [K8, Cq]
 have df := Df f3
 generalize (BO k [] p).map aD = V0 at *
 rw [show shD (BO k ls p) = .tup ((BO k ls p).map aD) from rfl]
 generalize (BO k ls p).map aD = V1 at *
 have dh : sqD (S ++ [Cl.lst V0]) (BB ls) = some (ls.map hD, []) := nr rfl
 simp [Bf, EY, -Gh, m1, hQ, dh, ez, ef, df]
end
end Mi
end
section
namespace Mi
open PySem PySem.Spec L2
theorem ID {α : Type} {gs : Gd} {t : Tf} {f : Ev} {C : En} {m : Nat} {e g : α -> D} {S0 : Sto} (hg : ∀ S, Cw [] S0 S -> gOk gs S) : ∀ {xs : List α} {acc : List D} {os : En} {S : Sto}, os.length = m -> Cw [] S0 S -> acc.length + xs.length ≤ sizeLine ->
    (∀ x ∈ xs, ∀ os S, os.length = m -> Cw [] S0 S -> ∃ us S', us.length = m /\ t (e x) (C ++ os) S = some (C ++ us) /\ f (C ++ us) S = some (g x, S') /\ Cw [] S0 S') ->
    ∃ S', By gs t BM f (xs.map e) acc (C ++ os) S = some (acc ++ xs.map g, S') /\ Cw [] S0 S'
  | [], acc, os, S, ho, hS, hz, h => ⟨S, by rw [List.map_nil, D8 (hg S hS)]; simp, hS⟩
  | x :: xs, acc, os, S, ho, hS, hz, h => by
    obtain ⟨us, S1, hu, e1, e2, s1⟩ := h x List.mem_cons_self os S ho hS
    obtain ⟨S2, e3, s2⟩ := ID hg (acc := acc ++ [g x]) hu s1 (by simp at hz ⊢; omega) fun x' hx => h x' (List.mem_cons_of_mem _ hx)
    refine ⟨S2, ?_, s2⟩
    rw [List.map_cons, GI (hg S hS) (by simp at hz; omega) e1 Ee, e2, Cv, e3]
    simp
theorem F2.bd {t : Tr} {k : Nat} {s : Stt} (h : F2 t k s) (hk : k ≤ 16) : ∃ G B N K, Bd s.loads G B N K := by
 obtain ⟨G, B, g0, gb, b, h1, h2⟩ := h.gb
 have hB : B < 2 ^ 2750 := Nat.lt_of_lt_of_le b (Nat.pow_le_pow_right (by decide) (by omega))
 have hB' : B < 2 ^ 3000 := Nat.lt_of_lt_of_le hB (Nat.pow_le_pow_right (by decide) (by decide))
 have hN : (2 ^ 147 : Nat) < 2 ^ 148 := Nat.pow_lt_pow_right (by decide) (by decide)
 refine ⟨G, B, 2 ^ 147, 3000, g0, Nat.lt_of_le_of_lt gb hB', by decide, h1, fun l hl => ?_, hB', Nat.lt_of_lt_of_le hN (Nat.pow_le_pow_right (by decide) (by decide)), ?_, by have := h.len; omega⟩
 ·have := h.pcs l hl
  refine ⟨this.1, ?_⟩
  have e : (2 : Int) ^ (131 + k) ≤ ((2 ^ 147 : Nat) : Int) := by
   have : (2 : Nat) ^ (131 + k) ≤ 2 ^ 147 := Nat.pow_le_pow_right (by decide) (by omega)
   exact_mod_cast this
  omega
 ·have := Cd (show 200 < 2 ^ 8 by decide) (Cd hB hN)
  exact Nat.lt_of_lt_of_le this (Nat.pow_le_pow_right (by decide) (by decide))
section
variable {S : Sto} {t : Tr} {ls : List Ld} {ds : List Aj} {n : Nat}
theorem Rj {x : Ld} {p : Nat} (h : p < x.ow.length) : atI (x.ow.map aD) (p : Int) = some (aD (ownAt x p)) := CL (by
 rw [List.getElem?_map, List.getElem?_eq_getElem h]
 simp [ownAt, List.getD_eq_getElem?_getD, List.getElem?_eq_getElem h])
theorem XJ {ls : List Ld} {p : Nat} {T : Sto} (h : ∀ l ∈ ls, p < l.ow.length) (hl : ls.length ≤ 30) : By [] (tNm 1) BM (eOp (o2 wIx) [(eV 1), (eV 0)]) (ls.map fun x => shD x.ow) [] [some (.int p), none] T = some (ls.map (fun x => aD (ownAt x p)), T) :=
 CT (gs := []) (t := tNm 1) (f := eOp (o2 wIx) [(eV 1), (eV 0)]) (C := [some (.int p)]) (m := 1) (e := fun x : Ld => shD x.ow) (g := fun x => aD (ownAt x p)) (S := T) Ah (xs := ls) (acc := []) (os := [none]) rfl (Nat.le_trans (show _ ≤ 50 by simp; omega) (AV (by decide))) (by
  intro x hx os ho
  obtain ⟨o1, rfl⟩ : ∃ o1, os = [o1] := by
   match os, ho with
   | [a], _ => exact ⟨a, rfl⟩
  have a := Rj (h x hx)
  refine ⟨[some (shD x.ow)], rfl, by simp, ?_⟩
  simp [shD, a])
end
end Mi
end
section
namespace Mi
open PySem PySem.Spec L2
section
variable {S : Sto} {t : Tr} {ls : List Ld} {ds : List Aj} {n : Nat}
theorem T3 (h : EW t ls ds) (hn : n ≤ ds.length) : ∃ S', Cm [CZ t ls ds, .int n] S = some (.lst ((List.range t.p).map fun p => shD (BO t.k (runs t (st0 t ls) (ds.take n)).loads p)), S') /\ Cw [] S S' := by
 obtain ⟨S1, e1, s1⟩ := MJ (S := S) h hn
 have il : (ds.take n).length ≤ 16 := by have := h.len; simp; omega
 have inv := h.at n
 obtain ⟨G, B, N, K, bd⟩ := inv.bd il
 have ho := inv.own
 have hk := inv.kind
 obtain ⟨t1, t2, t3, t4, t5, t6⟩ := h.tr
 generalize (runs t (st0 t ls) (ds.take n)).loads = L at *
 generalize (runs t (st0 t ls) (ds.take n)).hold = Ho at *
 obtain ⟨S2, e2, s2⟩ := ID (gs := []) (t := tNm 3) (f := AJ Bf [(eV 0), (eV 1), (C2 [3] 1 (Im (eV 2)) (tNm 1) BM (eOp (o2 wIx) [(eV 1), (eV 0)]))]) (C := [some (.int t.k), some (BB L), some (HE L)]) (m := 1) (e := fun p : Nat => D.int p) (g := fun p => shD (BO t.k L p)) (S0 := S1) (fun _ _ => Ah) (xs := List.range t.p) (acc := []) (os := [none]) (S := S1) rfl .refl (Nat.le_trans (show _ ≤ 50 by simp; omega) (AV (by decide))) (by
  intro p hp os T ho' hT
  obtain ⟨o1, rfl⟩ : ∃ o1, os = [o1] := by
   match os, ho' with
   | [a], _ => exact ⟨a, rfl⟩
  have hp' : p < t.p := by simpa using hp
  have pc := XJ (ls := L) (p := p) (T := T) (fun l hl => by rw [ho l hl]; exact hp') bd.len
  obtain ⟨T2, e3, s3⟩ := Tp (S := T) (k := t.k) (by omega) (p := p) hk bd
  refine ⟨[some (.int p)], T2, rfl, by simp, ?_, hT.trans s3⟩
  have dh : sqD T (HE L) = some (L.map (fun x => shD x.ow), []) := nr rfl
  simp [dh, Nc, pc, e3])
 refine ⟨S2, ?_, s1.trans s2⟩
 have rk : HH (t.p : Int) = true := Dj (by omega) (by omega)
 have ct : Hg [D.int t.p, D.int t.k, D.int t.b, shD t.ho, D.int t.h, D.int t.l] none (some 2) = [.int t.p, .int t.k] := nr rfl
 have td : wSl none (some 2) (.val t.d) = some (.val (.tup [.int t.p, .int t.k])) := nr rfl
 have dt : dr S t.d = .val t.d := rfl
 rw [← Lk] at e2
 simp only [CZ] at e1 ⊢
 simp only [List.nil_append, List.cons_append, Int.toNat_natCast] at e2
 simp [Cm, FW, dt, td, e1, rk, Nc, e2]
end
end Mi
end
section
namespace Mi
open PySem PySem.Spec L2
theorem Nu {v : Rat} : ∀ {l : List Rat} {i : Nat}, i < l.length -> (l.set i v).sum = l.sum - l.getD i 0 + v
  | a :: l, 0, _ => by
    rw [List.set_cons_zero, List.sum_cons, List.sum_cons]
    simp
    grind
  | a :: l, i + 1, h => by
    rw [List.set_cons_succ, List.sum_cons, List.sum_cons, Nu (by simpa using h)]
    simp
    grind
section
variable {t : Tr} {k : Nat} {st : Stt} {d : Aj}
end
theorem PV {x : Ld} {P : Nat} (h : x.ow.length = P) : (List.range P).map (ownAt x) = x.ow := by
 apply List.ext_getElem
 ·simp [h]
 ·intro i h1 h2
  simp [ownAt, List.getD_eq_getElem?_getD, List.getElem?_eq_getElem h2]
end Mi
end
section
namespace Mi
open PySem PySem.Spec L2
def A6 (n : Nat) : Nat -> Nat -> List Nat -> List Aj
 | _, _, [] => []
 | last, j, o :: rest => .pool last o :: A6 n (n + j) (j + 1) rest
structure PSt (kd : Nat) (L : List Ld) (last : Nat) (rest : List Nat) : Prop where
 lt : last < L.length
 lts : ∀ o ∈ rest, o < L.length
 notin : last ∉ rest
 nd : rest.Nodup
 kind : ∀ l ∈ L, l.k = kd
 pos : 0 < (AN L last).n
 poss : ∀ o ∈ rest, 0 < (AN L o).n
 zero : ∀ i, i < L.length -> i ≠ last -> i ∉ rest -> (AN L i).n = 0
section
variable {t : Tr} {s : Stt} {L : List Ld} {n kd p : Nat} {z : Ld}
theorem D6 {l i : Nat} {g : Int} (hl : l < L.length) : AN (less L l g) i = if i = l then { AN L l with n := (AN L l).n - g } else AN L i := by
 by_cases h : i = l
 ·subst h
  rw [if_pos rfl]
  show (less L i g).getD i ⟨0, 0, []⟩ = _
  rw [less, List.getD_eq_getElem?_getD, List.getElem?_set_self hl]
  rfl
 ·rw [if_neg h]
  show (less L l g).getD i ⟨0, 0, []⟩ = L.getD i ⟨0, 0, []⟩
  rw [less, List.getD_eq_getElem?_getD, List.getElem?_set_ne (by omega), ← List.getD_eq_getElem?_getD]
theorem O5 {i : Nat} (h : i < L.length) : AN (L ++ [z]) i = AN L i := by
 unfold AN
 rw [List.getD_eq_getElem?_getD, List.getElem?_append_left h, ← List.getD_eq_getElem?_getD]
theorem HS : AN (L ++ [z]) L.length = z := by
 unfold AN
 rw [List.getD_eq_getElem?_getD, List.getElem?_append_right (Nat.le_refl _)]
 simp
def HG (L : List Ld) (a b : Nat) : List Ld := less (less L a (AN L a).n) b (AN L b).n
def JR (L : List Ld) (a b : Nat) : Ld := ⟨(AN L a).k, (AN L a).n + (AN L b).n, Co (AN L a).n (AN L b).n (AN L a).ow (AN L b).ow⟩
theorem NU {a b : Nat} : (step t s (.pool a b)).loads = HG s.loads a b ++ [JR s.loads a b] := rfl
theorem Kv {a b : Nat} : (HG L a b).length = L.length := by simp [HG, BN]
theorem QY {a b i : Nat} (ha : a < L.length) (hb : b < L.length) (hab : a ≠ b) : (AN (HG L a b) i).n = if i = a ∨ i = b then 0 else (AN L i).n := by
 unfold HG
 rw [D6 (by rw [BN]; exact hb), D6 ha, D6 ha]
 by_cases h1 : i = b
 ·subst h1
  rw [if_pos rfl, if_neg (by omega), if_pos (.inr rfl)]
  show (AN L i).n - (AN L i).n = 0
  omega
 ·rw [if_neg h1]
  by_cases h2 : i = a
  ·subst h2
   rw [if_pos rfl, if_pos (.inl rfl)]
   show (AN L i).n - (AN L i).n = 0
   omega
  ·rw [if_neg h2, if_neg (by omega)]
theorem PSt.step {a b : Nat} {rest : List Nat} (h : PSt kd L a (b :: rest)) : PSt kd (HG L a b ++ [JR L a b]) L.length rest := by
 have hb := h.lts b List.mem_cons_self
 have hab : a ≠ b := fun e => h.notin (by rw [e]; exact List.mem_cons_self)
 have nb := (List.nodup_cons.mp h.nd)
 have l2 := Kv (L := L) (a := a) (b := b)
 have at1 : ∀ i, i < L.length -> (AN (HG L a b ++ [JR L a b]) i).n = if i = a ∨ i = b then 0 else (AN L i).n := fun i hi => by
  rw [O5 (by rw [l2]; exact hi), QY h.lt hb hab]
 have at2 : AN (HG L a b ++ [JR L a b]) L.length = JR L a b := by rw [← l2]; exact HS
 have pb := h.poss b List.mem_cons_self
 have pa := h.pos
 refine ⟨by simp [l2], fun o ho => by have := h.lts o (List.mem_cons_of_mem _ ho); simp [l2]; omega, fun z => ?_, nb.2, fun x hx => ?_, ?_, fun o ho => ?_, fun i hi h1 h2 => ?_⟩
 ·have := h.lts _ (List.mem_cons_of_mem _ z); omega
 ·rcases List.mem_append.mp hx with hx | hx
  ·rcases G5 hx (by rw [BN]; exact hb) with hx | rfl
   ·rcases G5 hx h.lt with hx | rfl
    ·exact h.kind x hx
    ·exact (h.kind (AN L a) (Ad h.lt) :)
   ·show (AN (less L a (AN L a).n) b).k = kd
    rw [D6 h.lt, if_neg (by omega)]
    exact h.kind _ (Ad hb)
  ·rw [List.mem_singleton.mp hx]
   exact (h.kind (AN L a) (Ad h.lt) :)
 ·rw [at2]
  show 0 < (AN L a).n + (AN L b).n
  omega
 ·rw [at1 o (h.lts o (List.mem_cons_of_mem _ ho)), if_neg]
  ·exact h.poss o (List.mem_cons_of_mem _ ho)
  ·rintro (e | e)
   ·exact h.notin (by rw [← e]; exact List.mem_cons_of_mem _ ho)
   ·exact nb.1 (by rw [← e]; exact ho)
 ·have hi' : i < L.length := by
   simp [l2] at hi
   omega
  rw [at1 i hi']
  split
  ·rfl
  ·rename_i hh
   refine h.zero i hi' (fun e => hh (.inl e)) fun z => ?_
   rcases List.mem_cons.mp z with z | z
   ·exact hh (.inr z)
   ·exact h2 z
theorem PSt.can {a b : Nat} {rest : List Nat} (h : PSt kd s.loads a (b :: rest)) : Can t s (.pool a b) := by
 have hb := h.lts b List.mem_cons_self
 refine ⟨fun e => h.notin (by rw [e]; exact List.mem_cons_self), h.lt, hb, h.pos, h.poss b List.mem_cons_self, ?_⟩
 rw [h.kind _ (Ad h.lt), h.kind _ (Ad hb)]
theorem MF {f : Ld -> Rat} {l : Nat} {g : Int} (hl : l < L.length) : ((less L l g).map f).sum = (L.map f).sum - f (AN L l) + f ⟨(AN L l).k, (AN L l).n - g, (AN L l).ow⟩ := by
 rw [Lj, List.map_set, Nu (by simpa using hl)]
 congr 2
 rw [List.getD_eq_getElem?_getD, List.getElem?_map, EJ hl]
 rfl
theorem MU {f : Ld -> Rat} {a b : Nat} (ha : a < L.length) (hb : b < L.length) (hab : a ≠ b) (h0 : ∀ k ow, f ⟨k, 0, ow⟩ = 0) (hz : f (JR L a b) = f (AN L a) + f (AN L b)) : ((HG L a b ++ [JR L a b]).map f).sum = (L.map f).sum := by
 have e : AN (less L a (AN L a).n) b = AN L b := by rw [D6 ha, if_neg (by omega)]
 rw [List.map_append, List.sum_append, HG, MF (by rw [BN]; exact hb), MF ha, e, show (AN L a).n - (AN L a).n = 0 by omega, show (AN L b).n - (AN L b).n = 0 by omega, h0, h0]
 simp only [List.map_cons, List.map_nil, List.sum_cons, List.sum_nil]
 rw [hz]
 grind
def nS (L : List Ld) : Rat := (L.map fun x => (x.n : Rat)).sum
def mS (L : List Ld) (p : Nat) : Rat := (L.map fun x => (x.n : Rat) * ownAt x p).sum
theorem T6 {f : Rat -> Rat -> Rat} {ss os : List Rat} {p : Nat} (h1 : p < ss.length) (h2 : p < os.length) : (List.zipWith f ss os).getD p 0 = f (ss.getD p 0) (os.getD p 0) := by
 rw [List.getD_eq_getElem?_getD, List.getD_eq_getElem?_getD, List.getD_eq_getElem?_getD, List.getElem?_zipWith, List.getElem?_eq_getElem h1, List.getElem?_eq_getElem h2]
 rfl
theorem UG {a b : Nat} (ha : a < L.length) (hb : b < L.length) (hab : a ≠ b) : nS (HG L a b ++ [JR L a b]) = nS L := by
 refine MU ha hb hab (fun _ _ => rfl) ?_
 show (((AN L a).n + (AN L b).n : Int) : Rat) = _
 push_cast
 rfl
theorem TL {a b P : Nat} (ha : a < L.length) (hb : b < L.length) (hab : a ≠ b) (ho : ∀ l ∈ L, l.ow.length = P) (hp : p < P) (h0 : 0 < (AN L a).n + (AN L b).n) : mS (HG L a b ++ [JR L a b]) p = mS L p := by
 refine MU ha hb hab (fun k ow => ?_) ?_
 ·show ((0 : Int) : Rat) * _ = 0
  simp
 ·show (((AN L a).n + (AN L b).n : Int) : Rat) * (Co (AN L a).n (AN L b).n (AN L a).ow (AN L b).ow).getD p 0 = ((AN L a).n : Rat) * (AN L a).ow.getD p 0 + ((AN L b).n : Rat) * (AN L b).ow.getD p 0
  unfold Co
  rw [T6 (by rw [ho _ (Ad ha)]; exact hp) (by rw [ho _ (Ad hb)]; exact hp)]
  have hne : (((AN L a).n + (AN L b).n : Int) : Rat) ≠ 0 := by
   intro z
   have := Rat.intCast_eq_zero_iff.mp z
   omega
  push_cast at hne ⊢
  grind
theorem Ky {P : Nat} : ∀ {rest : List Nat} {last j : Nat} {s : Stt}, PSt kd s.loads last rest -> s.loads.length = n + j -> (∀ l ∈ s.loads, l.ow.length = P) ->
    KC t s (A6 n last j rest) /\ (runs t s (A6 n last j rest)).loads.length = n + j + rest.length /\ (∀ l ∈ (runs t s (A6 n last j rest)).loads, l.ow.length = P) /\ nS (runs t s (A6 n last j rest)).loads = nS s.loads /\ (∀ p, p < P -> mS (runs t s (A6 n last j rest)).loads p = mS s.loads p) /\ ∃ e, PSt kd (runs t s (A6 n last j rest)).loads e [] /\ (rest = [] -> e = last) /\ (rest ≠ [] -> e + 1 = n + j + rest.length)
  | [], last, j, s, h, hl, ho => ⟨trivial, hl, ho, rfl, fun _ _ => rfl, last, h, fun _ => rfl, fun z => absurd rfl z⟩
  | b :: rest, last, j, s, h, hl, ho => by
    have hb := h.lts b List.mem_cons_self
    have hab : last ≠ b := fun e => h.notin (by rw [e]; exact List.mem_cons_self)
    have hs := h.step
    have ho' : ∀ x ∈ HG s.loads last b ++ [JR s.loads last b], x.ow.length = P := fun x hx => by
      rcases List.mem_append.mp hx with hx | hx
      · rcases G5 hx (by rw [BN]; exact hb) with hx | rfl
        · rcases G5 hx h.lt with hx | rfl
          · exact ho x hx
          · exact ho (AN s.loads last) (Ad h.lt)
        · show (AN (less s.loads last (AN s.loads last).n) b).ow.length = P
          rw [D6 h.lt, if_neg (by omega)]
          exact ho _ (Ad hb)
      · rw [List.mem_singleton.mp hx]
        show (List.zipWith _ _ _).length = P
        rw [List.length_zipWith, ho _ (Ad h.lt), ho _ (Ad hb)]
        omega
    rw [hl] at hs
    have hlen : (step t s (.pool last b)).loads.length = n + (j + 1) := by
      rw [NU, List.length_append, Kv, hl]; rfl
    obtain ⟨g1, g2, g3, g4, g5, e, g6, g7, g8⟩ := Ky (rest := rest) (last := n + j) (j := j + 1) (s := step t s (.pool last b)) hs hlen ho'
    refine ⟨⟨h.can, g1⟩, by rw [List.length_cons]; exact g2.trans (by omega), g3, ?_, fun p hp => ?_, e, g6, fun z => by simp at z, fun _ => ?_⟩
    · exact g4.trans (UG h.lt hb hab)
    · exact (g5 p hp).trans (TL h.lt hb hab ho hp (by have := h.pos; have := h.poss b List.mem_cons_self; omega))
    · rw [List.length_cons]
      cases rest with
      | nil => have := g7 rfl; simp; omega
      | cons c r => have := g8 (by simp); rw [List.length_cons] at this ⊢; omega
theorem PSt.fin {e : Nat} (h : PSt kd L e []) (he : e + 1 = L.length) : ∃ init, L = init ++ [AN L e] /\ (∀ x ∈ init, x.n = 0) := by
 refine ⟨L.take e, ?_, fun x hx => ?_⟩
 ·have : L.drop e = [AN L e] := by
   rw [List.drop_eq_getElem_cons (by omega), List.drop_eq_nil_of_le (by omega)]
   have := EJ h.lt
   rw [List.getElem?_eq_getElem h.lt] at this
   injection this with this
   rw [this]
  rw [← this, List.take_append_drop]
 ·obtain ⟨i, hi⟩ := List.getElem?_of_mem hx
  have hlt : i < (L.take e).length := (List.getElem?_eq_some_iff.mp hi).1
  have hlt' : i < e := by simp at hlt; omega
  rw [List.getElem?_take_of_lt hlt'] at hi
  have := EJ (ls := L) (l := i) (by omega)
  rw [hi] at this
  injection this with this
  rw [this]
  exact h.zero i (by omega) (by omega) (by simp)
end
end Mi
end
section
namespace Mi
open PySem PySem.Spec L2
@[simp] theorem Xl {cf : Bool} {f : Ev} {E : En} {S : Sto} : YN cf f E S = (f E S).bind (lrK cf) := nr rfl
@[simp] theorem XR {cf : Bool} {j : Int} {S : Sto} : lrK cf (.int j, S) = if (decide (0 ≤ j) && decide (j ≤ 1000)) = true then fin cf (.own (GV 0 j.toNat)) S else none := nr rfl
structure WO (t : Tr) (kd : Nat) (x : Ld) : Prop where
 k : x.k = kd
 n1 : 1 ≤ x.n
 n2 : x.n < 2 ^ 131
 len : x.ow.length = t.p
 sum : x.ow.sum = 1
 g : ∃ g : Nat, 0 < g /\ g ≤ 32 /\ ∀ r ∈ x.ow, Ok g g r
theorem LN {α β : Type} {f : α -> β} : ∀ {xs : List α} {i : Nat}, (xs.map f).eraseIdx i = (xs.eraseIdx i).map f
 | [], _ => rfl
 | _ :: _, 0 => rfl
 | x :: xs, i + 1 => congrArg (f x :: ·) (LN (xs := xs) (i := i))
theorem JV {α : Type} : ∀ {xs : List α} {i : Nat} (h : i < xs.length), (xs[i] :: xs.eraseIdx i).Perm xs
  | x :: xs, 0, _ => List.Perm.refl _
  | x :: xs, i + 1, h => by
    have h' : i < xs.length := by simpa using h
    exact (List.Perm.swap x (xs[i]'h') (xs.eraseIdx i)).trans ((JV h').cons x)
theorem R3 {Q : Ld -> Prop} : ∀ {ys : List D}, (∀ y ∈ ys, ∃ x : Ld, y = x.d /\ Q x) -> ∃ ls : List Ld, ys = ls.map Ld.d /\ ∀ x ∈ ls, Q x
  | [], _ => ⟨[], rfl, fun _ h => nomatch h⟩
  | y :: ys, h => by
    obtain ⟨x, rfl, hx⟩ := h y List.mem_cons_self
    obtain ⟨ls, rfl, hl⟩ := R3 fun z hz => h z (List.mem_cons_of_mem _ hz)
    exact ⟨x :: ls, rfl, fun z hz => by
      rcases List.mem_cons.mp hz with e | e
      · rw [e]; exact hx
      · exact hl z e⟩
theorem MV {t : Tr} {kd : Nat} (hk : kd < t.k) : ∀ {ls acc : List Ld}, ER t acc -> (∀ x ∈ ls, WO t kd x) -> ER t (acc ++ ls)
  | [], acc, h, _ => by rw [List.append_nil]; exact h
  | x :: ls, acc, h, g => by
    have hx := g x List.mem_cons_self
    obtain ⟨G, g0, g1, g2⟩ := hx.g
    have := MV hk (h.snoc (l := x) ⟨by rw [hx.k]; exact hk, hx.n1, hx.n2, hx.len, hx.sum⟩ g0 g1 g2) fun z hz => g z (List.mem_cons_of_mem _ hz)
    rw [List.append_assoc] at this
    exact this
section
variable {S : Sto} {t : Tr} {ls : List Ld} {p q n kd : Nat}
theorem V8 (hp : C0 p S) (ht : Lg t) {m : Nat} (hm : m ≤ 4) : ∃ (ls : List Ld) (S' : Sto), By [] (tNm 3) BM (D9 [(eV 2), (AJ Br [(eV 0)]), (AJ Bt [(eV 0), (eOp (o2 wIx) [(eV 1), (eC (.int 0))])])]) (GV 0 m) [] [some (.ref p), some t.d, some (.int kd), none] S = some (ls.map Ld.d, S') /\ Pn p S S' /\ ls.length = m /\ ∀ x ∈ ls, WO t kd x := by
 obtain ⟨t1, t2, t3, t4, t5, t6⟩ := ht
 obtain ⟨ys, S', e, hI, l, r⟩ := KQ (gs := []) (t := tNm 3) (f := D9 [(eV 2), (AJ Br [(eV 0)]), (AJ Bt [(eV 0), (eOp (o2 wIx) [(eV 1), (eC (.int 0))])])]) (C := [some (.ref p), some t.d, some (.int kd)]) (m := 1) (I := Pn p S) (R := fun _ y => ∃ x : Ld, y = x.d /\ WO t kd x)
  (fun _ _ => Ah) (ds := GV 0 m) (acc := []) (os := [none]) rfl (Pn.refl hp) (by rw [Fs]; simp; exact AV (by omega)) fun d _ os S0 ho I0 => by
   obtain ⟨o, rfl⟩ : ∃ o, os = [o] := by
    match os, ho with
    | [o], _ => exact ⟨o, rfl⟩
   obtain ⟨x1, T1, e1, k1, c1, c2⟩ := OG I0.pen
   obtain ⟨rs, T2, e2, k2, l2, G, g0, g1, g2⟩ := Mb k1.pen (n := t.p) t1 t2
   have as1 : asS (.val t.d) = some [.int t.p, .int t.k, .int t.b, shD t.ho, .int t.h, .int t.l] := rfl
   have dt : ∀ T, dr T t.d = .val t.d := fun _ => rfl
   exact ⟨[some d], _, T2, rfl, by simp, by simp [e1, as1, dt, e2]; rfl, (I0.trans k1).trans k2, ⟨kd, x1, rs⟩, rfl, rfl, c1, c2, l2.1, l2.2, G, g0, g1, g2⟩
 obtain ⟨ls, rfl, hl⟩ := R3 (HL r)
 exact ⟨ls, S', by simpa using e, hI, by simpa [Fs] using l, hl⟩
theorem Y8 : ∀ {ds : List D} {rest : List Nat} {acc : List D} {o : Option D} {S : Sto}, ds.length = rest.length -> rest.length ≤ 10 -> acc.length + ds.length ≤ 20 -> C0 p S -> q ≠ p -> S[q]? = some (.lst (Ba rest)) ->
    ∃ os S', By [] (tNm 2) BM (Md R6 (eV 1) [(AJ AL [(eV 0), (eOp (o1 GW) [(eV 1)])])]) ds acc [some (.ref p), some (.ref q), o] S = some (acc ++ Ba os, S') /\ os.Perm rest /\ C0 p S' /\ Cw [p, q] S S'
  | [], rest, acc, o, S, hl, _, _, hp, _, _ => by
    refine ⟨[], S, by rw [D8 Ah]; simp [Ba], ?_, hp, .refl⟩
    have : rest = [] := List.length_eq_zero_iff.mp (by simpa using hl.symm)
    rw [this]
  | d :: ds, rest, acc, o, S, hl, hr, hz, hp, hqp, hq => by
    simp only [List.length_cons] at hl hz
    obtain ⟨r, S1, e1, a1, b1, p1⟩ := Bp hp (n := rest.length) (by omega) (by omega)
    have hq1 := p1.get hq hqp
    obtain ⟨i, rfl⟩ := Iw a1
    have hi : i < rest.length := by omega
    have dq := Df hq
    have cq := C6 hq
    have cq1 := C6 hq1
    have nl := Kb (is := rest)
    have sx : seqIndex? (i : Int) (Ba rest).length = some i := by
      rw [nl]
      unfold seqIndex?
      simp
      omega
    have ge : (Ba rest)[i]? = some (.int (rest[i] : Nat)) := by
      unfold Ba
      rw [List.getElem?_map, List.getElem?_eq_getElem hi]; rfl
    have er : (Ba rest).eraseIdx i = Ba (rest.eraseIdx i) := by
      unfold Ba
      rw [LN]
    have mp : R6 S1 (Ba rest) [.int i] = some (.int (rest[i] : Nat), Ba (rest.eraseIdx i)) := by
      unfold R6
      have h1 : -(2 : Int) ^ 63 ≤ i := by omega
      have h2 : (i : Int) < 2 ^ 63 := by omega
      simp only [h1, h2, decide_true, Bool.and_self, if_true, sx, Cv, ge, Vj, er]
    have hq2 : (S1.set q (.lst (Ba (rest.eraseIdx i))))[q]? = some (.lst (Ba (rest.eraseIdx i))) := List.getElem?_set_self (CN hq1)
    have p2 : C0 p (S1.set q (.lst (Ba (rest.eraseIdx i)))) := by
      obtain ⟨ds', ed, hd⟩ := p1.pen
      exact ⟨ds', by rw [List.getElem?_set_ne hqp]; exact ed, hd⟩
    have el : (rest.eraseIdx i).length + 1 = rest.length := by rw [List.length_eraseIdx, if_pos hi]; omega
    obtain ⟨os, S2, e2, pm, p3, sm⟩ := Y8 (ds := ds) (rest := rest.eraseIdx i) (acc := acc ++ [.int (rest[i] : Nat)]) (o := some d) (by omega) (by omega) (by simp; omega) p2 hqp hq2
    refine ⟨rest[i] :: os, S2, ?_, (pm.cons _).trans (JV hi), p3, ((p1.same.mono (by simp)).trans (.set (by simp))).trans sm⟩
    have hz' : acc.length < sizeLine := Nat.lt_of_lt_of_le (show acc.length < 50 by omega) (AV (by decide))
    rw [GI (E1 := [some (.ref p), some (.ref q), some d]) Ah hz' (by simp) Ee]
    have ev : Md R6 (eV 1) [(AJ AL [(eV 0), (eOp (o1 GW) [(eV 1)])])] [some (.ref p), some (.ref q), some d] S = some (.int (rest[i] : Nat), S1.set q (.lst (Ba (rest.eraseIdx i)))) := by
      generalize Ba (rest.eraseIdx i) = NE at *
      generalize Ba rest = NR at *
      simp [cq, dq, nl, e1, cq1, mp]
    rw [ev, Cv, e2]
    simp [Ba]
theorem RP (hp : C0 p S) (hn : n ≤ 10) : ∃ os S', EB [.ref p, .lst (GV 0 n)] S = some (.lst (Ba os), S') /\ os.Perm (List.range n) /\ C0 p S' /\ Cw [p] S S' := by
 have e0 : GV 0 n = Ba (List.range n) := by simp [GV, Ba]
 have hq : (S ++ [Cl.lst (Ba (List.range n))])[S.length]? = some (.lst (Ba (List.range n))) := List.getElem?_concat_length
 have lp := hp.lt
 obtain ⟨os, S', e, pm, p2, sm⟩ := Y8 (p := p) (q := S.length) (ds := GV 0 n) (rest := List.range n) (acc := []) (o := none) (S := S ++ [Cl.lst (Ba (List.range n))]) (by rw [Fs]; simp) (by simpa using hn) (by rw [Fs]; simp; omega) (hp.app _) (by omega) hq
 refine ⟨os, S', ?_, pm, p2, Cw.new (A := [p]) (B := [S.length]) .app sm (by intro n hn; simp at hn; omega)⟩
 have nl := Kb (is := List.range n)
 rw [List.length_range] at nl
 have rk : HH (n : Int) = true := Dj (by omega) (by omega)
 have dq := Df hq
 rw [e0] at e ⊢
 generalize Ba (List.range n) = NR at *
 have e' : By [] (tNm 2) BM (Md R6 (eV 1) [(AJ AL [(eV 0), (eOp (o1 GW) [(eV 1)])])]) (GV 0 n) [] [some (.ref p), some (.ref S.length), none] (S ++ [Cl.lst NR]) = some (Ba os, S') := by rw [e0]; simpa using e
 simp [EB, IZ, dq, nl, rk, Nc, e']
theorem Vn : ∀ {rest : List Nat} {last j : Nat} {acc : List D} {o5 o6 : Option D} {S : Sto} {a0 a2 : Option D}, S[q]? = some (.lst acc) -> acc.length + rest.length ≤ 20 ->
    ∃ u4 u5 u6, J3 [] (tTp [(tNm 5), (tNm 6)]) (Am (Gj (Md Pl (eV 3) [(D9 [(eC (.str "pool")), (eV 4), (eV 6)])])) (CB 4 (eOp (o2 EE) [(eOp (o1 GW) [(eV 1)]), (eV 5)]))) (Lc j (Ba rest)) [a0, some (.tup (ls.map Ld.d)), a2, some (.ref q), some (.int last), o5, o6] S = some (.nx, [a0, some (.tup (ls.map Ld.d)), a2, some (.ref q), u4, u5, u6], S.set q (.lst (acc ++ (A6 ls.length last j rest).map Aj.d)))
  | [], last, j, acc, o5, o6, S, a0, a2, hq, hz => ⟨some (.int last), o5, o6, by
      show J3 [] _ _ [] _ S = _
      rw [J9 Ah]
      have : S.set q (.lst (acc ++ (A6 ls.length last j []).map Aj.d)) = S := by
        apply List.ext_getElem?
        intro i
        by_cases e : q = i
        · subst e
          rw [List.getElem?_set_self (CN hq), hq]; simp [A6]
        · rw [List.getElem?_set_ne e]
      rw [this]⟩
  | b :: rest, last, j, acc, o5, o6, S, a0, a2, hq, hz => by
    simp only [List.length_cons] at hz
    have cq := C6 hq
    have lq := CN hq
    have hz' : acc.length < sizeLine := Nat.lt_of_lt_of_le (show acc.length < 50 by omega) (AV (by decide))
    have hq2 : (S.set q (.lst (acc ++ [(Aj.pool last b).d])))[q]? = some (.lst (acc ++ [(Aj.pool last b).d])) := List.getElem?_set_self lq
    obtain ⟨u4, u5, u6, e⟩ := Vn (rest := rest) (last := ls.length + j) (j := j + 1) (acc := acc ++ [(Aj.pool last b).d]) (o5 := some (.int j)) (o6 := some (.int b)) (a0 := a0) (a2 := a2) hq2 (by simp; omega)
    refine ⟨u4, u5, u6, ?_⟩
    show J3 [] _ _ (.tup [.int j, .int b] :: Lc (j + 1) (Ba rest)) _ S = _
    rw [HU Ah]
    rw [show ((ls.length + j : Nat) : Int) = (ls.length : Int) + (j : Int) from by push_cast; rfl] at e
    have ef : acc ++ (A6 ls.length last j (b :: rest)).map Aj.d = acc ++ [(Aj.pool last b).d] ++ (A6 ls.length (ls.length + j) (j + 1) rest).map Aj.d := by simp [A6]
    rw [ef]
    rw [List.set_set] at e
    generalize (A6 ls.length (ls.length + j) (j + 1) rest).map Aj.d = PD at *
    simp only [Aj.d] at e ⊢
    have nl : (ls.map Ld.d).length = ls.length := by simp
    generalize ls.map Ld.d = LD at *
    simp [cq, hz', nl, e]
theorem QX {o : Nat} {rest : List Nat} (hz : rest.length ≤ 9) : ∃ S', Dy [t.d, .tup (ls.map Ld.d), .lst (Ba (o :: rest))] S = some (CZ t ls (A6 ls.length o 0 rest), S') /\ Cw [] S S' := by
 have hq : (S ++ [Cl.lst []])[S.length]? = some (.lst []) := List.getElem?_concat_length
 obtain ⟨u4, u5, u6, e⟩ := Vn (ls := ls) (q := S.length) (rest := rest) (last := o) (j := 0) (acc := []) (o5 := none) (o6 := none) (a0 := some t.d) (a2 := some (.lst (Ba (o :: rest)))) hq (by simp; omega)
 have ct : Hg (Ba (o :: rest)) (some 1) none = Ba rest := by
  have := MM (ds := Ba (o :: rest)) (n := 1) (by simp [Ba])
  simpa [Ba] using this
 have a0 : atI (Ba (o :: rest)) 0 = some (.int o) := by simp [Ba]
 have df : dr ((S ++ [Cl.lst []]).set S.length (.lst ([] ++ (A6 ls.length o 0 rest).map Aj.d))) (.ref S.length) = .own ((A6 ls.length o 0 rest).map Aj.d) := Df (by rw [List.getElem?_set_self (CN hq)]; simp)
 refine ⟨(S ++ [Cl.lst []]).set S.length (.lst ([] ++ (A6 ls.length o 0 rest).map Aj.d)), ?_, Cw.new (A := []) (B := [S.length]) .app (.set (by simp)) (by intro n hn; simp at hn; omega)⟩
 simp only [CZ]
 generalize hT : (S ++ [Cl.lst []]).set S.length (.lst ([] ++ (A6 ls.length o 0 rest).map Aj.d)) = T at *
 generalize (A6 ls.length o 0 rest).map Aj.d = PD at *
 generalize Ba (o :: rest) = NO at *
 simp [Dy, Ib, a0, ct, e, df]
end
end Mi
end
section
namespace Mi
open PySem PySem.Spec L2
theorem OR {α : Type} {xs : List α} {x : α} {k : Nat} (hl : xs.length = k + 1) (h : xs[k]? = some x) : atI xs (-1 : Int) = some x := by
 have ix : ixN xs.length (-1) = some k := by
  rw [hl]
  unfold ixN
  simp
  omega
 unfold atI
 rw [ix]
 exact h
theorem MH : ∀ {ns : List Int}, ((ns.sum : Int) : Rat) = (ns.map fun (n : Int) => (n : Rat)).sum
  | [] => rfl
  | n :: ns => by
    rw [List.sum_cons, List.map_cons, List.sum_cons, ← MH]
    push_cast
    rfl
def nI (L : List Ld) : Int := (L.map fun x => x.n).sum
theorem Ti {L : List Ld} : (nI L : Rat) = nS L := by
 unfold nI nS
 rw [MH, List.map_map]; rfl
structure Fin (t : Tr) (ls : List Ld) (kd : Nat) (ds : List Aj) (init : List Ld) (z : Ld) : Prop where
 bk : EW t ls ds
 len : ds.length + 1 = ls.length
 eq : (runs t (st0 t ls) ds).loads = init ++ [z]
 il : init.length + 2 = 2 * ls.length
 zero : ∀ x ∈ init, x.n = 0
 kz : z.k = kd
 nz : z.n = nI ls
 pz : 0 < z.n
 ow : z.ow.length = t.p
 mine : ∀ p, p < t.p -> (z.n : Rat) * ownAt z p = mS ls p
 kinds : ∀ x ∈ init, x.k = kd
structure Base (t : Tr) (ls : List Ld) (kd : Nat) : Prop where
 tr : Lg t
 inv : F2 t 0 (st0 t ls)
 kl : kd < t.k
 lo : 1 ≤ ls.length
 hi : ls.length ≤ 4
 ok : ∀ x ∈ ls, WO t kd x
section
variable {S : Sto} {t : Tr} {ls : List Ld} {p q kd : Nat}
theorem Gm {f : Ld -> Rat} (h0 : ∀ x : Ld, x.n = 0 -> f x = 0) : ∀ {L : List Ld}, (∀ x ∈ L, x.n = 0) -> (L.map f).sum = 0
  | [], _ => rfl
  | x :: L, h => by
    rw [List.map_cons, List.sum_cons, h0 x (h x List.mem_cons_self), Gm h0 fun y hy => h y (List.mem_cons_of_mem _ hy)]
    grind
theorem V3 (hb : Base t ls kd) {o : Nat} {rest : List Nat} (hp : (o :: rest).Perm (List.range ls.length)) : ∃ init z, Fin t ls kd (A6 ls.length o 0 rest) init z := by
  have hl : rest.length + 1 = ls.length := by have := hp.length_eq; simpa using this
  have nd := hp.nodup_iff.mpr List.nodup_range
  have nc := List.nodup_cons.mp nd
  have mem : ∀ i, i ∈ o :: rest ↔ i < ls.length := fun i => by rw [hp.mem_iff]; simp
  have ps : PSt kd (st0 t ls).loads o rest := ⟨(mem o).mp List.mem_cons_self, fun x hx => (mem x).mp (List.mem_cons_of_mem _ hx), nc.1, nc.2, fun l hl => (hb.ok l hl).k, by
      have := (hb.ok _ (Ad ((mem o).mp List.mem_cons_self))).n1
      show 0 < (AN ls o).n
      omega, fun x hx => by
      have := (hb.ok _ (Ad ((mem x).mp (List.mem_cons_of_mem _ hx)))).n1
      show 0 < (AN ls x).n
      omega, fun i hi h1 h2 => by
      have hi' : i < ls.length := hi
      rcases List.mem_cons.mp ((mem i).mpr hi') with e | e
      · exact absurd e h1
      · exact absurd e h2⟩
  have hpl : ∀ (n last j : Nat) (r : List Nat), (A6 n last j r).length = r.length := by
    intro n last j r
    induction r generalizing last j with
    | nil => rfl
    | cons a r ih => show (A6 n (n + j) (j + 1) r).length + 1 = _; rw [ih]; rfl
  obtain ⟨g1, g2, g3, g4, g5, e, g6, g7, g8⟩ := Ky (t := t) (n := ls.length) (P := t.p) ps (j := 0) rfl (fun l hl => (hb.ok l hl).len)
  have he : e + 1 = (runs t (st0 t ls) (A6 ls.length o 0 rest)).loads.length := by
    rw [g2]
    cases rest with
    | nil =>
      have := g7 rfl
      have ho : o < ls.length := (mem o).mp List.mem_cons_self
      simp at hl ⊢
      omega
    | cons a b => exact g8 (by simp)
  obtain ⟨init, ei, hz⟩ := g6.fin he
  have el := congrArg List.length ei
  rw [g2, List.length_append, List.length_singleton] at el
  generalize hZ : AN (runs t (st0 t ls) (A6 ls.length o 0 rest)).loads e = z at *
  have mz : z ∈ (runs t (st0 t ls) (A6 ls.length o 0 rest)).loads := by rw [← hZ]; exact Ad g6.lt
  have n1 : nS (runs t (st0 t ls) (A6 ls.length o 0 rest)).loads = (z.n : Rat) := by
    rw [ei]
    unfold nS
    rw [List.map_append, List.sum_append, Gm (f := fun x => (x.n : Rat)) (fun x hx => by rw [hx]; rfl) hz]
    simp
    grind
  refine ⟨init, z, ⟨hb.tr, hb.inv, g1, by rw [hpl]; have := hb.hi; omega⟩, by rw [hpl]; exact hl, ei, by omega, hz, g6.kind z mz, ?_, by rw [← hZ]; exact g6.pos, g3 z mz, fun p hp => ?_, fun x hx => g6.kind x (by rw [ei]; exact List.mem_append_left _ hx)⟩
  · have : (z.n : Rat) = (nI ls : Rat) := by rw [← n1, g4, Ti]; rfl
    exact Rat.intCast_inj.mp this
  · rw [← show mS (st0 t ls).loads p = mS ls p from rfl, ← g5 p hp, ei]
    unfold mS
    rw [List.map_append, List.sum_append, Gm (f := fun x => (x.n : Rat) * ownAt x p) (fun x hx => by rw [hx]; simp) hz]
    simp
    grind
theorem Base.bd (hb : Base t ls kd) : ∃ G B N K, Bd ls G B N K := hb.inv.bd (by decide)
theorem Ye {G B N K : Nat} {L : List Ld} (bd : Bd L G B N K) (hp : ∀ l ∈ L, p < l.ow.length) : By [] (tNm 1) BM (AJ A3 [(D9 [(eOp (o2 wIx) [(eV 1), (eC (.int 1))]), (eC (.int 1))]), (eOp (o2 wIx) [(eOp (o2 wIx) [(eV 1), (eC (.int 2))]), (eV 0)])]) (L.map Ld.d) [] [some (.int p), none] S = some ((L.map fun x => (x.n : Rat) * ownAt x p).map aD, S) := by
 have e := CT (gs := []) (t := tNm 1) (f := AJ A3 [(D9 [(eOp (o2 wIx) [(eV 1), (eC (.int 1))]), (eC (.int 1))]), (eOp (o2 wIx) [(eOp (o2 wIx) [(eV 1), (eC (.int 2))]), (eV 0)])]) (C := [some (.int p)]) (m := 1) (e := Ld.d) (g := fun x => aD ((x.n : Rat) * ownAt x p)) (S := S) Ah (xs := L) (acc := []) (os := [none]) rfl (Nat.le_trans (show _ ≤ 50 by have := bd.len; simp; omega) (AV (by decide))) (by
  intro x hx os ho
  obtain ⟨o1, rfl⟩ : ∃ o1, os = [o1] := by
   match os, ho with
   | [a], _ => exact ⟨a, rfl⟩
  have tm := OJ (S := S) (bd.nSz hx) ((bd.at hx p).sz bd.g0 bd.gK bd.hB) (by have := bd.hK; omega)
  rw [Ol] at tm
  have a := Rj (hp x hx)
  refine ⟨[some x.d], rfl, by simp, ?_⟩
  generalize aD ((x.n : Rat) * ownAt x p) = D1 at *
  generalize aD (ownAt x p) = D2 at *
  simp [Ld.d, shD, a, tm])
 rw [List.map_map]
 exact e
def MQ (t : Tr) (ls : List Ld) : List D := ((List.range t.p).map (mS ls)).map aD
theorem Qq (hb : Base t ls kd) {a0 a1 a2 a4 a6 o7 o8 : Option D} {R : En} : ∃ u8 q S', (Am (CB 7 (Mh [])) (Kn (JQ [(eOp (o2 wIx) [(eV 3), (eC (.int 0))])]) (tNm 8) (Gj (Md Pl (eV 7) [(AJ Ce [(C2 [8] 1 (Im (eV 5)) (tNm 1) BM (AJ A3 [(D9 [(eOp (o2 wIx) [(eV 1), (eC (.int 1))]), (eC (.int 1))]), (eOp (o2 wIx) [(eOp (o2 wIx) [(eV 1), (eC (.int 2))]), (eV 0)])]))])])))) (a0 :: a1 :: a2 :: some t.d :: a4 :: some (.tup (ls.map Ld.d)) :: a6 :: o7 :: o8 :: R) S = some (.nx, a0 :: a1 :: a2 :: some t.d :: a4 :: some (.tup (ls.map Ld.d)) :: a6 :: some (.ref q) :: u8 :: R, S') /\ S'[q]? = some (.lst (MQ t ls)) /\ Cw [] S S' /\ S.length ≤ q := by
 obtain ⟨t1, t2, t3, t4, t5, t6⟩ := hb.tr
 obtain ⟨G, B, N, K, bd⟩ := hb.bd
 have hq : (S ++ [Cl.lst []])[S.length]? = some (.lst []) := List.getElem?_concat_length
 generalize hQ : S.length = q at *
 obtain ⟨E', S', ef, i, o, f1, f2, rfl, f3, f4⟩ := GL (gs := []) (t := tNm 8) (b := Gj (Md Pl (eV 7) [(AJ Ce [(C2 [8] 1 (Im (eV 5)) (tNm 1) BM (AJ A3 [(D9 [(eOp (o2 wIx) [(eV 1), (eC (.int 1))]), (eC (.int 1))]), (eOp (o2 wIx) [(eOp (o2 wIx) [(eV 1), (eC (.int 2))]), (eV 0)])]))])]))
  (I := fun rs E S' => ∃ (i : Nat) (o : Option D), rs = ((List.range t.p).drop i).map (fun (i : Nat) => D.int i) /\ i ≤ t.p /\ E = a0 :: a1 :: a2 :: some t.d :: a4 :: some (.tup (ls.map Ld.d)) :: a6 :: some (.ref q) :: o :: R /\ S'[q]? = some (.lst (((List.range i).map (mS ls)).map aD)) /\ Cw [] S S')
  (fun _ _ _ _ => Ah) (ds := (List.range t.p).map fun (i : Nat) => D.int i) (E := a0 :: a1 :: a2 :: some t.d :: a4 :: some (.tup (ls.map Ld.d)) :: a6 :: some (.ref q) :: o8 :: R) (S := S ++ [Cl.lst []])
  ⟨0, o8, by simp, Nat.zero_le _, rfl, by simpa using hq, .app⟩ (by
   rintro dd rs E T ⟨i, o, i1, i2, rfl, i3, i4⟩
   have hlt : i < t.p := by
    rcases Nat.lt_or_ge i t.p with w | w
    ·exact w
    ·rw [List.drop_eq_nil_of_le (by simpa using w)] at i1; cases i1
   rw [List.drop_eq_getElem_cons (by simpa using hlt), List.map_cons, List.getElem_range] at i1
   injection i1 with z1 z2
   subst z1 z2
   have c := Ye (S := T) (p := i) bd (fun l hl => by rw [(hb.ok l hl).len]; exact hlt)
   have sm : Ce [.lst ((ls.map fun x => (x.n : Rat) * ownAt x i).map aD)] T = some (aD (mS ls i), T) := by
    refine Tg (B := B * N) bd.g0 bd.gK (by have := bd.hK; omega) (fun r hr => ?_) ?_
    ·obtain ⟨x, hx, rfl⟩ := List.mem_map.mp hr
     exact bd.mul hx i
    ·rw [List.length_map]
     have := Nat.mul_le_mul_right (B * N) bd.len
     have := bd.hb
     omega
   have cq := C6 i3
   have e2 : ((List.range (i + 1)).map (mS ls)).map aD = ((List.range i).map (mS ls)).map aD ++ [aD (mS ls i)] := by
    rw [List.range_succ, List.map_append, List.map_append]; rfl
   have hz : (((List.range i).map (mS ls)).map aD).length < sizeLine := Nat.lt_of_lt_of_le (show _ < 50 by simp; omega) (AV (by decide))
   have lq := i4.len
   refine ⟨a0 :: a1 :: a2 :: some t.d :: a4 :: some (.tup (ls.map Ld.d)) :: a6 :: some (.ref q) :: some (.int i) :: R, a0 :: a1 :: a2 :: some t.d :: a4 :: some (.tup (ls.map Ld.d)) :: a6 :: some (.ref q) :: some (.int i) :: R, T.set q (.lst (((List.range (i + 1)).map (mS ls)).map aD)), by simp, ?_, i + 1, _, rfl, hlt, rfl, List.getElem?_set_self (CN i3), Cw.new (A := []) (B := [q]) i4 (.set (by simp)) (by intro n hn'; simp at hn'; omega)⟩
   rw [e2]
   generalize ((List.range i).map (mS ls)).map aD = V at *
   generalize aD (mS ls i) = D1 at *
   generalize (ls.map fun x => (x.n : Rat) * ownAt x i).map aD = D2 at *
   simp [cq, Nc, c, sm, hz])
 have hz : i = t.p := by
  have := congrArg List.length f1
  simp at this
  omega
 subst hz
 refine ⟨o, q, S', ?_, f3, f4, by omega⟩
 have rk : HH (t.p : Int) = true := Dj (by omega) (by omega)
 have as1 : asS (.val t.d) = some [.int t.p, .int t.k, .int t.b, shD t.ho, .int t.h, .int t.l] := rfl
 have dt : ∀ T, dr T t.d = .val t.d := fun _ => rfl
 rw [← Lk] at ef
 simp only [Int.toNat_natCast] at ef
 simp [hQ, as1, dt, rk, ef]
end
end Mi
end
section
namespace Mi
open PySem PySem.Spec L2
section
variable {S : Sto} {t : Tr} {ls init : List Ld} {ds : List Aj} {z : Ld} {p q kd n : Nat} {d : Aj}
theorem M9 (hp : p < t.p) : BY [CZ t ls ds, .int p] S = some (.non, S) := by
 have h1 : (p : Int) ≤ (t.p : Int) - 1 := by omega
 have k1 : St.Kd.int.isA "int" = true := by decide
 have k2 : St.Kd.int.isA "bool" = false := by decide
 simp [k1, k2, BY, DR, ES, GB, Cs, El, Ej, GR, EI, FZ, CZ, Tr.d, kdW, h1]
theorem O4 {k : Nat} {L : List Ld} (hp : p < n) : atI ((List.range n).map fun p => shD (BO k L p)) (p : Int) = some (shD (BO k L p)) := CL (by rw [List.getElem?_map, List.getElem?_range hp]; rfl)
theorem Vh (h : EW t ls ds) (hp : p < t.p) : ∃ S', Bv [CZ t ls ds, .int ds.length, .int p] S = some (shD (BO t.k (runs t (st0 t ls) ds).loads p), S') /\ Cw [] S S' := by
 obtain ⟨S1, e1, s1⟩ := T3 (S := S) h (n := ds.length) (Nat.le_refl _)
 rw [List.take_length] at e1
 have r1 := Kc (S := S) h
 have r2 := Kz (S := S) (t := t) (ls := ls) (ds := ds) (n := ds.length) (Nat.le_refl _)
 have r3 := M9 (S := S) (ls := ls) (ds := ds) hp
 have a := O4 (k := t.k) (L := (runs t (st0 t ls) ds).loads) hp
 refine ⟨S1, ?_, s1⟩
 simp [Bv, Gv, r1, r2, r3, e1, a]
theorem IU {m : Int} (h : EW t ls ds) (hn : m = ds.length) : ∃ q S', BL [CZ t ls ds, .int m] S = some (.ref q, S') /\ S'[q]? = some (.lst ((runs t (st0 t ls) ds).loads.map Ld.d)) /\ Cw [] S S' := by
 subst hn
 obtain ⟨q, S', e, c, s, _⟩ := RY (S := S) h (n := ds.length) (Nat.le_refl _)
 rw [List.take_length] at c
 exact ⟨q, S', e, c, s⟩
theorem EW.snoc (h : EW t ls ds) (hl : ds.length < 16) (hc : Can t (runs t (st0 t ls) ds) d) : EW t ls (ds ++ [d]) := ⟨h.tr, h.inv, JY h.good hc, by simp; omega⟩
theorem kind_all : ∀ {L : List Ld}, (∀ x ∈ L, x.k = kd) -> kindS L p kd = mS L p
  | [], _ => rfl
  | x :: L, h => by
    rw [Ja, if_pos (h x List.mem_cons_self), kind_all fun y hy => h y (List.mem_cons_of_mem _ hy)]
    show _ = ((x :: L).map fun x => (x.n : Rat) * ownAt x p).sum
    rw [List.map_cons, List.sum_cons]
    rfl
theorem Fin.kindS (f : Fin t ls kd ds init z) (hp : p < t.p) : kindS (runs t (st0 t ls) ds).loads p kd = mS ls p := by
 rw [kind_all (fun x hx => by
  rw [f.eq] at hx
  rcases List.mem_append.mp hx with hx | hx
  ·exact f.kinds x hx
  ·rw [List.mem_singleton.mp hx]; exact f.kz), ← f.mine p hp, f.eq]
 unfold mS
 rw [List.map_append, List.sum_append, Gm (f := fun x => (x.n : Rat) * ownAt x p) (fun x hx => by rw [hx]; simp) f.zero]
 simp
 grind
theorem RB : Cu (.lst (MQ t ls)) (.lst (MQ t ls)) = true /\ deq (.lst (MQ t ls)) (.lst (MQ t ls)) = true :=
 ⟨G3 (Fm fun _ _ => Ni) (Nat.le_trans (V2 (n := 2) (by
  intro d hd
  obtain ⟨r, _, rfl⟩ := List.mem_map.mp hd
  exact Yn)) (by decide)), Hw (Fm fun _ _ => Ni)⟩
theorem QU {a b : Int} : Cu (.tup [.int a, .int b]) (.tup [.int a, .int b]) = true /\ deq (.tup [.int a, .int b]) (.tup [.int a, .int b]) = true :=
 ⟨G3 rfl (Nat.le_trans (Tv (n := 1) fun e he => by
  simp only [List.mem_cons, List.not_mem_nil, or_false] at he
  rcases he with rfl | rfl <;> exact To) (by decide)), Hw rfl⟩
theorem YG (f : Fin t ls kd ds init z) (hb : Base t ls kd) {G B N K : Nat} (bd : Bd (runs t (st0 t ls) ds).loads G B N K) : By [] (tNm 1) BM (AJ A3 [(D9 [(eV 0), (eC (.int 1))]), (eV 1)]) (z.ow.map aD) [] [some (.int (nI ls)), none] S = some (MQ t ls, S) := by
 have mz : z ∈ (runs t (st0 t ls) ds).loads := by rw [f.eq]; simp
 have e := CT (gs := []) (t := tNm 1) (f := AJ A3 [(D9 [(eV 0), (eC (.int 1))]), (eV 1)]) (C := [some (.int (nI ls))]) (m := 1) (e := fun p => aD (ownAt z p)) (g := fun p => aD (mS ls p)) (S := S) Ah (xs := List.range t.p) (acc := []) (os := [none]) rfl (Nat.le_trans (show _ ≤ 50 by have := hb.tr.2.1; simp; omega) (AV (by decide))) (by
  intro p hp os ho
  obtain ⟨o1, rfl⟩ : ∃ o1, os = [o1] := by
   match os, ho with
   | [a], _ => exact ⟨a, rfl⟩
  have tm := OJ (S := S) (bd.nSz mz) ((bd.at mz p).sz bd.g0 bd.gK bd.hB) (by have := bd.hK; omega)
  rw [f.mine p (by simpa using hp), Ol, f.nz] at tm
  refine ⟨[some (aD (ownAt z p))], rfl, by simp, ?_⟩
  generalize aD (mS ls p) = D1 at *
  generalize aD (ownAt z p) = D2 at *
  simp [tm])
 have e1 : z.ow.map aD = (List.range t.p).map fun p => aD (ownAt z p) := by
  rw [← PV f.ow, List.map_map]; rfl
 rw [e1, MQ, List.map_map]
 exact e
theorem X9 {q : Nat} (f : Fin t ls kd ds init z) (hl : init.length ≤ 20) : By [] (tNm 0) BM (eOp (o2 wIx) [(eV 0), (eC (.int 1))]) (init.map Ld.d) [] [none] S = some (List.replicate init.length (.int 0), S) := by
 have e := CT (gs := []) (t := tNm 0) (f := eOp (o2 wIx) [(eV 0), (eC (.int 1))]) (C := []) (m := 1) (e := Ld.d) (g := fun _ => D.int 0) (S := S) Ah (xs := init) (acc := []) (os := [none]) rfl (Nat.le_trans (show _ ≤ 50 by simp; omega) (AV (by decide))) (by
  intro x hx os ho
  obtain ⟨o1, rfl⟩ : ∃ o1, os = [o1] := by
   match os, ho with
   | [a], _ => exact ⟨a, rfl⟩
  exact ⟨[some x.d], rfl, by simp, by simp [Ld.d, f.zero x hx]⟩)
 rw [show init.map (fun _ => D.int 0) = List.replicate init.length (.int 0) from List.map_const' ..] at e
 exact e
theorem RT {xs : List D} {x : D} : Hg (xs ++ [x]) none (some (-1)) = xs := by
 unfold Hg
 have : HT.sIx (xs ++ [x]).length (xs ++ [x]).length (some (-1)) = xs.length := by
  unfold HT.sIx
  simp
  omega
 simp only [this]
 simp [HT.sIx]
theorem Zj (f : Fin t ls kd ds init z) (hb : Base t ls kd) : ∃ S', By [] (tNm 3) BM (eOp (o2 wIx) [(AJ Bv [(eV 1), (eV 2), (eV 3)]), (eV 0)]) (GV 0 t.p) [] [some (.int kd), some (CZ t ls ds), some (.int ds.length), none] S = some (MQ t ls, S') /\ Cw [] S S' := by
 obtain ⟨S2, e2, s2⟩ := ID (gs := []) (t := tNm 3) (f := eOp (o2 wIx) [(AJ Bv [(eV 1), (eV 2), (eV 3)]), (eV 0)]) (C := [some (.int kd), some (CZ t ls ds), some (.int ds.length)]) (m := 1) (e := fun p : Nat => D.int p) (g := fun p => aD (mS ls p)) (S0 := S) (fun _ _ => Ah) (xs := List.range t.p) (acc := []) (os := [none]) (S := S) rfl .refl (Nat.le_trans (show _ ≤ 50 by have := hb.tr.2.1; simp; omega) (AV (by decide))) (by
  intro p hp os T ho' hT
  obtain ⟨o1, rfl⟩ : ∃ o1, os = [o1] := by
   match os, ho' with
   | [a], _ => exact ⟨a, rfl⟩
  have hp' : p < t.p := by simpa using hp
  obtain ⟨T2, e3, s3⟩ := Vh (S := T) f.bk hp'
  have a : atI ((BO t.k (runs t (st0 t ls) ds).loads p).map aD) (kd : Int) = some (aD (mS ls p)) := CL (by rw [BO, List.map_map, List.getElem?_map, List.getElem?_range hb.kl, ← f.kindS hp']; rfl)
  refine ⟨[some (.int p)], T2, rfl, by simp, ?_, hT.trans s3⟩
  simp only [shD] at e3
  simp [e3, a])
 rw [← Lk] at e2
 simp only [List.nil_append, List.cons_append, Int.toNat_natCast] at e2
 refine ⟨S2, ?_, s2⟩
 rw [MQ, List.map_map]
 exact e2
end
end Mi
end
noncomputable section
namespace Mi
open PySem PySem.Spec L2
section
variable {S : Sto} {t : Tr} {ls init : List Ld} {ds : List Aj} {z : Ld} {p q kd : Nat}
def Ts : Ex := (Am (CB 13 (eOp (o2 P1) [(eOp (o2 Bl) [(eC (.int 2)), (eOp (o1 GW) [(eV 5)])]), (eC (.int 2))]))
  (Am (CB 14 (eOp (o2 EE) [(eC (.int 1)), (AJ AL [(eV 2), (eOp (o2 UN) [(eC (.int 99)), (eV 6)])])]))
  (Am (CB 15 (D9 [(eC (.str "swap")), (eV 13), (eV 14), (eOp (o2 MO) [(eOp (o2 EE) [(eV 4), (eC (.int 1))]), (eOp (o2 wIx) [(eV 3), (eC (.int 1))])]), (eC (.int 7))]))
  (Am (CB 16 (AJ BL [(D9 [(eV 3), (eV 5), (eOp (o2 EE) [(eOp (o2 wIx) [(eV 10), (eC (.int 2))]), (D9 [(eV 15)])])]), (eOp (o2 EE) [(eV 11), (eC (.int 1))])]))
  (xIf (eOr (eOp (o2 wNe) [(eOp (o2 wIx) [(eOp (o2 wIx) [(eV 16), (eOp (o1 Lx) [(eC (.int 1))])]), (eC (.int 2))]), (eOp (o2 wIx) [(eV 12), (eC (.int 2))])]) (eOr (eOp (o2 wNe) [(eOp (o2 wIx) [(eOp (o2 wIx) [(eV 16), (eV 13)]), (eC (.int 2))]), (eOp (o2 wIx) [(eV 12), (eC (.int 2))])]) (eOp (o2 wNe) [(eOp (o2 wIx) [(eOp (o2 wIx) [(eV 16), (eOp (o1 Lx) [(eC (.int 1))])]), (eC (.int 1))]), (eC (.int 7))]))) (Bq (eC (.bl false))) Ep)))))
theorem SY (f : Fin t ls kd ds init z) (hb : Base t ls kd) (hp : C0 p S) (hk : 1 < t.k) {a0 a1 a7 a8 a9 o13 o14 o15 o16 : Option D} : ∃ u13 u14 u15 u16 S', Ts [a0, a1, some (.ref p), some t.d, some (.int kd), some (.tup (ls.map Ld.d)), some (.int (nI ls)), a7, a8, a9, some (CZ t ls ds), some (.int ds.length), some z.d, o13, o14, o15, o16] S = some (.nx, [a0, a1, some (.ref p), some t.d, some (.int kd), some (.tup (ls.map Ld.d)), some (.int (nI ls)), a7, a8, a9, some (CZ t ls ds), some (.int ds.length), some z.d, u13, u14, u15, u16], S') /\ C0 p S' /\ Cw [p] S S' := by
 obtain ⟨t1, t2, t3, t4, t5, t6⟩ := hb.tr
 have hlo := hb.lo
 have hhi := hb.hi
 have hkl := hb.kl
 have nz := f.nz
 have pz := f.pz
 have il := f.il
 obtain ⟨r, S1, e1, a1', b1, p1⟩ := Bp hp (n := if nI ls < 99 then nI ls else 99) (by split <;> omega) (by split <;> omega)
 obtain ⟨k', ek, hk1, hk2⟩ : ∃ k' : Nat, ((kd : Int) + 1) % (t.k : Int) = k' /\ k' < t.k /\ k' ≠ kd := by
  have hm := UJ (x := (kd : Int) + 1) (K := t.k) (by omega) (by omega)
  refine ⟨(((kd : Int) + 1) % (t.k : Int)).toNat, ?_, ?_, ?_⟩ <;> split at hm <;> omega
 have ln : (runs t (st0 t ls) ds).loads.length = init.length + 1 := by rw [f.eq]; simp
 have lz : AN (runs t (st0 t ls) ds).loads init.length = z := by rw [f.eq]; exact HS
 have hr : 1 + r ≤ nI ls := by split at b1 <;> omega
 have can : Can t (runs t (st0 t ls) ds) (.swap init.length (1 + r) k' 7) := ⟨by omega, by omega, by rw [lz]; omega, hk1, by rw [lz, f.kz]; exact hk2, by decide, by decide⟩
 have bk := f.bk.snoc (by have := f.len; omega) can
 obtain ⟨q2, S2, e2, c2, s2⟩ := IU (S := S1) (m := (ds.length : Int) + 1) bk (by simp)
 have eL : (runs t (st0 t ls) (ds ++ [.swap init.length (1 + r) k' 7])).loads = less (init ++ [z]) init.length (1 + r) ++ [⟨k', 7, z.ow⟩] := by
  rw [LA]
  show less _ _ _ ++ [⟨k', 7, (AN (runs t (st0 t ls) ds).loads init.length).ow⟩] = _
  rw [lz, f.eq]
 have d2 := Df c2
 rw [eL] at d2
 have l2 : (less (init ++ [z]) init.length (1 + r)).length = init.length + 1 := by rw [BN]; simp
 have atE : atI ((less (init ++ [z]) init.length (1 + r) ++ [(⟨k', 7, z.ow⟩ : Ld)]).map Ld.d) (-1) = some (.tup [.int k', .int 7, .tup (z.ow.map aD)]) := OR (k := init.length + 1) (by simp [BN]) (by
  rw [List.getElem?_map, List.getElem?_append_right (by omega), l2]
  simp [Ld.d, shD])
 have atM : atI ((less (init ++ [z]) init.length (1 + r) ++ [(⟨k', 7, z.ow⟩ : Ld)]).map Ld.d) (init.length : Int) = some (.tup [.int z.k, .int (z.n - (1 + r)), .tup (z.ow.map aD)]) := CL (by
  rw [List.getElem?_map, List.getElem?_append_left (by omega), EJ (by omega), D6 (by simp), if_pos rfl, HS]
  simp [Ld.d, shD])
 have k1 : Cu (.tup (z.ow.map aD)) (.tup (z.ow.map aD)) = true := Sw
 have k2 : deq (.tup (z.ow.map aD)) (.tup (z.ow.map aD)) = true := U7
 have ms : Cp 2 (ls.length : Int) = true := mulL (by decide) (by decide)
 have e13 : (2 : Int) * (ls.length : Int) - 2 = (init.length : Int) := by omega
 have as1 : asS (.val t.d) = some [.int t.p, .int t.k, .int t.b, shD t.ho, .int t.h, .int t.l] := rfl
 have dt : ∀ T, dr T t.d = .val t.d := fun _ => rfl
 have hz : ds.length + 1 ≤ sizeLine := Nat.le_trans (show _ ≤ 50 by have := f.len; omega) (AV (by decide))
 have kp : 0 < t.k := by omega
 refine ⟨some (.int init.length), some (.int (1 + r)), some (.tup [.str "swap", .int init.length, .int (1 + r), .int k', .int 7]), some (.ref q2), S2, ?_, ?_, p1.same.trans (s2.mono (by simp))⟩
 ·simp only [CZ, List.map_append, List.map_cons, List.map_nil, Aj.d] at e2 ⊢
  have nl : (ls.map Ld.d).length = ls.length := by simp
  have nd : (ds.map Aj.d).length = ds.length := by simp
  generalize ls.map Ld.d = LD at *
  generalize ds.map Aj.d = DD at *
  generalize (less (init ++ [z]) init.length (1 + r) ++ [(⟨k', 7, z.ow⟩ : Ld)]).map Ld.d = L7 at *
  rw [show z.d = .tup [.int z.k, .int z.n, .tup (z.ow.map aD)] from rfl]
  generalize z.ow.map aD = OM at *
  generalize nI ls = NI at *
  simp [Ts, nl, nd, ms, e13, e1, as1, dt, kp, ek, hz, e2, d2, atE, atM, k1, k2]
 ·obtain ⟨ds', ed, hd⟩ := p1.pen
  exact ⟨ds', s2.get ed (by simp), hd⟩
def Lh : Ex := (Am (CB 10 (AJ Dy [(eV 3), (eV 5), (AJ EB [(eV 2), (eLR (eOp (o1 GW) [(eV 5)]))])]))
  (Am (CB 11 (eOp (o1 GW) [(eOp (o2 wIx) [(eV 10), (eC (.int 2))])]))
  (Am (xIf (eOp (o2 (UL true)) [(AJ Bn [(eV 10)]), (eC .non)]) (Bq (eC (.bl false))) Ep)
  (Am (CB 12 (eOp (o2 wIx) [(AJ BL [(eV 10), (eV 11)]), (eOp (o1 Lx) [(eC (.int 1))])]))
  (Am (xIf (eOp (o2 wNe) [(eOp (Jc false true) [(eV 12), (eC (.int 2))]), (D9 [(eV 4), (eV 6)])]) (Bq (eC (.bl false))) Ep)
  (Am (xIf (eOp (o2 wNe) [(C2 [6] 1 (Im (eOp (o2 wIx) [(eV 12), (eC (.int 2))])) (tNm 1) BM (AJ A3 [(D9 [(eV 0), (eC (.int 1))]), (eV 1)])), (eV 7)]) (Bq (eC (.bl false))) Ep)
  (Am (xIf (eOp (o2 wNe) [(C2 [] 1 (Im (eOp (Jc false true) [(AJ BL [(eV 10), (eV 11)]), (eOp (o1 Lx) [(eC (.int 1))])])) (tNm 0) BM (eOp (o2 wIx) [(eV 0), (eC (.int 1))])), (eOp (o2 Bl) [(K6 [(eC (.int 0))]), (eOp (o2 P1) [(eOp (o2 Bl) [(eC (.int 2)), (eOp (o1 GW) [(eV 5)])]), (eC (.int 2))])])]) (Bq (eC (.bl false))) Ep)
  (Am (xIf (eOp (o2 wNe) [(C2 [4, 10, 11] 1 (JQ [(eOp (o2 wIx) [(eV 3), (eC (.int 0))])]) (tNm 3) BM (eOp (o2 wIx) [(AJ Bv [(eV 1), (eV 2), (eV 3)]), (eV 0)])), (eV 7)]) (Bq (eC (.bl false))) Ep)
  (xIf (eOp (o2 wGt) [(eOp (o2 wIx) [(eV 3), (eC (.int 1))]), (eC (.int 1))]) Ts Ep)))))))))
theorem Su {m : Nat} : Cu (.lst (List.replicate m (.int 0))) (.lst (List.replicate m (.int 0))) = true /\ deq (.lst (List.replicate m (.int 0))) (.lst (List.replicate m (.int 0))) = true := by
 have e : List.replicate m (D.int 0) = (List.replicate m (0 : Int)).map D.int := by simp
 rw [e]
 exact ⟨G3 (Fm fun _ _ => rfl) (Nat.le_trans (V2 (n := 1) (by
  intro d hd
  obtain ⟨r, _, rfl⟩ := List.mem_map.mp hd
  exact To)) (by decide)), Hw (Fm fun _ _ => rfl)⟩
theorem Sl (hb : Base t ls kd) (hp : C0 p S) (hq : S[q]? = some (.lst (MQ t ls))) (hqp : q ≠ p) {a0 a1 a8 a9 o10 o11 o12 o13 o14 o15 o16 : Option D} : ∃ u10 u11 u12 u13 u14 u15 u16 S', Lh [a0, a1, some (.ref p), some t.d, some (.int kd), some (.tup (ls.map Ld.d)), some (.int (nI ls)), some (.ref q), a8, a9, o10, o11, o12, o13, o14, o15, o16] S = some (.nx, [a0, a1, some (.ref p), some t.d, some (.int kd), some (.tup (ls.map Ld.d)), some (.int (nI ls)), some (.ref q), a8, a9, u10, u11, u12, u13, u14, u15, u16], S') /\ C0 p S' /\ S'[q]? = some (.lst (MQ t ls)) := by
 obtain ⟨t1, t2, t3, t4, t5, t6⟩ := hb.tr
 have hlo := hb.lo
 have hhi := hb.hi
 obtain ⟨os, S1, e1, pm, p1, s1⟩ := RP (S := S) (n := ls.length) hp (by omega)
 have ol : os.length = ls.length := by have := pm.length_eq; simpa using this
 obtain ⟨o, rest, rfl⟩ : ∃ o rest, os = o :: rest := by
  cases os with
  | nil => simp at ol; omega
  | cons o rest => exact ⟨o, rest, rfl⟩
 obtain ⟨init, z, f⟩ := V3 hb pm
 obtain ⟨S2, e2, s2⟩ := QX (S := S1) (t := t) (ls := ls) (o := o) (rest := rest) (by simp at ol; omega)
 generalize A6 ls.length o 0 rest = ds at *
 have fl := f.len
 have il := f.il
 have fw := F6 (S := S2) f.bk
 obtain ⟨q3, S3, e3, c3, s3⟩ := IU (S := S2) (m := (ds.length : Int)) f.bk rfl
 obtain ⟨q4, S4, e4, c4, s4⟩ := IU (S := S3) (m := (ds.length : Int)) f.bk rfl
 obtain ⟨S5, e5, s5⟩ := Zj (S := S4) f hb
 have inv := f.bk.at ds.length
 rw [List.take_length] at inv
 obtain ⟨G, B, N, K, bd⟩ := inv.bd (by omega)
 have rc := YG (S := S3) f hb bd
 have zc := X9 (S := S4) (q := 0) f (by omega)
 rw [f.eq] at c3 c4
 have d3 := Df c3
 have d4 := Df c4
 have at3 : atI ((init ++ [z]).map Ld.d) (-1) = some (.tup [.int kd, .int (nI ls), .tup (z.ow.map aD)]) := OR (k := init.length) (by simp) (by
  rw [List.getElem?_map, List.getElem?_append_right (Nat.le_refl _)]
  simp [Ld.d, shD, f.kz, f.nz])
 have zd : z.d = .tup [.int kd, .int (nI ls), .tup (z.ow.map aD)] := by rw [Ld.d, f.kz, f.nz]; rfl
 have ct : Hg ((init ++ [z]).map Ld.d) none (some (-1)) = init.map Ld.d := by
  rw [List.map_append]; exact RT
 have ct2 : Hg [D.int kd, D.int (nI ls), D.tup (z.ow.map aD)] none (some 2) = [.int kd, .int (nI ls)] := nr rfl
 have S03 : Cw [p] S S3 := (s1.trans (s2.mono (by simp))).trans (s3.mono (by simp))
 have S04 : Cw [p] S S4 := S03.trans (s4.mono (by simp))
 have S05 : Cw [p] S S5 := S04.trans (s5.mono (by simp))
 have q3' := Df (S03.get hq (by simpa using hqp))
 have q5' := Df (S05.get hq (by simpa using hqp))
 have p5 : C0 p S5 := by
  obtain ⟨ds', ed, hd⟩ := p1
  exact ⟨ds', s5.get (s4.get (s3.get (s2.get ed (by simp)) (by simp)) (by simp)) (by simp), hd⟩
 have k1 := QU (a := (kd : Int)) (b := nI ls)
 have k2 := RB (t := t) (ls := ls)
 have k3 := Su (m := init.length)
 have ms : Cp 2 (ls.length : Int) = true := mulL (by decide) (by decide)
 have e13 : (2 : Int) * (ls.length : Int) - 2 = (init.length : Int) := by omega
 have mz : Bl (.val (.lst [.int 0])) (.val (.int (init.length : Int))) = some (.own (List.replicate init.length (.int 0))) := by
  have hs : init.length ≤ sizeLine := AV (by omega)
  have h1 : (init.length : Int) < 2 ^ 63 := by omega
  have h2 : -(2 : Int) ^ 63 ≤ (init.length : Int) := by omega
  rw [Gh, if_pos (by simp [hs]; omega)]
  simp
 have as1 : asS (.val t.d) = some [.int t.p, .int t.k, .int t.b, shD t.ho, .int t.h, .int t.l] := rfl
 have dt : ∀ T, dr T t.d = .val t.d := fun _ => rfl
 have rk : HH (t.p : Int) = true := Dj (by omega) (by omega)
 have l1 : (ls.length : Int) ≤ 1000 := by omega
 have nl : (ls.map Ld.d).length = ls.length := by simp
 have nd : (ds.map Aj.d).length = ds.length := by simp
 by_cases hk : 1 < t.k
 ·obtain ⟨u13, u14, u15, u16, S6, e6, p6, s6⟩ := SY f hb p5 hk (a0 := a0) (a1 := a1) (a7 := some (.ref q)) (a8 := a8) (a9 := a9) (o13 := o13) (o14 := o14) (o15 := o15) (o16 := o16)
  have hk' : (1 : Int) < t.k := by omega
  refine ⟨some (CZ t ls ds), some (.int ds.length), some z.d, u13, u14, u15, u16, S6, ?_, p6, (S05.trans s6).get hq (by simpa using hqp)⟩
  rw [zd] at e6 ⊢
  simp only [CZ] at e2 e3 e4 e5 e6 fw ⊢
  generalize ls.map Ld.d = LD at *
  generalize ds.map Aj.d = DD at *
  generalize (init ++ [z]).map Ld.d = L3 at *
  generalize init.map Ld.d = LI at *
  generalize z.ow.map aD = OM at *
  generalize Ba (o :: rest) = NO at *
  generalize MQ t ls = DU at *
  generalize nI ls = NI at *
  generalize List.replicate init.length (D.int 0) = ZS at *
  simp [Lh, nl, nd, l1, e1, e2, fw, isN, e3, d3, at3, ct2, k1.1, k1.2, Nc, rc, q3', k2.1, k2.2, e4, d4, ct, zc, ms, e13, -Gh, mz, k3.1, k3.2, as1, dt, rk, e5, q5', hk, hk', e6]
 ·have hk' : ¬ (1 : Int) < t.k := by omega
  refine ⟨some (CZ t ls ds), some (.int ds.length), some z.d, o13, o14, o15, o16, S5, ?_, p5, S05.get hq (by simpa using hqp)⟩
  rw [zd]
  simp only [CZ] at e2 e3 e4 e5 fw ⊢
  generalize ls.map Ld.d = LD at *
  generalize ds.map Aj.d = DD at *
  generalize (init ++ [z]).map Ld.d = L3 at *
  generalize init.map Ld.d = LI at *
  generalize z.ow.map aD = OM at *
  generalize Ba (o :: rest) = NO at *
  generalize MQ t ls = DU at *
  generalize nI ls = NI at *
  generalize List.replicate init.length (D.int 0) = ZS at *
  simp [Lh, nl, nd, l1, e1, e2, fw, isN, e3, d3, at3, ct2, k1.1, k1.2, Nc, rc, q3', k2.1, k2.2, e4, d4, ct, zc, ms, e13, -Gh, mz, k3.1, k3.2, as1, dt, rk, e5, q5', hk, hk']
end
end Mi
end
noncomputable section
namespace Mi
open PySem PySem.Spec L2
section
variable {S : Sto} {t : Tr} {ls : List Ld}
theorem TZ (hl : ls.length ≤ 10) : By [] (tNm 0) BM (eOp (o2 wIx) [(eV 0), (eC (.int 1))]) (ls.map Ld.d) [] [none] S = some ((ls.map fun x => x.n).map D.int, S) := by
 have e := CT (gs := []) (t := tNm 0) (f := eOp (o2 wIx) [(eV 0), (eC (.int 1))]) (C := []) (m := 1) (e := Ld.d) (g := fun x => D.int x.n) (S := S) Ah (xs := ls) (acc := []) (os := [none]) rfl (Nat.le_trans (show _ ≤ 50 by simp; omega) (AV (by decide))) (by
  intro x hx os ho
  obtain ⟨o1, rfl⟩ : ∃ o1, os = [o1] := by
   match os, ho with
   | [a], _ => exact ⟨a, rfl⟩
  exact ⟨[some x.d], rfl, by simp, by simp [Ld.d]⟩)
 rw [List.map_map]
 exact e
def ME : Ex := (Am (CB 2 (AJ Fd [(AJ CH [(eV 0), (eV 1)])]))
  (Am (CB 3 (AJ Du [(eV 2)]))
  (Am (CB 4 (AJ AL [(eV 2), (eOp (o2 wIx) [(eV 3), (eC (.int 1))])]))
  (Am (CB 5 (eOp (o1 FY) [(C2 [2, 3, 4] 1 (JQ [(eOp (o2 EE) [(eC (.int 1)), (AJ AL [(eV 2), (eC (.int 4))])])]) (tNm 3) BM (D9 [(eV 2), (AJ Br [(eV 0)]), (AJ Bt [(eV 0), (eOp (o2 wIx) [(eV 1), (eC (.int 0))])])]))]))
  (Am (CB 6 (eOp (o1 Pe) [(C2 [] 1 (Im (eV 5)) (tNm 0) BM (eOp (o2 wIx) [(eV 0), (eC (.int 1))]))]))
  (Am (CB 7 (Mh []))
  (Am (Kn (JQ [(eOp (o2 wIx) [(eV 3), (eC (.int 0))])]) (tNm 8) (Gj (Md Pl (eV 7) [(AJ Ce [(C2 [8] 1 (Im (eV 5)) (tNm 1) BM (AJ A3 [(D9 [(eOp (o2 wIx) [(eV 1), (eC (.int 1))]), (eC (.int 1))]), (eOp (o2 wIx) [(eOp (o2 wIx) [(eV 1), (eC (.int 2))]), (eV 0)])]))])])))
  (Kn (JQ [(eC (.int 3))]) (tNm 9) Lh))))))))
theorem UK {x y w : Ex} {E E1 : En} {S S1 : Sto} (h : Am x y E S = some (.nx, E1, S1)) : Am x (Am y w) E S = w E1 S1 := by
  rw [L4] at h ⊢
  cases e : x E S with
  | none => rw [e] at h; cases h
  | some r =>
    obtain ⟨f, E2, S2⟩ := r
    rw [e, Cv] at h
    rw [Cv]
    cases f with
    | nx =>
      rw [PJ] at h ⊢
      rw [L4, h, Cv, PJ]
    | ret w => cases h
theorem RG {ns : List Int} {k : Nat} {o2x o3x o4x o5x o6x o7x o8 o9 o10 o11 o12 o13 o14 o15 o16 : Option D} : ∃ u2 u3 u4 u5 u6 u7 u8 u9 u10 u11 u12 u13 u14 u15 u16 S', ME [some (.scr ns), some (.int k), o2x, o3x, o4x, o5x, o6x, o7x, o8, o9, o10, o11, o12, o13, o14, o15, o16] S = some (.nx, [some (.scr ns), some (.int k), u2, u3, u4, u5, u6, u7, u8, u9, u10, u11, u12, u13, u14, u15, u16], S') := by
 obtain ⟨c, e0⟩ := UB (S := S) (ns := ns) (k := k)
 obtain ⟨p, S1, e1, hp, _, _⟩ := VT (S := S) c
 obtain ⟨t, S2, e2, p2, ht, hh, g, g0, g1, g2⟩ := P7 hp
 obtain ⟨t1, t2, t3, t4, t5, t6⟩ := id ht
 obtain ⟨kd, S3, e3, a3, b3, p3⟩ := Bp p2.pen (n := t.k) (by omega) (by omega)
 obtain ⟨kd, rfl⟩ := Iw a3
 obtain ⟨r, S4, e4, a4, b4, p4⟩ := Bp p3.pen (n := 4) (by decide) (by decide)
 obtain ⟨m, rfl⟩ := Iw a4
 obtain ⟨ls, S5, e5, p5, l5, ok5⟩ := V8 (kd := kd) p4.pen ht (m := 1 + m) (by omega)
 have hkd : kd < t.k := by omega
 have fo : ER t ls := by
  have := MV hkd (acc := []) ER.nil ok5
  simpa using this
 have hb : Base t ls kd := ⟨ht, O0 fo (by omega) hh.1 g0 g1 g2, hkd, by omega, by omega, ok5⟩
 have pc := TZ (S := S5) (ls := ls) (by omega)
 have is := Ea (ls.map fun x => x.n)
 obtain ⟨u8, q, S6, e6, c6, s6, l6⟩ := Qq (S := S5) hb (a0 := some (.scr ns)) (a1 := some (.int k)) (a2 := some (.ref p)) (a4 := some (.int kd)) (a6 := some (.int (nI ls))) (o7 := o7x) (o8 := o8) (R := [o9, o10, o11, o12, o13, o14, o15, o16])
 have lp := p5.pen.lt
 have p6 : C0 p S6 := by
  obtain ⟨ds', ed, hd⟩ := p5.pen
  exact ⟨ds', s6.get ed (by simp), hd⟩
 have hqp : q ≠ p := by omega
 obtain ⟨E', S', ef, u9, u10, u11, u12, u13, u14, u15, u16, rfl, _, _⟩ := GL (gs := []) (t := tNm 9) (b := Lh)
  (I := fun rs E S' => ∃ (u9 u10 u11 u12 u13 u14 u15 u16 : Option D), E = [some (.scr ns), some (.int k), some (.ref p), some t.d, some (.int kd), some (.tup (ls.map Ld.d)), some (.int (nI ls)), some (.ref q), u8, u9, u10, u11, u12, u13, u14, u15, u16] /\ C0 p S' /\ S'[q]? = some (.lst (MQ t ls)))
  (fun _ _ _ _ => Ah) (ds := GV 0 (3 : Int).toNat) (E := [some (.scr ns), some (.int k), some (.ref p), some t.d, some (.int kd), some (.tup (ls.map Ld.d)), some (.int (nI ls)), some (.ref q), u8, o9, o10, o11, o12, o13, o14, o15, o16]) (S := S6)
  ⟨o9, o10, o11, o12, o13, o14, o15, o16, rfl, p6, c6⟩ (by
   rintro dd rs E T ⟨u9, u10, u11, u12, u13, u14, u15, u16, rfl, i2, i3⟩
   obtain ⟨v10, v11, v12, v13, v14, v15, v16, T2, e, g1, g2⟩ := Sl (S := T) hb i2 i3 hqp (a0 := some (.scr ns)) (a1 := some (.int k)) (a8 := u8) (a9 := some dd) (o10 := u10) (o11 := u11) (o12 := u12) (o13 := u13) (o14 := u14) (o15 := u15) (o16 := u16)
   exact ⟨_, _, T2, by simp, e, some dd, v10, v11, v12, v13, v14, v15, v16, rfl, g1, g2⟩)
 refine ⟨some (.ref p), some t.d, some (.int kd), some (.tup (ls.map Ld.d)), some (.int (nI ls)), some (.ref q), u8, u9, u10, u11, u12, u13, u14, u15, u16, S', ?_⟩
 have r3 : HH 3 = true := Dj (by decide) (by decide)
 have rm : HH (1 + (m : Int)) = true := Dj (by omega) (by omega)
 have em : (1 + (m : Int)).toNat = 1 + m := by omega
 have as1 : asS (.val t.d) = some [.int t.p, .int t.k, .int t.b, shD t.ho, .int t.h, .int t.l] := rfl
 have dt : ∀ T, dr T t.d = .val t.d := fun _ => rfl
 have st := UK (w := Kn (JQ [(eC (.int 3))]) (tNm 9) Lh) e6
 have nI' : (ls.map fun x => x.n).sum = nI ls := rfl
 rw [show (3 : Int).toNat = 3 from rfl] at ef
 unfold ME
 generalize (ls.map fun x => x.n).map D.int = PI at *
 generalize ls.map Ld.d = LD at *
 generalize hW : Am (CB 7 (Mh [])) (Am (Kn (JQ [(eOp (o2 wIx) [(eV 3), (eC (.int 0))])]) (tNm 8) (Gj (Md Pl (eV 7) [(AJ Ce [(C2 [8] 1 (Im (eV 5)) (tNm 1) BM (AJ A3 [(D9 [(eOp (o2 wIx) [(eV 1), (eC (.int 1))]), (eC (.int 1))]), (eOp (o2 wIx) [(eOp (o2 wIx) [(eV 1), (eC (.int 2))]), (eV 0)])]))])]))) (Kn (JQ [(eC (.int 3))]) (tNm 9) Lh)) = W at *
 simp [e0, e1, e2, e3, as1, dt, e4, rm, em, Nc, e5, pc, is, nI', st, r3, ef]
theorem VV (ns : List Int) (h : ns.length ≤ 63) : ∃ S', J7 [.scr ns] S = some (.bl true, S') := by
 obtain ⟨n, hn, hn2⟩ : ∃ n : Nat, (if (if (3 : Int) < ns.length then (3 : Int) else ns.length) > 1 then (if (3 : Int) < ns.length then (3 : Int) else ns.length) else 1) = (n : Int) /\ n ≤ 3 := by
  refine ⟨(if (if (3 : Int) < ns.length then (3 : Int) else ns.length) > 1 then (if (3 : Int) < ns.length then (3 : Int) else ns.length) else 1).toNat, ?_, ?_⟩
  ·split <;> split <;> omega
  ·split <;> split <;> omega
 have rn : HH (n : Int) = true := Dj (by omega) (by omega)
 obtain ⟨E', S', ef, q1, q2, q3, q4, q5, q6, q7, q8, q9, q10, q11, q12, q13, q14, q15, q16, _, rfl⟩ := GL (gs := []) (t := tNm 1) (b := ME)
  (I := fun rs E S' => ∃ (o1 o2 o3 o4 o5 o6 o7 o8 o9 o10 o11 o12 o13 o14 o15 o16 : Option D), (∀ d ∈ rs, ∃ k : Nat, d = .int k) /\ E = [some (.scr ns), o1, o2, o3, o4, o5, o6, o7, o8, o9, o10, o11, o12, o13, o14, o15, o16])
  (fun _ _ _ _ => Ah) (ds := GV 0 n) (E := [some (.scr ns), none, none, none, none, none, none, none, none, none, none, none, none, none, none, none, none]) (S := S)
  ⟨none, none, none, none, none, none, none, none, none, none, none, none, none, none, none, none, by
   intro d hd
   obtain ⟨k, _, rfl⟩ := List.mem_map.mp hd
   exact ⟨k, by simp⟩, rfl⟩ (by
   rintro dd rs E T ⟨o1, o2, o3, o4, o5, o6, o7, o8, o9, o10, o11, o12, o13, o14, o15, o16, i1, rfl⟩
   obtain ⟨k, rfl⟩ := i1 dd List.mem_cons_self
   obtain ⟨u2, u3, u4, u5, u6, u7, u8, u9, u10, u11, u12, u13, u14, u15, u16, T2, e⟩ := RG (S := T) (ns := ns) (k := k) (o2x := o2) (o3x := o3) (o4x := o4) (o5x := o5) (o6x := o6) (o7x := o7) (o8 := o8) (o9 := o9) (o10 := o10) (o11 := o11) (o12 := o12) (o13 := o13) (o14 := o14) (o15 := o15) (o16 := o16)
   exact ⟨_, _, T2, by simp, e, some (.int k), u2, u3, u4, u5, u6, u7, u8, u9, u10, u11, u12, u13, u14, u15, u16, fun d hd => i1 d (List.mem_cons_of_mem _ hd), rfl⟩)
 refine ⟨S', ?_⟩
 have eb : Oh = Am (Kn (JQ [(eOp (o2 Wf) [(eC (.int 1)), (eOp (o2 UN) [(eOp (o1 GW) [(eV 0)]), (eC (.int 3))])])]) (tNm 1) ME) (Bq (eC (.bl true))) := rfl
 unfold J7
 rw [eb]
 simp [hn, rn, ef]
end
end Mi
end
section
namespace Mi
open PySem PySem.Spec L2
open PyProof.Rows (boot_isinstance boot_int boot_bool boot_tuple boot_str boot_list boot_abs boot_all boot_any boot_sum boot_max boot_min boot_range boot_enumerate boot_zip boot_sorted boot_set boot_divmod)
structure All (w : World) (K : PySem.W.Frag) (mg : Str -> Option Value) : Prop where
 bt : Bts mg
 c_ALL : Nf K mg "ALL" N3
 c_MAKERS : Nf K mg "MAKERS" CW
 c_NOTHING : Nf K mg "NOTHING" Cq
 s_p_is_whole : St.Src K mg "is_whole" s_p_is_whole
 s_p_is_from : St.Src K mg "is_from" s_p_is_from
 s_p_is_within : St.Src K mg "is_within" s_p_is_within
 s_p_greatest_divisor : St.Src K mg "greatest_divisor" s_p_greatest_divisor
 s_p_lowest : St.Src K mg "lowest" s_p_lowest
 s_p_plus : St.Src K mg "plus" s_p_plus
 s_p_less : St.Src K mg "less" s_p_less
 s_p_times : St.Src K mg "times" s_p_times
 s_p_mixed : St.Src K mg "mixed" s_p_mixed
 s_p_is_partner : St.Src K mg "is_partner" s_p_is_partner
 s_p_has_pieces : St.Src K mg "has_pieces" s_p_has_pieces
 s_p_can_pool : St.Src K mg "can_pool" s_p_can_pool
 s_p_can_swap : St.Src K mg "can_swap" s_p_can_swap
 s_p_can_do : St.Src K mg "can_do" s_p_can_do
 s_p_held_without : St.Src K mg "held_without" s_p_held_without
 s_p_held_behind : St.Src K mg "held_behind" s_p_held_behind
 s_p_held_at_first : St.Src K mg "held_at_first" s_p_held_at_first
 s_p_made_from : St.Src K mg "made_from" s_p_made_from
 s_p_first_wrong : St.Src K mg "first_wrong" s_p_first_wrong
 s_p_refuse_undone : St.Src K mg "refuse_undone" s_p_refuse_undone
 s_p_refuse_no_number : St.Src K mg "refuse_no_number" s_p_refuse_no_number
 s_p_refuse_no_partner : St.Src K mg "refuse_no_partner" s_p_refuse_no_partner
 s_p_all_to_one : St.Src K mg "all_to_one" s_p_all_to_one
 s_p_mixed_shares : St.Src K mg "mixed_shares" s_p_mixed_shares
 s_p_made_shares : St.Src K mg "made_shares" s_p_made_shares
 s_p_worth_of_all : St.Src K mg "worth_of_all" s_p_worth_of_all
 s_p_part_thrown : St.Src K mg "part_thrown" s_p_part_thrown
 s_p_thrown_shares : St.Src K mg "thrown_shares" s_p_thrown_shares
 s_p_sold_shares : St.Src K mg "sold_shares" s_p_sold_shares
 s_p_shares_behind : St.Src K mg "shares_behind" s_p_shares_behind
 s_p_owners_behind : St.Src K mg "owners_behind" s_p_owners_behind
 s_p_state_by : St.Src K mg "state_by" s_p_state_by
 s_p_sums_by_kinds : St.Src K mg "sums_by_kinds" s_p_sums_by_kinds
 s_p_theirs_told : St.Src K mg "theirs_told" s_p_theirs_told
 s_p_loads_by : St.Src K mg "loads_by" s_p_loads_by
 s_p_theirs_by : St.Src K mg "theirs_by" s_p_theirs_by
 s_law_cell_at : St.Src K mg "_law_cell_at" s_law_cell_at
 s_law_pen : St.Src K mg "_law_pen" s_law_pen
 s_law_draw : St.Src K mg "_law_draw" s_law_draw
 s_law_common : St.Src K mg "_law_common" s_law_common
 s_law_made : St.Src K mg "_law_made" s_law_made
 s_law_plus : St.Src K mg "_law_plus" s_law_plus
 s_law_times : St.Src K mg "_law_times" s_law_times
 s_law_sum : St.Src K mg "_law_sum" s_law_sum
 s_law_whole : St.Src K mg "_law_whole" s_law_whole
 s_law_pieces : St.Src K mg "_law_pieces" s_law_pieces
 s_law_train : St.Src K mg "_law_train" s_law_train
 s_law_mixed : St.Src K mg "_law_mixed" s_law_mixed
 s_law_poolX : St.Src K mg "_law_pooled" s_law_poolX
 s_p_law : St.Src K mg "law" s_p_law
section
variable {P : Program} {w : World} {K : PySem.W.Frag} {mg : Str -> Option Value} {base : Heap}
theorem Rf {f : Addr} {fd : FuncData} (F : Fun K "law" "law" s_p_law f fd) (B : Bts mg) (BD : D7 P w K mg base) (B3 : HZ P w K mg base) (Cn : Gn P w K mg base) (Cg : GX P w K mg base) (Ff : LB P w K mg base) (AM : Dq P w K mg base) (Cz : JE P w K mg base) (FJ : Ku P w K mg base) (B7 : GJ P w K mg base) (DC : Hf P w K mg base) (D5 : IS P w K mg base) (EA : Ir P w K mg base) (Dv : Ig P w K mg base) : LH P w K mg base CX0 11 f fd ["_law_script"] (spD K 1 J7) := by
 refine Uv (k := 10) F BW rfl fun cdv A outer s H E hr => ?_
 have hu := AS hr
 exact (AF (Hn PassesOwn.never rfl (Ek rfl B.range (AA (Aq (OS rfl) rfl B.max boot_max (AA AE (AA (Aq (Kw rfl) rfl B.min boot_min (AA (Aq B0 rfl B.len boot_len (AA (AB 0) AD)) (AA AE AD))) AD))) AD)) (Ap 1 BW.nd) (AF (An 2 (AH Ff (hr.mono (by decide)) rfl (AA (AH Cg (hr.mono (by decide)) rfl (AA (AB 0) (AA (AB 1) AD))) AD)) BW.nd)
    (AF (An 3 (AH D5 (hr.mono (by decide)) rfl (AA (AB 2) AD)) BW.nd)
    (AF (An 4 (AH AM (hr.mono (by decide)) rfl (AA (AB 2) (AA (AK Ag (AB 3) AE) AD))) BW.nd)
    (AF (An 5 (CP CY rfl B.tuple boot_tuple (AA (CK [2, 3, 4] 1 ["_law_pen_here", "_law_train_here", "_law_kind", "_law_one"] rfl Na (Ek rfl B.range (AA (AX Al AE (AH AM (hr.mono (by decide)) rfl (AA (AB 2) (AA AE AD)))) AD)) (fun s H fp => ⟨(Ap 3 M4), B2, (Bx (AA (AB 2) (AA (AH DC (hr.mono (by decide)) rfl (AA (AB 0) AD)) (AA (AH B7 (hr.mono (by decide)) rfl (AA (AB 0) (AA (AK Ag (AB 1) AE) AD))) AD))))⟩)) AD)) BW.nd)
    (AF (An 6 (Aq (Ga rfl) rfl B.sum boot_sum (AA (CK [] 1 ["_law_load"] rfl Mz (Ec (AB 5)) (fun s H fp => ⟨(Ap 0 Mp), B2, (AK Ag (AB 0) AE)⟩)) AD)) BW.nd)
    (AF (An 7 (DJ AD) BW.nd)
    (AF (Hn PassesOwn.never rfl (Ek rfl B.range (AA (AK Ag (AB 3) AE) AD)) (Ap 8 BW.nd) (AI (GO (Nn PySem.F.slot_list_append PySem.F.type_list_append Oi (AB 7) (AA (AH FJ (hr.mono (by decide)) rfl (AA (CK [8] 1 ["_law_partner", "_law_load"] rfl Mr (Ec (AB 5)) (fun s H fp => ⟨(Ap 1 NF), B2, (AH Cz (hr.mono (by decide)) rfl (AA (Bx (AA (AK Ag (AB 1) AE) (AA AE AD))) (AA (AK Ag (AK Ag (AB 1) AE) (AB 0)) AD)))⟩)) AD)) AD)))))
    (AI (Hn PassesOwn.never rfl (Ek rfl B.range (AA AE AD)) (Ap 9 BW.nd) (AF (An 10 (AH Dv (hr.mono (by decide)) rfl (AA (AB 3) (AA (AB 5) (AA (AH EA (hr.mono (by decide)) rfl (AA (AB 2) (AA (YV rfl rfl B.list rfl B.range (AA (Aq B0 rfl B.len boot_len (AA (AB 5) AD)) AD)) AD))) AD)))) BW.nd)
    (AF (An 11 (Aq B0 rfl B.len boot_len (AA (AK Ag (AB 10) AE) AD)) BW.nd)
    (AF (Ck (BH Ly (AH BD (hr.mono (by decide)) rfl (AA (AB 10) AD)) Oe) (AI (AR Ko)) Az)
    (AF (An 12 (AK Ag (AH B3 (hr.mono (by decide)) rfl (AA (AB 10) (AA (AB 11) AD))) (Lm GK AE)) BW.nd)
    (AF (Ck (BH (Gg hu) (HR (AB 12) AE) (Bx (AA (AB 4) (AA (AB 6) AD)))) (AI (AR Ko)) Az)
    (AF (Ck (BH (Gg hu) (CK [6] 1 ["_law_pieces_here", "_law_share_here"] rfl NV (Ec (AK Ag (AB 12) AE)) (fun s H fp => ⟨(Ap 1 NN), B2, (AH Cz (hr.mono (by decide)) rfl (AA (Bx (AA (AB 0) (AA AE AD))) (AA (AB 1) AD)))⟩)) (AB 7)) (AI (AR Ko)) Az)
    (AF (Ck (BH (Gg hu) (CK [] 1 ["_law_row"] rfl Mt (Ec (HR (AH B3 (hr.mono (by decide)) rfl (AA (AB 10) (AA (AB 11) AD))) (Lm GK AE))) (fun s H fp => ⟨(Ap 0 NG), B2, (AK Ag (AB 0) AE)⟩)) (AX Ac (DJ (AA AE AD)) (AX G7 (AX Ac AE (Aq B0 rfl B.len boot_len (AA (AB 5) AD))) AE))) (AI (AR Ko)) Az)
    (AF (Ck (BH (Gg hu) (CK [4, 10, 11] 1 ["_law_kind", "_law_book", "_law_many", "_law_partner"] rfl Mu (Ek rfl B.range (AA (AK Ag (AB 3) AE) AD)) (fun s H fp => ⟨(Ap 3 Mw), B2, (AK Ag (AH Cn (hr.mono (by decide)) rfl (AA (AB 1) (AA (AB 2) (AA (AB 3) AD)))) (AB 0))⟩)) (AB 7)) (AI (AR Ko)) Az)
    (AI (Ck (BH OY (AK Ag (AB 3) AE) AE) (AF (An 13 (AX G7 (AX Ac AE (Aq B0 rfl B.len boot_len (AA (AB 5) AD))) AE) BW.nd)
    (AF (An 14 (AX Al AE (AH AM (hr.mono (by decide)) rfl (AA (AB 2) (AA (Aq (Kw rfl) rfl B.min boot_min (AA AE (AA (AB 6) AD))) AD)))) BW.nd)
    (AF (An 15 (Bx (AA Ca (AA (AB 13) (AA (AB 14) (AA (AX Ey (AX Al (AB 4) AE) (AK Ag (AB 3) AE)) (AA AE AD)))))) BW.nd)
    (AF (An 16 (AH B3 (hr.mono (by decide)) rfl (AA (Bx (AA (AB 3) (AA (AB 5) (AA (AX Al (AK Ag (AB 10) AE) (Bx (AA (AB 15) AD))) AD)))) (AA (AX Al (AB 11) AE) AD))) BW.nd)
    (AI (Ck (DW.dt (Uu (BH (Gg hu) (AK Ag (AK Ag (AB 16) (Lm GK AE)) AE) (AK Ag (AB 12) AE)) (Uu (BH (Gg hu) (AK Ag (AK Ag (AB 16) (AB 13)) AE) (AK Ag (AB 12) AE)) (Ui (BH (Gg hu) (AK Ag (AK Ag (AB 16) (Lm GK AE)) AE) AE))))) (AI (AR Ko)) Az)))))) Az))))))))))))))))))))
    (AI (AR Ko)))
theorem Ul {f : Addr} {fd : FuncData} (F : Fun K "law" "law" s_p_law f fd) (T : All w K mg) : LH P w K mg base CX0 11 f fd ["_law_script"] (spD K 1 J7) := by
 have B := T.bt
 have c_ALL := T.c_ALL
 have c_MAKERS := T.c_MAKERS
 have c_NOTHING := T.c_NOTHING
 have DL := DL (P := P) (w := w) (base := base) T.s_p_is_whole B
 have EC := EC (P := P) (w := w) (base := base) T.s_p_is_from DL
 have BS := BS (P := P) (w := w) (base := base) T.s_p_is_within EC
 have BK := BK (P := P) (w := w) (base := base) T.s_p_greatest_divisor B
 have Ax := Ax (P := P) (w := w) (base := base) T.s_p_lowest BK
 have EK := EK (P := P) (w := w) (base := base) T.s_p_plus Ax
 have Gx := Gx (P := P) (w := w) (base := base) T.s_p_less Ax
 have DF := DF (P := P) (w := w) (base := base) T.s_p_times Ax
 have FL := FL (P := P) (w := w) (base := base) T.s_p_mixed Ax
 have CM := CM (P := P) (w := w) (base := base) T.s_p_is_partner BS
 have Ai := Ai (P := P) (w := w) (base := base) T.s_p_has_pieces B
 have DB := DB (P := P) (w := w) (base := base) T.s_p_can_pool Ai
 have Cc := Cc (P := P) (w := w) (base := base) T.s_p_can_swap Ai
 have EZ := EZ (P := P) (w := w) (base := base) T.s_p_can_do Ai DB Cc
 have A4 := A4 (P := P) (w := w) (base := base) T.s_p_held_without
 have A9 := A9 (P := P) (w := w) (base := base) T.s_p_held_behind A4
 have Aw := Aw (P := P) (w := w) (base := base) T.s_p_held_at_first
 have Cf := Cf (P := P) (w := w) (base := base) T.s_p_made_from B
 have BD := BD (P := P) (w := w) (base := base) T.s_p_first_wrong B EZ A9 Aw
 have As := As (P := P) (w := w) (base := base) T.s_p_refuse_undone BD
 have Ae := Ae (P := P) (w := w) (base := base) T.s_p_refuse_no_number B BS
 have BE := BE (P := P) (w := w) (base := base) T.s_p_refuse_no_partner CM
 have CO := CO (P := P) (w := w) (base := base) T.s_p_all_to_one B c_ALL c_NOTHING
 have A5 := A5 (P := P) (w := w) (base := base) T.s_p_mixed_shares B FL
 have CA := CA (P := P) (w := w) (base := base) T.s_p_made_shares B Cf A5
 have Bz := Bz (P := P) (w := w) (base := base) T.s_p_worth_of_all B
 have B4 := B4 (P := P) (w := w) (base := base) T.s_p_part_thrown Ax Bz
 have Bi := Bi (P := P) (w := w) (base := base) T.s_p_thrown_shares A5 B4
 have B9 := B9 (P := P) (w := w) (base := base) T.s_p_sold_shares B EK Gx DF
 have Av := Av (P := P) (w := w) (base := base) T.s_p_shares_behind Bi B9
 have Bj := Bj (P := P) (w := w) (base := base) T.s_p_owners_behind c_MAKERS CO CA Av
 have Bs := Bs (P := P) (w := w) (base := base) T.s_p_state_by A9 Aw Av Bj
 have Bk := Bk (P := P) (w := w) (base := base) T.s_p_sums_by_kinds B c_NOTHING EK DF
 have B8 := B8 (P := P) (w := w) (base := base) T.s_p_theirs_told B Bs Bk
 have B3 := B3 (P := P) (w := w) (base := base) T.s_p_loads_by B As Ae Bs
 have Cn := Cn (P := P) (w := w) (base := base) T.s_p_theirs_by As Ae BE B8
 have Cg := Cg (P := P) (w := w) (base := base) T.s_law_cell_at B
 have Ff := Ff (P := P) (w := w) (base := base) T.s_law_pen B
 have AM := AM (P := P) (w := w) (base := base) T.s_law_draw
 have DO := DO (P := P) (w := w) (base := base) T.s_law_common
 have Be := Be (P := P) (w := w) (base := base) T.s_law_made B DO
 have Eh := Eh (P := P) (w := w) (base := base) T.s_law_plus Be
 have Cz := Cz (P := P) (w := w) (base := base) T.s_law_times Be
 have FJ := FJ (P := P) (w := w) (base := base) T.s_law_sum Eh
 have B7 := B7 (P := P) (w := w) (base := base) T.s_law_whole B AM Be
 have DC := DC (P := P) (w := w) (base := base) T.s_law_pieces AM
 have D5 := D5 (P := P) (w := w) (base := base) T.s_law_train AM B7
 have EA := EA (P := P) (w := w) (base := base) T.s_law_mixed B AM
 have Dv := Dv (P := P) (w := w) (base := base) T.s_law_poolX B
 exact Rf (P := P) (w := w) (base := base) F B BD B3 Cn Cg Ff AM Cz FJ B7 DC D5 EA Dv
theorem VG {l : PySem.W.OpenLaw} {fa : Addr} (hfa : mg "law" = some (.ref fa)) (T : All w K mg) :
  ∃ fd : FuncData, (∀ (s : Shared) (v : Value), BindsTo s fd ⟨[v], []⟩ [("_law_script", v)]) /\ ∀ base : Heap, K.In base -> base.Ns mainGlobals mg -> LH l.prog w K mg base CX0 11 fa fd ["_law_script"] (Th K) := by
 obtain ⟨f, fd, F, hm⟩ := T.s_p_law.ex
 have e := hfa.symm.trans hm
 cases e
 refine ⟨fd, fun s v => ?_, fun base _ _ => ?_⟩
 ·obtain ⟨oc, od, kV, doc, pm, an, cdv, ct, osl, hfd, _⟩ := F.ex
  subst hfd
  exact .of_eq rfl
 ·exact Vs (Ul (P := l.prog) (w := w) (base := base) F T) fun ns hl => VV ns hl
end
theorem walk {l : PySem.W.OpenLaw} {q : Program} {loose : List Str} {XP : (Str -> Option Value) -> Heap -> Prop} {YP : World -> Heap -> Prop} {d : DefRec} {K : Params -> PySem.W.Frag} (hn : l.most = some 63) (hdf : d.params.defaults = [])
  (hY : ∀ (w : World) (h : Heap), YP w h -> (K w.params).In h) (hd : d.name = "law")
  (F : ∀ (w : World) (mg : Str -> Option Value) (h : Heap), (K w.params).In h -> h.Ns mainGlobals mg -> All w (K w.params) mg) :
  PySem.W.WalkO q loose XP YP l.row.toRowW d [] (fun f vs => PySem.call f vs) :=
 L2.Sj (n := 63) (k := 11) (x := "_law_script") (CX := fun _ => CX0) (sp := fun w => Th (K w.params)) hn (by decide) hdf ⟨rfl, by decide, by decide⟩ hY (fun w mg fa h KX G hmg => VG (by rw [← hd]; exact hmg) (F w mg h KX G)) (fun _ _ a ns hl _ hS => ⟨a, ns, rfl, hS, hl, fun _ => rfl⟩) fun _ _ _ _ _ z => z
end Mi
end
section
namespace PySem.W.Fast
def tw17832178178049888542:=0
def tw18313733489706872914:=0
def tw3899129900523646906:=0
def tw1694471902794286854:=0
def tw1074482953876528343:=0
def tw13043128366275213614:=0
def tw17460534107483623822:=0
def tw15959032278213990986:=0
def tw18346643896373474792:=0
def tw13258567007977292917:=0
def tw3601697728776429735:=0
def tw15274621927361442361:=0
def tw15121010744472072807:=0
def tw11639551345834501358:=0
def tw9018861047777741726:=0
def tw17545975168805293529:=0
def tw18361167851511731380:=0
def tw16148259572762680948:=0
def tw8413300641993465657:=0
def tw9248794904226548576:=0
def tw1845702629424273723:=0
def tw6487371361148717942:=0
def tw13021760014992772515:=0
def tw13042240044378943072:=0
def tw6371893162068748514:=0
def tw13732258586588642636:=0
def tw2847543555724848589:=0
def tw13824487211973304912:=0
def tw238618926258588795:=0
def tw16026599382243535797:=0
def tw1871147787424682660:=0
def tw8568775556677404374:=0
def tw4196534973123216652:=0
def tw11377352536974355184:=0
def tw17509995577809823085:=0
def tw9772617767524157093:=0
def tw1082815865664582113:=0
def tw2141349785144242117:=0
def tw14207883645774965998:=0
def tw2668469121970033631:=0
def tw1567290085034064182:=0
def tw6728393072433874362:=0
def tw7626376548203230838:=0
def tw6805344029516226503:=0
def tw5626690838031407250:=0
def tw7686862879380009814:=0
def tw678503427158246306:=0
def tw11592185652600128761:=0
def tw16617787417054580033:=0
def tw9842256534360761717:=0
def tw13693377292779242097:=0
def tw2027195181491775812:=0
def tw8582797021901701909:=0
def tw2758174152184371047:=0
def tw17252694447393968007:=0
def tw7906615414328812263:=0
def tw10431801908026161655:=0
def tw17108340899797234726:=0
def tw18444066810522297752:=0
def tw18423468404402907502:=0
def tw10872150683490123318:=0
def tw127780665082788599:=0
def tw3888840115969173899:=0
def tw17522054308931551326:=0
def tw15727939571111011235:=0
def tw3141017193690236120:=0
def tw6207482109553446181:=0
def tw1502825817954582254:=0
def tw15553328259495289996:=0
def tw6549545641986552050:=0
def tw13571192014480932290:=0
def tw3278157822809461170:=0
def tw3055666349653144027:=0
def tw2229834903850519656:=0
def tw4474737589135235647:=0
def tw3265597370910465896:=0
def tw12878194845083091822:=0
def tw3421495955969781926:=0
def tw1650958180409705887:=0
def tw4679394703382282976:=0
def tw13291227250303287341:=0
def tw13448034485584062212:=0
def tw17516720230630069197:=0
def tw12809945777710962889:=0
def tw16803081231026764431:=0
def tw1081625923638957491:=0
def tw187788007401126343:=0
def tw9990151738686683557:=0
def tw9311459957905845948:=0
def tw15389466005165395902:=0
def tw12835992485878701208:=0
def tw6361950874841240334:=0
def tw8939133547969309526:=0
def tw3093187122533003220:=0
def tw6311039475385693290:=0
def tw789920016880173266:=0
def tw9172002756209002644:=0
def tw7576697894753707506:=0
def tw9282012964706781834:=0
def tw16669881919010615727:=0
def tw8962838013448618516:=0
def tw2744058334226214177:=0
def tw3349675987452271551:=0
def tw2439705277913117723:=0
def tw5899392076358681280:=0
def tw15326297939487064711:=0
def tw8293403731372881663:=0
def tw7093226945359955380:=0
def tw7340577548212407250:=0
def tw3564712431529748217:=0
def tw4345860995679046469:=0
def tw7406971890584722016:=0
def tw14969122082633776224:=0
def tw12348345226837260295:=0
def tw16784648460680163287:=0
def tw18315897246137319265:=0
def tw490885518719486012:=0
def tw13581401936470487947:=0
def tw10862121572368425010:=0
def tw2627861146810230907:=0
def tw7100167964455918556:=0
def tw10439597044516941442:=0
def tw5920561960823784247:=0
def tw6772514064082465519:=0
def tw10262525966161758326:=0
def tw10793839982805818087:=0
def tw16511937770318204988:=0
def tw9779515097324145679:=0
def tw14085661898892732751:=0
def tw14717138862758043682:=0
def tw1250613841977810172:=0
def tw3173886109581842166:=0
def tw5050294674290866828:=0
def tw11629537557566638408:=0
def tw13907529563194631150:=0
def tw11485098352137379361:=0
def tw16470909672604000106:=0
def tw11176928305583685537:=0
end PySem.W.Fast
open PySem PySem.W PyProof.Rows
set_option maxRecDepth 100000 in
set_option maxHeartbeats 0 in
theorem PySem.Challenge.cw_sharetrail_k14_pools_and_swaps_holds : PySem.Challenge.rw_sharetrail_k14_pools_and_swaps.Holds := by
  w_on; o_law; k_head; (case hw => w_witness2)
  k_fill
  refine Mi.walk (l := PySem.Challenge.rw_sharetrail_k14_pools_and_swaps) rfl rfl (fun w h Y => PySem.W.kIn_of Y) rfl ?F
  case F =>
    intro w mg h KX G
    have c_ALL : Mi.Nf (L2.KOf KX) mg "ALL" Mi.N3 := by
      dsimp only [L2.KOf]
      refine' Mi.Ox KX G ?e ?r
      (case e => k_is)
      case r =>
        refine' Mi.Le ?l ?z ?r
        (case l => k_is)
        (case z => decide)
        case r =>
          refine' Paired.cons ?_ ?_
          · exact Mi.Jz
          refine' Paired.cons ?_ ?_
          · exact Mi.Jz
          exact Paired.nil
    have c_MAKERS : Mi.Nf (L2.KOf KX) mg "MAKERS" Mi.CW := by
      dsimp only [L2.KOf]
      refine' Mi.Ox KX G ?e ?r
      (case e => k_is)
      case r =>
        refine' Mi.Le ?l ?z ?r
        (case l => k_is)
        (case z => decide)
        case r =>
          refine' Paired.cons ?_ ?_
          · exact Mi.J2
          refine' Paired.cons ?_ ?_
          · exact Mi.J2
          refine' Paired.cons ?_ ?_
          · exact Mi.J2
          refine' Paired.cons ?_ ?_
          · exact Mi.J2
          exact Paired.nil
    have c_NOTHING : Mi.Nf (L2.KOf KX) mg "NOTHING" Mi.Cq := by
      dsimp only [L2.KOf]
      refine' Mi.Ox KX G ?e ?r
      (case e => k_is)
      case r =>
        refine' Mi.Le ?l ?z ?r
        (case l => k_is)
        (case z => decide)
        case r =>
          refine' Paired.cons ?_ ?_
          · exact Mi.Jz
          refine' Paired.cons ?_ ?_
          · exact Mi.Jz
          exact Paired.nil
    have z_abs : mg "abs" = none := by
      refine' PySem.W.mg_none_of KX G ?z
      (case z => k_is)
    have z_bool : mg "bool" = none := by
      refine' PySem.W.mg_none_of KX G ?z
      (case z => k_is)
    have z_enumerate : mg "enumerate" = none := by
      refine' PySem.W.mg_none_of KX G ?z
      (case z => k_is)
    have z_int : mg "int" = none := by
      refine' PySem.W.mg_none_of KX G ?z
      (case z => k_is)
    have z_isinstance : mg "isinstance" = none := by
      refine' PySem.W.mg_none_of KX G ?z
      (case z => k_is)
    have z_len : mg "len" = none := by
      refine' PySem.W.mg_none_of KX G ?z
      (case z => k_is)
    have z_list : mg "list" = none := by
      refine' PySem.W.mg_none_of KX G ?z
      (case z => k_is)
    have z_max : mg "max" = none := by
      refine' PySem.W.mg_none_of KX G ?z
      (case z => k_is)
    have z_min : mg "min" = none := by
      refine' PySem.W.mg_none_of KX G ?z
      (case z => k_is)
    have z_range : mg "range" = none := by
      refine' PySem.W.mg_none_of KX G ?z
      (case z => k_is)
    have z_sorted : mg "sorted" = none := by
      refine' PySem.W.mg_none_of KX G ?z
      (case z => k_is)
    have z_sum : mg "sum" = none := by
      refine' PySem.W.mg_none_of KX G ?z
      (case z => k_is)
    have z_tuple : mg "tuple" = none := by
      refine' PySem.W.mg_none_of KX G ?z
      (case z => k_is)
    have z_zip : mg "zip" = none := by
      refine' PySem.W.mg_none_of KX G ?z
      (case z => k_is)
    refine ⟨⟨z_abs, z_bool, z_enumerate, z_int, z_isinstance, z_len, z_list, z_max, z_min, z_range, z_sorted, z_sum, z_tuple, z_zip⟩, c_ALL, c_MAKERS, c_NOTHING, ?_, ?_, ?_, ?_, ?_, ?_, ?_, ?_, ?_, ?_, ?_, ?_, ?_, ?_, ?_, ?_, ?_, ?_, ?_, ?_, ?_, ?_, ?_, ?_, ?_, ?_, ?_, ?_, ?_, ?_, ?_, ?_, ?_, ?_, ?_, ?_, ?_, ?_, ?_, ?_, ?_, ?_, ?_, ?_, ?_, ?_, ?_, ?_, ?_, ?_⟩
    all_goals (refine' Mi.UX KX G ?a ?l ?c ?k; (case a => k_is); (case l => k_is); (case c => k_is); (case k => k_is))
end
