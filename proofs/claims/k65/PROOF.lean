import PyProof.Rows.All
import Wide.All
import OpenK.AllK
import Wide.FinOn
import Lean
import PyProof.EqAt
import PyProof.EqKinds
import PyProof.TupleCall
import PyProof.Draws
import PyProof.EnumMake
import PyProof.EnumFor
import PyProof.ZipIter
import PyProof.ListMulRoad
import PyProof.NeData
import PyProof.SumWalkG
import PyProof.ListRange
import PySem.Challenge.RW_sharetrail_k65_whole_alone_and_together
set_option Elab.async false
set_option linter.all false
set_option maxRecDepth 100000
set_option maxHeartbeats 4000000
set_option exponentiation.threshold 10000
section
namespace L2
open PySem PySem.Spec PyProof.Rows
abbrev Key := Sum Int Str
def Zi : Key -> Value -> Bool
 | .inl k, v => Value.isInt k v
 | .inr x, v => Value.isStrOf x v
def iG (w : World) : Key -> Int
 | .inl k => hashInt k
 | .inr x => hashStr w x
theorem Cd : ∀ {k : Key} {v : Value}, Zi k v = true -> (∃ i t, k = Sum.inl i /\ v = Value.int i t) ∨ (∃ x t, k = Sum.inr x /\ v = Value.str x t)
  | .inl i, v, h => by
    obtain ⟨t, e⟩ := Value.isInt_shape (k := i) (v := v) h
    exact .inl ⟨i, t, rfl, e⟩
  | .inr x, v, h => by
    obtain ⟨t, e⟩ := Value.isStrOf_shape (x := x) (v := v) h
    exact .inr ⟨x, t, rfl, e⟩
theorem Z9 (a b : Int) : decide ((Sum.inl a : Key) = Sum.inl b) = (a == b) := by
 by_cases e : a = b
 ·subst e; simp
 ·have h : ¬ (Sum.inl a : Key) = Sum.inl b := fun q => e (Sum.inl.inj q)
  rw [decide_eq_false h]
  exact (beq_eq_false_iff_ne.mpr e).symm
theorem Zm (a b : Str) : decide ((Sum.inr a : Key) = Sum.inr b) = decide (a = b) := by
 by_cases e : a = b
 ·subst e; simp
 ·have h : ¬ (Sum.inr a : Key) = Sum.inr b := fun q => e (Sum.inr.inj q)
  rw [decide_eq_false h, decide_eq_false e]
theorem af (a : Int) (b : Str) : decide ((Sum.inl a : Key) = Sum.inr b) = false := decide_eq_false (fun q => nomatch q)
theorem Z0 (a : Str) (b : Int) : decide ((Sum.inr a : Key) = Sum.inl b) = false := decide_eq_false (fun q => nomatch q)
def Tz (prog : Program) (w : World) : PySem.KeyKind prog w Key where
 is := Zi
 hash := iG w
 inj := fun v a b ha hb => by
  rcases Cd ha with ⟨i, t, rfl, rfl⟩ | ⟨x, t, rfl, rfl⟩
  ·rcases Cd hb with ⟨j, u, rfl, e⟩ | ⟨y, u, rfl, e⟩
   ·injection e with e1 _; rw [e1]
   ·exact nomatch e
  ·rcases Cd hb with ⟨j, u, rfl, e⟩ | ⟨y, u, rfl, e⟩
   ·exact nomatch e
   ·injection e with e1 _; rw [e1]
 byValue := fun k v h => by
  rcases Cd h with ⟨i, t, rfl, rfl⟩ | ⟨x, t, rfl, rfl⟩ <;> rfl
 pyHash := fun hv h => by
  rcases Cd hv with ⟨i, t, rfl, rfl⟩ | ⟨x, t, rfl, rfl⟩
  ·exact wpAny_pyHash_int h
  ·exact wpAny_pyHash_str h
 eqBool := fun hu hv h => by
  rcases Cd hu with ⟨i, t, rfl, rfl⟩ | ⟨x, t, rfl, rfl⟩
  ·rcases Cd hv with ⟨j, u, rfl, rfl⟩ | ⟨y, u, rfl, rfl⟩
   ·rw [Z9] at h; exact wpAny_eqBool_int h
   ·rw [af] at h; exact SeqAt.EqAt.int_str i t y u _ _ _ _ h
  ·rcases Cd hv with ⟨j, u, rfl, rfl⟩ | ⟨y, u, rfl, rfl⟩
   ·rw [Z0] at h; exact SeqAt.EqAt.str_int x t j u _ _ _ _ h
   ·rw [Zm] at h; exact wpAny_eqBool_str h
 «strs» := fun k x t v h => by
  rcases Cd h with ⟨i, u, rfl, e⟩ | ⟨y, u, rfl, e⟩
  ·exact nomatch e
  ·injection e with e1 _
   subst e1
   cases v <;> rfl
end L2
namespace L2
open PySem PySem.Spec PyProof.Rows
inductive V where
 | non | bl (b : Bool) | int (i : Int) | str (x : Str) | byt (b : Array UInt8) | flt (b : UInt64) | ref (a : Addr) | ty (n : String)
 deriving DecidableEq
def RelV : V -> Value -> Prop
 | .non, u => u = Value.none
 | .bl b, u => u = Value.bool b
 | .int i, u => ∃ t, u = Value.int i t
 | .str x, u => ∃ t, u = Value.str x t
 | .byt b, u => ∃ t, u = Value.bytes b t
 | .flt b, u => ∃ t, u = Value.float b t
 | .ref a, u => u = Value.ref a
 | .ty n, u => u = Value.type n
abbrev Vals : List V -> List Value -> Prop := Paired RelV
theorem Vals.length {xs : List V} {us : List Value} (r : Vals xs us) : xs.length = us.length := Paired.length r
theorem Vals.get : ∀ {xs : List V} {us : List Value} {i : Nat} {x : V}, Vals xs us -> xs[i]? = some x -> ∃ u, us[i]? = some u /\ RelV x u
  | _, _, _, _, .nil, e => by simp at e
  | _, _, 0, _, .cons r _, e => by simp at e; subst e; exact ⟨_, rfl, r⟩
  | _, _, i + 1, x, .cons _ t, e => by
    obtain ⟨u, h1, h2⟩ := Vals.get (i := i) (x := x) t (by simpa using e)
    exact ⟨u, by simpa using h1, h2⟩
theorem Vals.set {x : V} {u : Value} (r : RelV x u) : ∀ {xs : List V} {us : List Value} (i : Nat), Vals xs us -> Vals (xs.set i x) (us.set i u)
 | _, _, _, .nil => .nil
 | _, _, 0, .cons _ t => .cons r t
 | _, _, i + 1, .cons q t => .cons q (Vals.set r i t)
theorem Vals.append : ∀ {xs ys : List V} {us ws : List Value}, Vals xs us -> Vals ys ws -> Vals (xs ++ ys) (us ++ ws)
 | _, _, _, _, .nil, s => s
 | _, _, _, _, .cons r t, s => .cons r (Vals.append t s)
theorem Vals.take : ∀ {xs : List V} {us : List Value} (n : Nat), Vals xs us -> Vals (xs.take n) (us.take n)
 | _, _, 0, _ => .nil
 | _, _, _ + 1, .nil => .nil
 | _, _, n + 1, .cons r t => .cons r (Vals.take n t)
theorem Vals.drop : ∀ {xs : List V} {us : List Value} (n : Nat), Vals xs us -> Vals (xs.drop n) (us.drop n)
 | _, _, 0, r => r
 | _, _, _ + 1, .nil => .nil
 | _, _, n + 1, .cons _ t => Vals.drop n t
def bN : Option V -> Option Value -> Prop
 | some v, some u => RelV v u
 | none, none => True
 | _, _ => False
def KV {κ : Type} : List (κ × V) -> List (κ × Value) -> Prop := Paired fun (p : κ × V) (q : κ × Value) => p.1 = q.1 /\ RelV p.2 q.2
def kV : Key -> V
 | .inl i => .int i
 | .inr x => .str x
inductive HO where
 | lst (xs : List V)
 | tup (xs : List V)
 | dK (kvs : List (Key × V)) | dT (kvs : List (List Key × V))
 | set (S : Int -> Bool) (n : Nat)
 | ins (C dx : Addr) (fs : List (Str × V))
 | own (x : Addr)
 | xd (fs : List (Str × V))
 | met (f x : Addr)
 | rng (lo hi : Int)
 | frz (o : Obj) (u : HO)
 | tbl (ps : Array Value)
 | ext (φ : Heap -> Prop)
abbrev Hp := Addr -> Option HO
def upd (H : Hp) (a : Addr) (o : HO) : Hp := fun b => if b = a then some o else H b
theorem CQ {H : Hp} {a : Addr} {o : HO} : upd H a o a = some o := by unfold upd; rw [if_pos rfl]
theorem BF {H : Hp} {a b : Addr} {o : HO} (h : b ≠ a) : upd H a o b = H b := by unfold upd; rw [if_neg h]
theorem Bi {H : Hp} {a b : Addr} {o : HO} (h : H a = some o) (h' : H b = none) : a ≠ b := by
 intro e; subst e; rw [h] at h'; cases h'
section
variable (P : Program) (w : World)
def GJ (H : Hp) (h : Heap) (a : Addr) : HO -> Prop
 | .lst xs => xs.length ≤ sizeLine /\ ∃ (its : List Value) (n : Nat), Vals xs its /\ h.get? a = some { cls := .type "list", data := .seq its.toArray n }
 | .tup xs => xs.length ≤ sizeLine /\ ∃ its : List Value, Vals xs its /\ IsTup h a its.toArray
 | .dK kvs => kvs.length ≤ sizeLine /\ (a == sysModules) = false /\ ∃ vs, KV kvs vs /\ h.DictOf (Tz P w) a vs
 | .dT kvs => kvs.length ≤ sizeLine /\ (a == sysModules) = false /\ ∃ xs : List (List Key × Addr × Value),
   Paired (fun (p : List Key × V) (q : List Key × Addr × Value) => p.1 = q.1 /\ H q.2.1 = some (.tup (p.1.map kV)) /\ RelV p.2 q.2.2) kvs xs /\
   ∃ o es ep, h.get? a = some o /\ o.ExactDict /\ o.data = .dict es ep /\ es.toList = xs.map (entryOfKey (tupleKind (Tz P w))) /\ (xs.map (·.1)).Nodup
 | .set S n => h.SetOf (intKind P w) a S n
 | .ins C dx fs => H dx = some (.own a) /\ fs.length ≤ 1000 /\ dx ≠ a /\ h.get? a = some (PySem.W.instObj C dx) /\
   ∃ mA, h.Ns1 dx mA /\ (∀ f, bN (fs.lookup f) (mA f)) /\ PySem.Within mA (fs.map (·.1))
 | .own _ => ∃ o, h.get? a = some o
 | .xd fs => ∃ mA, h.Ns1 a mA /\ ∀ f, bN (fs.lookup f) (mA f)
 | .rng lo hi => ∃ t u v, h.get? a = some { cls := .type "range", data := .fields #[.int lo t, .int hi u, .int 1 v] }
 | .frz o u => h.get? a = some o /\ GJ H h a u
 | .tbl ps => h.get? a = some { cls := .none, data := .fields ps }
 | .met f x => h.get? a = some (PySem.W.methodObj (.ref f) (.ref x))
 | .ext φ => φ h /\ (∃ o, h.get? a = some o) /\ ∀ h1 h2 : Heap, φ h1 -> (∀ o, h1.get? a = some o -> h2.get? a = some o) -> φ h2
def HOk (H : Hp) (h : Heap) : Prop := ∀ a o, H a = some o -> GJ P w H h a o
end
section
variable {P : Program} {w : World} {H H' : Hp} {h h' : Heap} {a : Addr} {o : HO}
theorem GJ.lt (x : GJ P w H h a o) : a < h.objs.size := by
 cases o with
 | lst xs => obtain ⟨_, _, _, _, e⟩ := x; exact Heap.lt_size e
 | tup xs => obtain ⟨_, _, _, p⟩ := x; exact p.lt
 | dK kvs => obtain ⟨_, _, _, _, o, _, _, e, _⟩ := x; exact Heap.lt_size e
 | dT kvs => obtain ⟨_, _, _, _, o, _, _, e, _⟩ := x; exact Heap.lt_size e
 | set S n => obtain ⟨o, _, _, _, e, _⟩ := x; exact Heap.lt_size e
 | ins C dx fs => obtain ⟨_, _, _, e, _⟩ := x; exact Heap.lt_size e
 | own y => obtain ⟨_, e⟩ := x; exact Heap.lt_size e
 | xd fs => obtain ⟨_, ⟨_, _, _, e, _⟩, _⟩ := x; exact Heap.lt_size e
 | rng lo hi => obtain ⟨_, _, _, e⟩ := x; exact Heap.lt_size e
 | frz ob u => obtain ⟨e, _⟩ := x; exact Heap.lt_size e
 | tbl ps => exact Heap.lt_size (show h.get? a = some _ from x)
 | met f y => exact Heap.lt_size (show h.get? a = some _ from x)
 | ext φ => obtain ⟨_, ⟨_, e⟩, _⟩ := x; exact Heap.lt_size e
theorem Paired.mapP {α β : Type} {F G : α -> β -> Prop} : ∀ {l₁ : List α} {l₂ : List β}, Paired F l₁ l₂ -> (∀ a b, F a b -> G a b) -> Paired G l₁ l₂
 | _, _, .nil, _ => .nil
 | _, _, .cons r t, f => .cons (f _ _ r) (Paired.mapP t f)
theorem GJ.stay (x : GJ P w H h a o) (k : ∀ b u, (b = a ∨ H b = some (.own a)) -> h.get? b = some u -> h'.get? b = some u)
    (ho : ∀ b, H b = some (.own a) -> H' b = some (.own a)) (ht : ∀ b xs, H b = some (.tup xs) -> H' b = some (.tup xs)) : GJ P w H' h' a o := by
  induction o with
  | lst xs => obtain ⟨z, its, n, r, e⟩ := x; exact ⟨z, its, n, r, k _ _ (.inl rfl) e⟩
  | tup xs => obtain ⟨z, its, r, ob, e, c⟩ := x; exact ⟨z, its, r, ob, k _ _ (.inl rfl) e, c⟩
  | dK kvs => obtain ⟨z, y, vs, r, ob, es, ep, e, c⟩ := x; exact ⟨z, y, vs, r, ob, es, ep, k _ _ (.inl rfl) e, c⟩
  | dT kvs =>
    obtain ⟨z, y, xs, r, ob, es, ep, e, c⟩ := x
    exact ⟨z, y, xs, Paired.mapP r fun p q z => ⟨z.1, ht _ _ z.2.1, z.2.2⟩, ob, es, ep, k _ _ (.inl rfl) e, c⟩
  | set S n => obtain ⟨ob, es, ep, t, e, c⟩ := x; exact ⟨ob, es, ep, t, k _ _ (.inl rfl) e, c⟩
  | ins C dx fs =>
    obtain ⟨d, z, ne, e, mA, ⟨od, es, ep, e2, c⟩, r⟩ := x
    exact ⟨ho _ d, z, ne, k _ _ (.inl rfl) e, mA, ⟨od, es, ep, k _ _ (.inr d) e2, c⟩, r⟩
  | own y => obtain ⟨ob, e⟩ := x; exact ⟨ob, k _ _ (.inl rfl) e⟩
  | xd fs => obtain ⟨mA, ⟨od, es, ep, e, c⟩, r⟩ := x; exact ⟨mA, ⟨od, es, ep, k _ _ (.inl rfl) e, c⟩, r⟩
  | rng lo hi => obtain ⟨t, u, v, e⟩ := x; exact ⟨t, u, v, k _ _ (.inl rfl) e⟩
  | frz ob u ih => obtain ⟨e, q⟩ := x; exact ⟨k _ _ (.inl rfl) e, ih q⟩
  | tbl ps =>
    have e : h.get? a = some { cls := .none, data := .fields ps } := x
    show h'.get? a = some { cls := .none, data := .fields ps }
    exact k a _ (.inl rfl) e
  | met f y =>
    have e : h.get? a = some (PySem.W.methodObj (.ref f) (.ref y)) := x
    show h'.get? a = some (PySem.W.methodObj (.ref f) (.ref y))
    exact k a _ (.inl rfl) e
  | ext φ => obtain ⟨p, ⟨o, e⟩, st⟩ := x; exact ⟨st _ _ p fun o q => k _ _ (.inl rfl) q, ⟨o, k _ _ (.inl rfl) e⟩, st⟩
theorem HOk.lt (x : HOk P w H h) (e : H a = some o) : a < h.objs.size := (x a o e).lt
theorem HOk.fresh (x : HOk P w H h) (e : h.objs.size ≤ a) : H a = none := by
 cases q : H a with
 | none => rfl
 | some u => exact absurd (Nat.lt_of_lt_of_le (x.lt q) e) (Nat.lt_irrefl _)
theorem HOk.kept (x : HOk P w H h) (k : ∀ b u, h.get? b = some u -> h'.get? b = some u) : HOk P w H h' := fun a o e =>
 (x a o e).stay (fun b u _ q => k b u q) (fun _ q => q) fun _ _ q => q
theorem HOk.laid (x : HOk P w H h) (k : ∀ b u, h.get? b = some u -> h'.get? b = some u) (hp : h.objs.size ≤ a) (new : GJ P w (upd H a o) h' a o) : HOk P w (upd H a o) h' := fun b u e => by
 have hn := x.fresh hp
 by_cases hb : b = a
 ·subst hb; rw [CQ] at e; cases e; exact new
 ·rw [BF hb] at e
  exact (x b u e).stay (fun c v _ q => k c v q) (fun c q => by rw [BF (Bi q hn)]; exact q) fun c xs q => by rw [BF (Bi q hn)]; exact q
end
def Rd (H : Hp) (a : Addr) (u : HO) : Prop := H a = some u ∨ ∃ o, H a = some (.frz o u)
theorem Rd.ok {P : Program} {w : World} {H : Hp} {h : Heap} {a : Addr} {u : HO} (r : Rd H a u) (x : HOk P w H h) : GJ P w H h a u := by
 rcases r with r | ⟨o, r⟩
 ·exact x a u r
 ·obtain ⟨_, q⟩ := x a _ r
  exact q
def Mut : Option HO -> Prop
 | some (.lst _) => True
 | some (.dK _) => True
 | some (.dT _) => True
 | some (.set _ _) => True
 | some (.ins _ _ _) => True
 | some (.ext _) => True
 | _ => False
section
variable {P : Program} {w : World} {H : Hp} {h h' : Heap} {x e : Addr} {o' : HO}
theorem HOk.write (ok : HOk P w H h) (mu : Mut (H x)) (he : e = x ∨ H e = some (.own x)) (k : ∀ b u, b ≠ e -> h.get? b = some u -> h'.get? b = some u) (heo : ∃ u, h'.get? e = some u)
  (new : GJ P w (upd H x o') h' x o') : HOk P w (upd H x o') h' := fun b u q => by
 have nown : ∀ c y, H c = some (.own y) -> c ≠ x := fun c y r z => by subst z; rw [r] at mu; exact mu
 have ntup : ∀ c xs, H c = some (.tup xs) -> c ≠ x := fun c xs r z => by subst z; rw [r] at mu; exact mu
 by_cases hb : b = x
 ·subst hb; rw [CQ] at q; cases q; exact new
 ·rw [BF hb] at q
  by_cases hbe : b = e
  ·have q' : H b = some (.own x) := by
    rcases he with z | z
    ·exact absurd (hbe.trans z) hb
    ·rw [hbe]; exact z
   rw [q] at q'; cases q'
   obtain ⟨v, hv⟩ := heo
   exact ⟨v, by rw [hbe]; exact hv⟩
  ·refine (ok b u q).stay (fun c v hc r => k c v ?_ r) (fun c r => by rw [BF (nown c b r)]; exact r) fun c xs r => by rw [BF (ntup c xs r)]; exact r
   rcases hc with rfl | hc
   ·exact hbe
   ·rintro rfl
    rcases he with z | z
    ·exact nown c b hc z
    ·rw [hc] at z; cases z; exact hb rfl
end
structure Un (fs ex : List Addr) (H H' : Hp) (h h' : Heap) : Prop where
 keep : ∀ b o, h.get? b = some o -> H b = none -> b ∉ fs -> b ∉ ex -> h'.get? b = some o
 slot : ∀ b o, h.get? b = some o -> H b = none -> b ∈ fs -> b ∉ ex -> ∃ sl, h'.get? b = some { o with slots := sl }
 free : ∀ b o, h.get? b = some o -> H b = none -> b ∉ ex -> H' b = none
 there : ∀ b o, h.get? b = some o -> b ∉ ex -> ∃ o', h'.get? b = some o'
 tups : ∀ b xs, H b = some (.tup xs) -> H' b = some (.tup xs)
 frzs : ∀ b o u, H b = some (.frz o u) -> H' b = some (.frz o u)
 tbls : ∀ b ps, H b = some (.tbl ps) -> ∃ more, H' b = some (.tbl (ps ++ more))
section
variable {fs fs' ex ex' : List Addr} {H H1 H2 : Hp} {h h1 h2 h' : Heap} {a x e : Addr} {o : HO}
theorem Un.any (u : Un fs ex H H1 h h1) {b : Addr} {ob : Obj} (q : h.get? b = some ob) (n : H b = none) (hx : b ∉ ex) : ∃ sl, h1.get? b = some { ob with slots := sl } := by
 by_cases hb : b ∈ fs
 ·exact u.slot b ob q n hb hx
 ·exact ⟨ob.slots, u.keep b ob q n hb hx⟩
theorem Un.kept (k : ∀ b u, h.get? b = some u -> h'.get? b = some u) : Un fs ex H H h h' :=
 ⟨fun b ob q _ _ _ => k b ob q, fun b ob q _ _ _ => ⟨ob.slots, k b ob q⟩, fun _ _ _ n _ => n, fun b ob q _ => ⟨ob, k b ob q⟩, fun _ _ q => q, fun _ _ _ q => q, fun _ ps q => ⟨#[], by rw [q]; simp⟩⟩
theorem Un.refl : Un fs ex H H h h := Un.kept fun _ _ q => q
theorem Un.laid (k : ∀ b u, h.get? b = some u -> h'.get? b = some u) (hp : h.objs.size ≤ a) (hn : H a = none) : Un fs ex H (upd H a o) h h' where
 keep := fun b u q _ _ _ => k b u q
 slot := fun b u q _ _ _ => ⟨u.slots, k b u q⟩
 free := fun b u q n _ => by rw [BF (Nat.ne_of_lt (Nat.lt_of_lt_of_le (Heap.lt_size q) hp))]; exact n
 there := fun b u q _ => ⟨u, k b u q⟩
 tups := fun b xs q => by rw [BF (Bi q hn)]; exact q
 frzs := fun b u xs q => by rw [BF (Bi q hn)]; exact q
 tbls := fun b ps q => ⟨#[], by rw [BF (Bi q hn), q]; simp⟩
theorem Un.write (mu : Mut (H x)) (he : e = x ∨ H e = some (.own x)) (k : ∀ b u, b ≠ e -> h.get? b = some u -> h'.get? b = some u) (heo : ∃ u, h'.get? e = some u) : Un fs ex H (upd H x o) h h' := by
 have hx : ∀ b, H b = none -> b ≠ x := fun b n z => by subst z; rw [n] at mu; exact mu
 have hb : ∀ b, H b = none -> b ≠ e := fun b n z => by
  subst z
  rcases he with r | r
  ·exact hx b n r
  ·rw [n] at r; cases r
 have hm : ∀ b u, H b = some u -> ¬ Mut (some u) -> b ≠ x := fun b u q nm z => by subst z; rw [q] at mu; exact nm mu
 refine ⟨fun b u q n _ _ => k b u (hb b n) q, fun b u q n _ _ => ⟨u.slots, k b u (hb b n) q⟩, fun b u q n _ => by rw [BF (hx b n)]; exact n, fun b u q _ => ?_,
  fun b xs q => by rw [BF (hm b _ q fun z => z)]; exact q, fun b u xs q => by rw [BF (hm b _ q fun z => z)]; exact q, fun b ps q => ⟨#[], by rw [BF (hm b _ q fun z => z), q]; simp⟩⟩
 by_cases hbe : b = e
 ·subst hbe; exact heo
 ·exact ⟨u, k b u hbe q⟩
end
def trk (h : Heap) (H : Hp) : List Addr := (List.range h.objs.size).filter fun a => (H a).isSome
def WS (h : Heap) (H : Hp) : Heap := PySem.W.hideAll h (trk h H)
theorem T4 (h : Heap) (H : Hp) : (WS h H).objs.size = h.objs.size := PySem.W.hideAll_size _ _
theorem Wo {h : Heap} {H : Hp} {b : Addr} {o : Obj} (e : h.get? b = some o) (n : H b = none) : (WS h H).get? b = some o :=
 PySem.W.hideAll_get _ e fun hm => by
  have q : (H b).isSome = true := (List.mem_filter.mp hm).2
  rw [n] at q; simp at q
theorem YW {h : Heap} {H : Hp} {b : Addr} {o : Obj} (e : (WS h H).get? b = some o) : h.get? b = some o /\ H b = none := by
  have e' : h.get? b = some o := PySem.W.of_hideAll (trk h H) e
  refine ⟨e', ?_⟩
  cases q : H b with
  | none => rfl
  | some x =>
    have hm : b ∈ trk h H := List.mem_filter.mpr ⟨List.mem_range.mpr (Heap.lt_size e'), by simp [q]⟩
    have z : (WS h H).get? b = none := PySem.W.hideAll_none (trk h H) hm
    rw [z] at e; cases e
def X3 (g h : Heap) (L : Addr) : List (Addr × Obj) := (List.range h.objs.size).filterMap fun a => if a = L ∨ (g.get? a).isSome = true then none else (h.get? a).map fun o => (a, o)
def rest (g h : Heap) (L d : Addr) : List (Addr × Obj) := (X3 g h L).filter fun p => decide (p.1 ≠ d)
end L2
namespace L2
open PySem PySem.Spec PyProof.Rows
structure Mod (K : PySem.W.Frag) (mg : Str -> Option Value) (base : Heap) : Prop where
 kin : K.In base
 glob : base.Ns mainGlobals mg
 blt : ∃ mb, base.Ns builtinsNs mb /\ ∀ x : Str, x ≠ "__name__" -> mb x = bootBuiltins x
 nolimit : base.NoLimit
structure Cx where
 prog : Program
 w : World
 K : PySem.W.Frag
 mg : Str -> Option Value
 base : Heap
 A : Around
 N : List Str
 s₀ : Shared
 H₀ : Hp
 env : Env
 outer : List Env
 stack : List Env
 ex : List Addr
 fn : Str -> Bool
 calm : Bool
 pn : List (Addr × Obj)
 xe : Value -> Shared -> Prop
def frs (l : List Env) : List Addr := l.filterMap (·.frame)
abbrev Cx.fs (X : Cx) : List Addr := frs X.outer
def Vis (sc : Scope) (x : Str) : Prop := sc.names.lookup x = some .local ∨ sc.names.lookup x = some .cell ∨ sc.names.lookup x = some .free
def Loc (sc : Scope) (x : Str) : Prop := sc.names.lookup x = some .local ∨ sc.names.lookup x = some .cell
def Look (env : Env) (h : Heap) (m : Str -> Option Value) (x : Str) (u : Value) : Prop :=
 (env.kindOf x = some .local /\ m x = some u) ∨ ((env.kindOf x = some .cell ∨ env.kindOf x = some .free) /\ ∃ c, env.cells.lookup x = some c /\ h.IsCell c (some u))
structure Cx.Ok (X : Cx) : Prop where
 mod : Mod X.K X.mg X.base
 kind : X.env.scope.kind = .function
 glob : X.env.globals = mainGlobals
 blt : X.env.builtins = builtinsNs
 above : X.s₀.heap.objs.size ≤ X.env.locals
 inj : ∀ x y c, X.env.cells.lookup x = some c -> X.env.cells.lookup y = some c -> x = y
 has : ∀ x, (X.env.kindOf x = some .cell ∨ X.env.kindOf x = some .free) -> ∃ c, X.env.cells.lookup x = some c
 cab : ∀ x c, X.fn x = true -> X.env.cells.lookup x = some c -> X.s₀.heap.objs.size ≤ c
 hd : X.calm = true -> X.A.handled = none
 frames : X.A.frames = some X.stack
 stk : X.stack = X.outer ∨ (X.stack = X.env :: X.outer /\ X.env.frame = some X.env.locals)
 exf : ∀ b ∈ X.ex, b ≠ X.env.locals /\ ∀ x c, X.env.cells.lookup x = some c -> c ≠ b
 bs : ∀ b o, X.base.get? b = some o -> X.s₀.heap.get? b = some o /\ X.H₀ b = none
 bsz : X.base.objs.size ≤ X.s₀.heap.objs.size
 noex : ∀ b o, X.base.get? b = some o -> b ∉ X.ex
 exfs : ∀ b ∈ X.ex, b ∉ X.fs
 funs : X.s₀.heap.FunFrames X.base X.outer
 frf : ∀ b ∈ X.fs, X.H₀ b = none
structure Inv (X : Cx) (pins : List (Addr × Obj)) (σ : List (Option V)) (H : Hp) (s : Shared) : Prop where
 ok : X.Ok
 os : s.os = X.s₀.os
 bare : AllBare s.gens
 base : Un X.fs X.ex X.H₀ H X.s₀.heap s.heap
 loc : ∃ m, s.heap.Ns X.env.locals m /\ ∀ (i : Nat) (x : Str) (v : V), X.N[i]? = some x -> σ[i]? = some (some v) -> Vis X.env.scope x -> ∃ u, RelV v u /\ Look X.env s.heap m x u
 cell : ∀ x c, X.env.cells.lookup x = some c -> ∃ v, s.heap.IsCell c v
 free : H X.env.locals = none
 freeC : ∀ x c, X.env.cells.lookup x = some c -> H c = none
 pin : ∀ p ∈ X.pn ++ pins, s.heap.get? p.1 = some p.2 /\ H p.1 = none /\ p.1 ≠ X.env.locals /\ p.1 ∉ X.fs /\ ∀ v, p.2.data ≠ .cell v
 hok : HOk X.prog X.w H s.heap
 len : σ.length = X.N.length
section
variable {X : Cx} {pins : List (Addr × Obj)} {σ : List (Option V)} {H H' : Hp} {s : Shared} {h' : Heap}
theorem Cx.Ok.nofr (ok : X.Ok) {b : Addr} {o : Obj} (e : X.base.get? b = some o) : b ∉ X.fs := fun hb => by
 have := (ok.funs.mem hb).1
 rw [e] at this; cases this
theorem Inv.bs (I : Inv X pins σ H s) : ∀ b o, X.base.get? b = some o -> s.heap.get? b = some o /\ H b = none := fun b o e =>
 ⟨I.base.keep b o (I.ok.bs b o e).1 (I.ok.bs b o e).2 (I.ok.nofr e) (I.ok.noex b o e), I.base.free b o (I.ok.bs b o e).1 (I.ok.bs b o e).2 (I.ok.noex b o e)⟩
theorem Inv.bk (I : Inv X pins σ H s) : ∀ b o, X.base.get? b = some o -> s.heap.get? b = some o := fun b o e => (I.bs b o e).1
theorem Inv.mod (I : Inv X pins σ H s) : Mod X.K X.mg X.base := I.ok.mod
theorem Inv.kIn (I : Inv X pins σ H s) : X.K.In s.heap := I.ok.mod.kin.keeps I.bk
theorem Inv.lt (I : Inv X pins σ H s) : X.env.locals < s.heap.objs.size := let ⟨_, hn, _⟩ := I.loc; hn.lt
theorem Inv.sz (I : Inv X pins σ H s) : X.s₀.heap.objs.size ≤ s.heap.objs.size := Nat.le_trans I.ok.above (Nat.le_of_lt I.lt)
theorem Inv.nofs (I : Inv X pins σ H s) {a : Addr} (h : s.heap.objs.size ≤ a) : a ∉ X.fs := fun hb => by
 obtain ⟨_, o, ho, _⟩ := I.ok.funs.mem hb
 exact absurd (Nat.lt_of_lt_of_le (Heap.lt_size ho) (Nat.le_trans I.sz h)) (Nat.lt_irrefl _)
theorem Inv.cne (I : Inv X pins σ H s) : ∀ x c, X.env.cells.lookup x = some c -> c ≠ X.env.locals := fun x c e z => by
 obtain ⟨v, o, ho, hd⟩ := I.cell x c e
 obtain ⟨m, ⟨o', es, ep, ho', hd', _⟩, _⟩ := I.loc
 rw [z, ho'] at ho; cases ho; rw [hd'] at hd; cases hd
theorem Inv.funs (I : Inv X pins σ H s) : s.heap.FunFrames X.base X.outer := by
  have all : ∀ (l : List Env), (∀ b ∈ frs l, b ∈ X.fs) -> X.s₀.heap.FunFrames X.base l -> s.heap.FunFrames X.base l := by
    intro l
    induction l with
    | nil => intro _ _; trivial
    | cons env r ih =>
      intro hs hl
      obtain ⟨hk, ⟨L, o, hf, hn, ho, hd⟩, hr⟩ := hl
      have hL : L ∈ X.fs := hs L (by unfold frs; rw [List.filterMap_cons, hf]; exact List.mem_cons_self)
      obtain ⟨sl, e⟩ := I.base.slot L o ho (I.ok.frf L hL) hL fun z => I.ok.exfs L z hL
      exact ⟨hk, ⟨L, _, hf, hn, e, hd⟩, ih (fun b hb => hs b (by unfold frs; rw [List.filterMap_cons, hf]; exact List.mem_cons_of_mem _ hb)) hr⟩
  exact all X.outer (fun _ hb => hb) I.ok.funs
theorem Inv.stack (I : Inv X pins σ H s) : s.heap.FunFrames X.base X.stack := by
 rcases I.ok.stk with e | ⟨e, hf⟩
 ·rw [e]; exact I.funs
 ·rw [e]
  obtain ⟨m, hn, _⟩ := I.loc
  refine .cons (by rw [I.ok.kind]; decide) hf hn ?_ I.funs
  exact Heap.get?_none_of_le (Nat.le_trans I.ok.bsz I.ok.above)
theorem Inv.stkSub (I : Inv X pins σ H s) : ∀ b ∈ frs X.stack, b ∈ X.env.locals :: X.fs := fun b hb => by
 rcases I.ok.stk with e | ⟨e, hf⟩
 ·rw [e] at hb; exact List.mem_cons_of_mem _ hb
 ·rw [e] at hb
  unfold frs at hb
  rw [List.filterMap_cons, hf] at hb
  exact hb
theorem Inv.stkFree (I : Inv X pins σ H s) : ∀ b ∈ frs X.stack, H b = none := fun b hb => by
 rcases List.mem_cons.mp (I.stkSub b hb) with e | hb
 ·rw [e]; exact I.free
 ·obtain ⟨_, o, ho, _⟩ := I.ok.funs.mem hb
  exact I.base.free b o ho (I.ok.frf b hb) fun z => I.ok.exfs b z hb
theorem Inv.step {g' : Array GenState} {t' : Nat} {d' : Drawn} {ch : List Addr} (I : Inv X pins σ H s)
  (hch : ∀ b ∈ ch, (b ∈ X.ex ∨ X.s₀.heap.objs.size ≤ b) /\ b ≠ X.env.locals /\ (∀ x c, X.env.cells.lookup x = some c -> c ≠ b) /\ ∀ p ∈ X.pn ++ pins, p.1 ≠ b)
  (keep : ∀ b o, b ≠ X.env.locals -> b ∉ X.fs -> b ∉ ch -> s.heap.get? b = some o -> H b = none -> h'.get? b = some o)
  (slot : ∀ b o, b ≠ X.env.locals -> b ∈ X.fs -> b ∉ ch -> s.heap.get? b = some o -> H b = none -> ∃ sl, h'.get? b = some { o with slots := sl }) (free : ∀ b o, b ∉ ch -> s.heap.get? b = some o -> H b = none -> H' b = none)
  (there : ∀ b o, b ∉ ch -> s.heap.get? b = some o -> ∃ o', h'.get? b = some o')
  (tups : ∀ b xs, H b = some (.tup xs) -> H' b = some (.tup xs)) (frzs : ∀ b o u, H b = some (.frz o u) -> H' b = some (.frz o u)) (tbls : ∀ b ps, H b = some (.tbl ps) -> ∃ more, H' b = some (.tbl (ps ++ more)))
  (ns : ∀ m, s.heap.Ns X.env.locals m -> h'.Ns X.env.locals m) (hok : HOk X.prog X.w H' h') (hg : AllBare g') :
  Inv X pins σ H' { s with heap := h', gens := g', drawn := d', toks := t' } := by
 have neL : ∀ b o, X.s₀.heap.get? b = some o -> b ≠ X.env.locals := fun b o e => Nat.ne_of_lt (Nat.lt_of_lt_of_le (Heap.lt_size e) I.ok.above)
 have neC : ∀ b o, X.s₀.heap.get? b = some o -> b ∉ X.ex -> b ∉ ch := fun b o e hx hb => by
  rcases (hch b hb).1 with z | z
  ·exact hx z
  ·exact absurd (Nat.lt_of_lt_of_le (Heap.lt_size e) z) (Nat.lt_irrefl _)
 have cellK : ∀ x c, X.env.cells.lookup x = some c -> ∀ v, s.heap.IsCell c v -> h'.IsCell c v := fun x c e v ⟨o, ho, hd⟩ => by
  have nch : c ∉ ch := fun z => (hch c z).2.2.1 x c e rfl
  by_cases hc : c ∈ X.fs
  ·obtain ⟨sl, q⟩ := slot c o (I.cne x c e) hc nch ho (I.freeC x c e)
   exact ⟨_, q, hd⟩
  ·exact ⟨o, keep c o (I.cne x c e) hc nch ho (I.freeC x c e), hd⟩
 refine ⟨I.ok, I.os, hg, ⟨fun b o e n hb hx => ?_, fun b o e n hb hx => ?_, fun b o e n hx => ?_, fun b o e hx => ?_, fun b xs e => tups b xs (I.base.tups b xs e), fun b o xs e => frzs b o xs (I.base.frzs b o xs e), fun b ps e => ?_⟩, ?_, fun x c e => ?_, ?_, fun x c e => ?_, fun p hp => ?_, hok, I.len⟩
 ·exact keep b o (neL b o e) hb (neC b o e hx) (I.base.keep b o e n hb hx) (I.base.free b o e n hx)
 ·obtain ⟨sl, e1⟩ := I.base.slot b o e n hb hx
  obtain ⟨sl', e2⟩ := slot b _ (neL b o e) hb (neC b o e hx) e1 (I.base.free b o e n hx)
  exact ⟨sl', e2⟩
 ·obtain ⟨o', e1⟩ := I.base.there b o e hx
  exact free b o' (neC b o e hx) e1 (I.base.free b o e n hx)
 ·obtain ⟨o', e1⟩ := I.base.there b o e hx
  exact there b o' (neC b o e hx) e1
 ·obtain ⟨m1, e1⟩ := I.base.tbls b ps e
  obtain ⟨m2, e2⟩ := tbls b _ e1
  exact ⟨m1 ++ m2, by rw [e2, Array.append_assoc]⟩
 ·obtain ⟨m, hn, hl⟩ := I.loc
  refine ⟨m, ns m hn, fun i x v e1 e2 e3 => ?_⟩
  obtain ⟨u, r, l⟩ := hl i x v e1 e2 e3
  refine ⟨u, r, ?_⟩
  rcases l with l | ⟨k, c, e, z⟩
  ·exact .inl l
  ·exact .inr ⟨k, c, e, cellK x c e _ z⟩
 ·obtain ⟨v, z⟩ := I.cell x c e
  exact ⟨v, cellK x c e v z⟩
 ·obtain ⟨m, ⟨o, _, _, ho, _⟩, _⟩ := I.loc
  exact free _ o (fun z => (hch _ z).2.1 rfl) ho I.free
 ·obtain ⟨v, o, ho, hd⟩ := I.cell x c e
  exact free c o (fun z => (hch c z).2.2.1 x c e rfl) ho (I.freeC x c e)
 ·obtain ⟨e, n, ne, nf, d⟩ := I.pin p hp
  have nch : p.1 ∉ ch := fun z => (hch p.1 z).2.2.2 p hp rfl
  exact ⟨keep p.1 p.2 ne nf nch e n, free p.1 p.2 nch e n, ne, nf, d⟩
theorem Inv.un {t' : Nat} (I : Inv X pins σ H s) (u : Un X.fs [] H H' s.heap h') (hok : HOk X.prog X.w H' h') : Inv X pins σ H' { s with heap := h', toks := t' } := by
 obtain ⟨m, ⟨o, es, ep, ho, r⟩, _⟩ := id I.loc
 obtain ⟨sl, hL⟩ := u.any ho I.free (by simp)
 exact I.step (g' := s.gens) (d' := s.drawn) (ch := []) (fun _ z => nomatch z) (fun b o _ hb _ e n => u.keep b o e n hb (by simp)) (fun b o _ hb _ e n => u.slot b o e n hb (by simp)) (fun b o _ e n => u.free b o e n (by simp)) (fun b o _ e => u.there b o e (by simp)) u.tups u.frzs u.tbls (fun m' hm => by
  obtain ⟨o', es', ep', ho', r'⟩ := hm
  rw [ho] at ho'; cases ho'
  exact ⟨_, es', ep', hL, r'⟩) hok I.bare
theorem Inv.call {g' : Array GenState} {t' : Nat} {d' : Drawn} {ch : List Addr} (I : Inv X pins σ H s) (u : Un (frs X.stack) ch H H' s.heap h') (hok : HOk X.prog X.w H' h') (hg : AllBare g')
  (hch : ∀ b ∈ ch, (b ∈ X.ex ∨ X.s₀.heap.objs.size ≤ b) /\ b ≠ X.env.locals /\ (∀ x c, X.env.cells.lookup x = some c -> c ≠ b) /\ ∀ p ∈ X.pn ++ pins, p.1 ≠ b) :
  Inv X pins σ H' { s with heap := h', gens := g', drawn := d', toks := t' } := by
 obtain ⟨m, ⟨o, es, ep, ho, r⟩, _⟩ := id I.loc
 obtain ⟨sl, hL⟩ := u.any ho I.free fun z => (hch _ z).2.1 rfl
 exact I.step (ch := ch) hch (fun b o hL hb hc e n => u.keep b o e n (fun z => (List.mem_cons.mp (I.stkSub b z)).elim hL hb) hc) (fun b o _ _ hc e n => u.any e n hc) (fun b o hc e n => u.free b o e n hc) (fun b o hc e => u.there b o e hc) u.tups u.frzs u.tbls (fun m' hm => by
  obtain ⟨o', es', ep', ho', r'⟩ := hm
  rw [ho] at ho'; cases ho'
  exact ⟨_, es', ep', hL, r'⟩) hok hg
theorem Inv.turned {t' : Nat} {it : Addr} (I : Inv X pins σ H s) (k : ∀ b o, b ≠ it -> s.heap.get? b = some o -> h'.get? b = some o) (hn : H it = none) (hL : it ≠ X.env.locals)
  (h1 : it ∈ X.ex ∨ X.s₀.heap.objs.size ≤ it) (h2 : ∀ x c, X.env.cells.lookup x = some c -> c ≠ it) (h3 : ∀ p ∈ X.pn ++ pins, p.1 ≠ it) : Inv X pins σ H { s with heap := h', toks := t' } := by
 have nit : ∀ b u, H b = some u -> b ≠ it := fun b u e z => by rw [z, hn] at e; cases e
 refine I.step (g' := s.gens) (d' := s.drawn) (ch := [it]) (fun b hb => ?_) (fun b o _ _ hc e _ => k b o (fun z => hc (by simp [z])) e) (fun b o _ _ hc e _ => ⟨o.slots, k b o (fun z => hc (by simp [z])) e⟩) (fun _ _ _ _ n => n)
  (fun b o hc e => ⟨o, k b o (fun z => hc (by simp [z])) e⟩) (fun _ _ e => e) (fun _ _ _ e => e) (fun b ps e => ⟨#[], by rw [e]; simp⟩) (fun m hm => ?_) (fun b u e => ?_) I.bare
 ·have e : b = it := by simpa using hb
  subst e
  exact ⟨h1, hL, h2, h3⟩
 ·obtain ⟨o, es, ep, ho, r⟩ := hm
  exact ⟨o, es, ep, k _ o (Ne.symm hL) ho, r⟩
 ·refine (I.hok b u e).stay (fun c v hc q => k c v ?_ q) (fun _ q => q) fun _ _ q => q
  rcases hc with z | z
  ·rw [z]; exact nit b u e
  ·exact nit c _ z
theorem Inv.tok (I : Inv X pins σ H s) (t : Nat) : Inv X pins σ H { s with toks := t } := I.un (h' := s.heap) (t' := t) Un.refl I.hok
theorem Inv.kept {t' : Nat} (I : Inv X pins σ H s) (k : ∀ b u, s.heap.get? b = some u -> h'.get? b = some u) : Inv X pins σ H { s with heap := h', toks := t' } := I.un (Un.kept k) (I.hok.kept k)
theorem Inv.laid {a : Addr} {o : HO} {t' : Nat} (I : Inv X pins σ H s) (k : ∀ b u, s.heap.get? b = some u -> h'.get? b = some u) (hp : s.heap.objs.size ≤ a) (new : GJ X.prog X.w (upd H a o) h' a o) :
  Inv X pins σ (upd H a o) { s with heap := h', toks := t' } := I.un (Un.laid k hp (I.hok.fresh hp)) (I.hok.laid k hp new)
theorem Inv.write {x e : Addr} {o : HO} {t' : Nat} (I : Inv X pins σ H s) (mu : Mut (H x)) (he : e = x ∨ H e = some (.own x)) (k : ∀ b u, b ≠ e -> s.heap.get? b = some u -> h'.get? b = some u) (heo : ∃ u, h'.get? e = some u)
  (new : GJ X.prog X.w (upd H x o) h' x o) : Inv X pins σ (upd H x o) { s with heap := h', toks := t' } := I.un (Un.write mu he k heo) (I.hok.write mu he k heo new)
theorem Inv.pins_of {pins' : List (Addr × Obj)} (I : Inv X pins σ H s) (h : ∀ p ∈ pins', s.heap.get? p.1 = some p.2 /\ H p.1 = none /\ p.1 ≠ X.env.locals /\ p.1 ∉ X.fs /\ ∀ v, p.2.data ≠ .cell v) : Inv X pins' σ H s :=
 ⟨I.ok, I.os, I.bare, I.base, I.loc, I.cell, I.free, I.freeC, fun p hp => (List.mem_append.mp hp).elim (fun z => I.pin p (List.mem_append_left _ z)) (h p), I.hok, I.len⟩
theorem RE {N : List Str} (hN : N.Nodup) {i j : Nat} {x : Str} (a : N[i]? = some x) (b : N[j]? = some x) : i = j := by
 obtain ⟨h1, e1⟩ := List.getElem?_eq_some_iff.mp a
 obtain ⟨h2, e2⟩ := List.getElem?_eq_some_iff.mp b
 exact (List.getElem_inj hN).mp (e1.trans e2.symm)
theorem PF {M : Model} {A : Around} {E : Value -> Shared -> Prop} {i : Nat} {x : Str} {v : V} {u : Value} {Q : Unit -> Shared -> Prop} (I : Inv X pins σ H s) (hN : X.N.Nodup) (hi : X.N[i]? = some x) (hx : Loc X.env.scope x) (r : RelV v u)
  (h : ∀ s', Inv X pins (σ.set i (some v)) H s' -> (∃ a, Heap.SameBut a s.heap s'.heap /\ (a = X.env.locals ∨ X.env.cells.lookup x = some a)) -> Q () s') (hf : X.fn x = true ∨ X.env.scope.names.lookup x = some .local := by first | exact .inl rfl | exact .inr rfl | assumption) : wpAny M A (storeName X.env x u) Q E s := by
 obtain ⟨m, hn, hl⟩ := id I.loc
 have hcls : (X.env.scope.kind == .class || (X.env.scope.kind == .module && X.env.locals != X.env.globals)) = false := by rw [I.ok.kind]; rfl
 have hiσ : i < σ.length := by rw [I.len]; exact (List.getElem?_eq_some_iff.mp hi).1
 have cne := I.cne
 have tracked : ∀ {a : Addr} {h' : Heap}, (∃ o, s.heap.get? a = some o /\ H a = none) -> Heap.SameBut a s.heap h' -> HOk X.prog X.w H h' := fun {a h'} ha hs b ob e => by
  obtain ⟨_, _, hfree⟩ := ha
  refine (I.hok b ob e).stay (fun c w' hc q => (hs.2 c ?_).trans q) (fun _ q => q) fun _ _ q => q
  rintro rfl
  rcases hc with rfl | hc
  ·rw [hfree] at e; cases e
  ·rw [hfree] at hc; cases hc
 rcases hx with hk | hk
 ·refine wpAny_storeName_local hk hn (fun h' hn' hs => ?_) hcls
  obtain ⟨oL, _, _, hoL, _⟩ := id hn
  refine h _ ⟨I.ok, I.os, I.bare, ⟨fun b o e n hb hx => ?_, fun b o e n hb hx => ?_, I.base.free, fun b o e hx => ?_, I.base.tups, I.base.frzs, I.base.tbls⟩, ⟨_, hn', fun j y v' e1 e2 e3 => ?_⟩, fun y c e => ?_, I.free, I.freeC, fun p hp => ?_, tracked ⟨oL, hoL, I.free⟩ hs, by simpa using I.len⟩ ⟨_, hs, .inl rfl⟩
  ·exact (hs.2 b (Nat.ne_of_lt (Nat.lt_of_lt_of_le (Heap.lt_size e) I.ok.above))).trans (I.base.keep b o e n hb hx)
  ·obtain ⟨sl, e1⟩ := I.base.slot b o e n hb hx
   exact ⟨sl, (hs.2 b (Nat.ne_of_lt (Nat.lt_of_lt_of_le (Heap.lt_size e) I.ok.above))).trans e1⟩
  ·obtain ⟨o', e1⟩ := I.base.there b o e hx
   exact ⟨o', (hs.2 b (Nat.ne_of_lt (Nat.lt_of_lt_of_le (Heap.lt_size e) I.ok.above))).trans e1⟩
  ·by_cases hj : j = i
   ·subst hj
    rw [hi] at e1; cases e1
    rw [List.getElem?_set_self hiσ] at e2
    cases e2
    exact ⟨u, r, .inl ⟨hk, by simp⟩⟩
   ·rw [List.getElem?_set_ne (Ne.symm hj)] at e2
    obtain ⟨u', r', q⟩ := hl j y v' e1 e2 e3
    refine ⟨u', r', ?_⟩
    rcases q with ⟨k, e⟩ | ⟨k, c, e, z⟩
    ·refine .inl ⟨k, ?_⟩
     have : y ≠ x := fun e => hj (RE hN e1 (e ▸ hi))
     simp [this, e]
    ·exact .inr ⟨k, c, e, z.sameBut hs (cne y c e)⟩
  ·obtain ⟨w', z⟩ := I.cell y c e
   exact ⟨w', z.sameBut hs (cne y c e)⟩
  ·obtain ⟨e, n, ne, nf, d⟩ := I.pin p hp
   exact ⟨(hs.2 p.1 ne).trans e, n, ne, nf, d⟩
 ·have hfn : X.fn x = true := by
   rcases hf with z | z
   ·exact z
   ·rw [z] at hk; cases hk
  obtain ⟨c, hc⟩ := I.ok.has x (.inl hk)
  obtain ⟨w', z⟩ := I.cell x c hc
  refine wpAny_storeName_cell I.ok.kind hk hc z (fun h' hc' hs => ?_)
  obtain ⟨oc, hoc, hocd⟩ := id z
  refine h { s with heap := h' } ⟨I.ok, I.os, I.bare, ⟨fun b o e n hb hx => ?_, fun b o e n hb hx => ?_, I.base.free, fun b o e hx => ?_, I.base.tups, I.base.frzs, I.base.tbls⟩, ⟨m, hn.sameBut hs (Ne.symm (cne x c hc)), fun j y v' e1 e2 e3 => ?_⟩, fun y c' e => ?_, I.free, I.freeC, fun p hp => ?_, tracked ⟨oc, hoc, I.freeC x c hc⟩ hs, by simpa using I.len⟩ ⟨c, hs, .inr hc⟩
  ·exact (hs.2 b (Nat.ne_of_lt (Nat.lt_of_lt_of_le (Heap.lt_size e) (I.ok.cab x c hfn hc)))).trans (I.base.keep b o e n hb hx)
  ·obtain ⟨sl, e1⟩ := I.base.slot b o e n hb hx
   exact ⟨sl, (hs.2 b (Nat.ne_of_lt (Nat.lt_of_lt_of_le (Heap.lt_size e) (I.ok.cab x c hfn hc)))).trans e1⟩
  ·obtain ⟨o', e1⟩ := I.base.there b o e hx
   exact ⟨o', (hs.2 b (Nat.ne_of_lt (Nat.lt_of_lt_of_le (Heap.lt_size e) (I.ok.cab x c hfn hc)))).trans e1⟩
  ·by_cases hj : j = i
   ·subst hj
    rw [hi] at e1; cases e1
    rw [List.getElem?_set_self hiσ] at e2
    cases e2
    exact ⟨u, r, .inr ⟨.inl hk, c, hc, hc'⟩⟩
   ·rw [List.getElem?_set_ne (Ne.symm hj)] at e2
    obtain ⟨u', r', q⟩ := hl j y v' e1 e2 e3
    refine ⟨u', r', ?_⟩
    rcases q with q | ⟨k, c', e, z'⟩
    ·exact .inl q
    ·refine .inr ⟨k, c', e, z'.sameBut hs ?_⟩
     rintro rfl
     exact hj (RE hN e1 (I.ok.inj _ _ _ e hc ▸ hi))
  ·by_cases hcc : c' = c
   ·subst hcc; exact ⟨_, hc'⟩
   ·obtain ⟨w2, z2⟩ := I.cell y c' e
    exact ⟨w2, z2.sameBut hs hcc⟩
  ·obtain ⟨e, n, ne, nf, d⟩ := I.pin p hp
   refine ⟨(hs.2 p.1 ?_).trans e, n, ne, nf, d⟩
   intro q
   rw [q, hoc] at e
   have q' : oc = p.2 := Option.some.inj e
   exact d w' (by rw [← q']; exact hocd)
theorem LM {M : Model} {A : Around} {E : Value -> Shared -> Prop} {i : Nat} {x : Str} {v : V} {u : Value} {Q : Unit -> Shared -> Prop} (I : Inv X pins σ H s) (hN : X.N.Nodup) (hi : X.N[i]? = some x) (hx : Loc X.env.scope x) (r : RelV v u)
  (h : ∀ s', Inv X pins (σ.set i (some v)) H s' -> Q () s') (hf : X.fn x = true ∨ X.env.scope.names.lookup x = some .local := by first | exact .inl rfl | exact .inr rfl | assumption) : wpAny M A (storeName X.env x u) Q E s :=
 PF I hN hi hx r (fun s' I' _ => h s' I') hf
theorem Inv.call' {s' : Shared} {ch : List Addr} (I : Inv X pins σ H s) (ho : s'.os = s.os) (u : Un (frs X.stack) ch H H' s.heap s'.heap) (hok : HOk X.prog X.w H' s'.heap) (hg : AllBare s'.gens)
  (hch : ∀ b ∈ ch, (b ∈ X.ex ∨ X.s₀.heap.objs.size ≤ b) /\ b ≠ X.env.locals /\ (∀ x c, X.env.cells.lookup x = some c -> c ≠ b) /\ ∀ p ∈ X.pn ++ pins, p.1 ≠ b) : Inv X pins σ H' s' := by
 obtain ⟨h', g', d', t', o'⟩ := s'
 have e : o' = s.os := ho
 subst e
 exact I.call (g' := g') (t' := t') (d' := d') u hok hg hch
end
abbrev XK := Value -> Option Addr -> Hp -> Prop
abbrev St := List (Option V)
abbrev VK := V -> Hp -> Prop
abbrev TE := St -> Hp -> VK -> Prop
abbrev TT := St -> Hp -> (Bool -> Hp -> Prop) -> Prop
abbrev TA := St -> Hp -> (List V -> Hp -> Prop) -> Prop
structure Ends where
 nx : St -> Hp -> Prop
 rt : VK
 bk : St -> Hp -> Prop := fun _ _ => False
 ct : St -> Hp -> Prop := fun _ _ => False
abbrev TS := Ends -> St -> Hp -> Prop
def EP (X : Cx) (pins : List (Addr × Obj)) (σ : St) (Q : VK) (u : Value) (s' : Shared) : Prop := ∃ v H', Inv X pins σ H' s' /\ RelV v u /\ Q v H'
def TP (X : Cx) (pins : List (Addr × Obj)) (σ : St) (Q : Bool -> Hp -> Prop) (b : Bool) (s' : Shared) : Prop := ∃ H', Inv X pins σ H' s' /\ Q b H'
def AP (X : Cx) (pins : List (Addr × Obj)) (σ : St) (Q : List V -> Hp -> Prop) (us : List Value) (s' : Shared) : Prop := ∃ vs H', Inv X pins σ H' s' /\ Vals vs us /\ Q vs H'
def SP (X : Cx) (pins : List (Addr × Obj)) (D : Ends) (f : Flow) (s' : Shared) : Prop :=
 match f with
 | .next => ∃ σ' H', Inv X pins σ' H' s' /\ D.nx σ' H'
 | .brk => ∃ σ' H', Inv X pins σ' H' s' /\ D.bk σ' H'
 | .cont => ∃ σ' H', Inv X pins σ' H' s' /\ D.ct σ' H'
 | .ret u => ∃ v σ' H', Inv X pins σ' H' s' /\ RelV v u /\ D.rt v H'
def PE (X : Cx) (e : Expr) (t : TE) : Prop :=
 ∀ (pins : List (Addr × Obj)) (s : Shared) (σ : St) (H : Hp) (Q : VK), Inv X pins σ H s -> t σ H Q -> wpAny (model X.prog X.w) X.A (eval e X.env) (EP X pins σ Q) X.xe s
def PT (X : Cx) (e : Expr) (t : TT) : Prop :=
 ∀ (pins : List (Addr × Obj)) (s : Shared) (σ : St) (H : Hp) (Q : Bool -> Hp -> Prop), Inv X pins σ H s -> t σ H Q -> wpAny (model X.prog X.w) X.A (isTrue e X.env (eval e X.env)) (TP X pins σ Q) X.xe s
def PW (X : Cx) (e : Expr) (t : TT) : Prop :=
 ∀ (whole : Sem Value) (pins : List (Addr × Obj)) (s : Shared) (σ : St) (H : Hp) (Q : Bool -> Hp -> Prop), Inv X pins σ H s -> t σ H Q -> wpAny (model X.prog X.w) X.A (isTrue e X.env whole) (TP X pins σ Q) X.xe s
theorem PW.pt {X : Cx} {e : Expr} {t : TT} (h : PW X e t) : PT X e t := h _
def PA (X : Cx) (es : List Expr) (t : TA) : Prop :=
 ∀ (pos : Pos) (pins : List (Addr × Obj)) (s : Shared) (σ : St) (H : Hp) (Q : List V -> Hp -> Prop), Inv X pins σ H s -> t σ H Q -> wpAny (model X.prog X.w) X.A (spliced (backTo pos (starEach es X.env))) (AP X pins σ Q) X.xe s
def PS (X : Cx) (st : Stmt) (t : TS) : Prop :=
 ∀ (pins : List (Addr × Obj)) (s : Shared) (σ : St) (H : Hp) (D : Ends), Inv X pins σ H s -> t D σ H -> wpAny (model X.prog X.w) X.A (exec st X.env) (SP X pins D) X.xe s
def PSs (X : Cx) (st : List Stmt) (t : TS) : Prop :=
 ∀ (pins : List (Addr × Obj)) (s : Shared) (σ : St) (H : Hp) (D : Ends), Inv X pins σ H s -> t D σ H -> wpAny (model X.prog X.w) X.A (execs st X.env) (SP X pins D) X.xe s
theorem thn {α : Type} {t : Sem α} {Q Q' : α -> Shared -> Prop} {M : Model} {A : Around} {E : Value -> Shared -> Prop} {s : Shared} (h : wpAny M A t Q E s) (hQ : ∀ a s, Q a s -> Q' a s) : wpAny M A t Q' E s := wpAny_mono h hQ fun _ _ x => x
end L2
namespace L2
open PySem PySem.Spec PyProof.Rows
section
variable {X : Cx}
def gr (i : Nat) : TE := fun σ H Q => ∃ v, σ[i]? = some (some v) /\ Q v H
def tC (v : V) : TE := fun _ H Q => Q v H
theorem aS {i : Nat} {x : Str} {pos : Pos} (hN : X.N[i]? = some x) (hv : Vis X.env.scope x) (hd : (x == ("__debug__" : Str)) = false := by decide) (hcd : (x == ("__classdict__" : Str)) = false := by decide) : PE X (.Name x pos) (gr i) := by
 intro pins s σ H Q I h
 obtain ⟨v, e, h⟩ := h
 obtain ⟨m, hn, hl⟩ := I.loc
 obtain ⟨u, r, l⟩ := hl i x v hN e hv
 have fin : EP X pins σ Q u s := ⟨v, H, I, r, h⟩
 rcases l with ⟨hk, hm⟩ | ⟨hk, c, hc, hcell⟩
 ·exact wpAny_Name (wpAny_loadName_local I.ok.kind hk hn hm fin) hd
 ·rcases hk with hk | hk
  ·exact wpAny_Name (wpAny_loadName_cell I.ok.kind hk hc hcell fin) hd
  ·exact wpAny_Name (wpAny_loadName_free I.ok.kind hk hc hcell fin hcd) hd
theorem aB {i j pos} : PE X (.Constant (.int i) j pos) (tC (.int i)) := fun _ _ _ H _ I h => wpAny_Constant_int ⟨.int i, H, I.tok _, ⟨_, rfl⟩, h⟩
theorem fQ {b j pos} : PE X (.Constant (.bool b) j pos) (tC (.bl b)) := fun _ _ _ H _ I h => Constant_bool ⟨.bl b, H, I, rfl, h⟩
theorem ZO {j pos} : PE X (.Constant .none j pos) (tC .non) := fun _ _ _ H _ I h => Constant_none ⟨.non, H, I, rfl, h⟩
theorem bF {x j pos} : PE X (.Constant (.str x) j pos) (tC (.str x)) := fun _ _ _ H _ I h => Calls.Constant_str ⟨.str x, H, I.tok _, ⟨_, rfl⟩, h⟩
def Gl (X : Cx) (x : Str) : Prop := X.env.kindOf x = some .globalImplicit
theorem TQ {E : Value -> Shared -> Prop} {pins : List (Addr × Obj)} {s : Shared} {σ : St} {H : Hp} {x : Str} {u : Value} {pos : Pos} {Q : Value -> Shared -> Prop} (I : Inv X pins σ H s) (hg : Gl X x) (hm : X.mg x = some u) (h : Q u s)
  (hd : (x == ("__debug__" : Str)) = false := by decide) : wpAny (model X.prog X.w) X.A (eval (.Name x pos) X.env) Q E s :=
 Calls.Name_function_global I.ok.kind hg (Calls.loadGlobal_global (by rw [I.ok.glob]; exact I.mod.glob.keeps I.bk) hm h) hd
theorem Kv {E : Value -> Shared -> Prop} {pins : List (Addr × Obj)} {s : Shared} {σ : St} {H : Hp} {x : Str} {u : Value} {pos : Pos} {Q : Value -> Shared -> Prop} (I : Inv X pins σ H s) (hg : Gl X x) (hm : X.mg x = none) (hv : bootBuiltins x = some u) (h : Q u s)
  (hn : x ≠ "__name__" := by decide) (hd : (x == ("__debug__" : Str)) = false := by decide) : wpAny (model X.prog X.w) X.A (eval (.Name x pos) X.env) Q E s := by
 obtain ⟨mb, h1, h2⟩ := I.mod.blt
 exact Calls.Name_function_global I.ok.kind hg (Calls.loadGlobal_builtin (by rw [I.ok.glob]; exact I.mod.glob.keeps I.bk) hm (by rw [I.ok.blt]; exact h1.keeps I.bk) ((h2 x hn).trans hv) h) hd
theorem YY {x : Str} {v : V} {u : Value} {pos : Pos} (hg : Gl X x) (hm : X.mg x = some u) (r : RelV v u) (hd : (x == ("__debug__" : Str)) = false := by decide) : PE X (.Name x pos) (tC v) :=
 fun _ _ _ H _ I h => TQ I hg hm ⟨v, H, I, r, h⟩ hd
theorem YT {x : Str} {v : V} {u : Value} {pos : Pos} (hg : Gl X x) (hm : X.mg x = none) (hv : bootBuiltins x = some u) (r : RelV v u) (hn : x ≠ "__name__" := by decide) (hd : (x == ("__debug__" : Str)) = false := by decide) : PE X (.Name x pos) (tC v) :=
 fun _ _ _ H _ I h => Kv I hg hm hv ⟨v, H, I, r, h⟩ hn hd
variable {a b : Expr} {ta tb : TE} {pos : Pos}
def tB (t : TE) : TT := fun σ H Q => t σ H fun x H1 => ∃ c, x = .bl c /\ Q c H1
theorem Zx {e : Expr} {t : TE} (h : PE X e t) (he : ∀ whole, isTrue e X.env whole = (do let v ← whole; standAt e.pos; holding [v] (truthy v)) := by intro _; rfl) : PT X e (tB t) := by
 intro pins s σ H Q I hw
 refine isTrue_plain (thn (h pins s σ H _ I hw) fun v s1 ⟨x, H1, I1, r1, q1⟩ => ?_) (he _)
 obtain ⟨d, rfl, q⟩ := q1
 cases r1
 exact wpAny_truthy_bool ⟨H1, I1, q⟩
variable {tA tB' : TT} {rest : List Expr}
def gv (t u : TT) : TT := fun σ H Q => t σ H fun c H1 => if c = true then u σ H1 Q else Q false H1
def tOr (t u : TT) : TT := fun σ H Q => t σ H fun c H1 => if c = true then Q true H1 else u σ H1 Q
def gX (t : TT) : TT := fun σ H Q => t σ H fun c H1 => Q (!c) H1
theorem YS (ha : PT X a tA) : PW X (.BoolOp .And [a] pos) tA := by
 intro wh pins s σ H Q I h
 refine isTrue_and (thn (ha pins s σ H Q I h) fun c s1 e => ?_)
 cases c with
 | true => exact isTrue_and_nil e
 | false => exact e
theorem aP (ha : PT X a tA) : PW X (.BoolOp .Or [a] pos) tA := by
 intro wh pins s σ H Q I h
 refine isTrue_or (thn (ha pins s σ H Q I h) fun c s1 e => ?_)
 cases c with
 | false => exact isTrue_or_nil e
 | true => exact e
theorem ZX (ha : PT X a tA) (hb : PW X (.BoolOp .And (b :: rest) pos) tB') : PW X (.BoolOp .And (a :: b :: rest) pos) (gv tA tB') := by
 intro wh pins s σ H Q I h
 refine isTrue_and (thn (ha pins s σ H _ I h) fun c s1 ⟨H1, I1, q1⟩ => ?_)
 cases c with
 | true => exact hb wh pins s1 σ H1 Q I1 q1
 | false => exact ⟨H1, I1, q1⟩
theorem eM (ha : PT X a tA) (hb : PW X (.BoolOp .Or (b :: rest) pos) tB') : PW X (.BoolOp .Or (a :: b :: rest) pos) (tOr tA tB') := by
 intro wh pins s σ H Q I h
 refine isTrue_or (thn (ha pins s σ H _ I h) fun c s1 ⟨H1, I1, q1⟩ => ?_)
 cases c with
 | true => exact ⟨H1, I1, q1⟩
 | false => exact hb wh pins s1 σ H1 Q I1 q1
theorem ab (ha : PT X a tA) : PT X (.UnaryOp .Not a pos) (gX tA) := by
 intro pins s σ H Q I h
 exact isTrue_not (ha pins s σ H (fun c H1 => Q (!c) H1) I h)
def du (ta tb : TE) : TE := fun σ H Q => ta σ H fun x H1 => ∃ c, x = .bl c /\ if c = true then tb σ H1 Q else Q (.bl false) H1
def fK (ta : TE) : TE := fun σ H Q => ta σ H fun x H1 => ∃ c, x = .bl c /\ Q (.bl (!c)) H1
theorem aM {op} {t : TE} (h : PE X a t) : PE X (.BoolOp op [a] pos) t := fun pins s σ H Q I hw => BoolOp_one (h pins s σ H Q I hw)
theorem Z2 (ha : PE X a ta) (hb : PE X (.BoolOp .And (b :: rest) pos) tb) : PE X (.BoolOp .And (a :: b :: rest) pos) (du ta tb) := by
 intro pins s σ H Q I h
 refine BoolOp_and (thn (ha pins s σ H _ I h) fun v s1 ⟨x, H1, I1, r1, q1⟩ => ?_)
 obtain ⟨c, rfl, q1⟩ := q1
 cases r1
 refine wpAny_truthy_bool ?_
 cases c with
 | true => exact hb pins s1 σ H1 Q I1 q1
 | false => exact ⟨.bl false, H1, I1, rfl, q1⟩
theorem au (ha : PE X a ta) : PE X (.UnaryOp .Not a pos) (fK ta) := by
 intro pins s σ H Q I h
 refine UnaryOp_ (thn (ha pins s σ H _ I h) fun v s1 ⟨x, H1, I1, r1, q1⟩ => ?_)
 obtain ⟨c, rfl, q1⟩ := q1
 cases r1
 exact not_of (wpAny_truthy_bool ⟨.bl (!c), H1, I1, rfl, q1⟩)
def tIf (t : TT) (ta tb : TE) : TE := fun σ H Q => t σ H fun c H1 => if c = true then ta σ H1 Q else tb σ H1 Q
theorem W4 {c : Expr} (hc : PT X c tA) (ha : PE X a ta) (hb : PE X b tb) : PE X (.IfExp c a b pos) (tIf tA ta tb) := by
 intro pins s σ H Q I h
 refine wpAny_IfExp (thn (hc pins s σ H _ I h) fun d s1 ⟨H1, I1, q1⟩ => ?_)
 cases d with
 | true => exact ha pins s1 σ H1 Q I1 q1
 | false => exact hb pins s1 σ H1 Q I1 q1
end
end L2
namespace L2
open PySem PySem.Spec PyProof.Rows
def SqL (K : PySem.W.Frag) (H : Hp) (a : Addr) (xs : List V) : Prop :=
 Rd H a (.lst xs) ∨
  ∃ (o : Obj) (its : Array Value) (n : Nat), K.lookup a = some o /\ o.cls = .type "list" /\ o.dict = none /\ o.data = .seq its n /\ its.size ≤ sizeLine /\ Vals xs its.toList
def SqT (K : PySem.W.Frag) (H : Hp) (a : Addr) (xs : List V) : Prop :=
 Rd H a (.tup xs) ∨
  ∃ (o : Obj) (its : Array Value) (n : Nat), K.lookup a = some o /\ o.cls = .type "tuple" /\ o.data = .seq its n /\ its.size ≤ sizeLine /\ Vals xs its.toList
def iR : Value -> Option V
 | .none => some .non
 | .bool b => some (.bl b)
 | .int i _ => some (.int i)
 | .str x _ => some (.str x)
 | .bytes b _ => some (.byt b)
 | .float b _ => some (.flt b)
 | .ref a => some (.ref a)
 | .type n => some (.ty n)
 | _ => none
theorem RelV.abs {x : V} {u : Value} (r : RelV x u) : iR u = some x := by
 cases x with
 | non => cases r; rfl
 | bl _ => cases r; rfl
 | int _ => obtain ⟨t, rfl⟩ := r; rfl
 | str _ => obtain ⟨t, rfl⟩ := r; rfl
 | byt _ => obtain ⟨t, rfl⟩ := r; rfl
 | flt _ => obtain ⟨t, rfl⟩ := r; rfl
 | ref _ => cases r; rfl
 | ty _ => cases r; rfl
theorem RelV.inj {x y : V} {u : Value} (r : RelV x u) (q : RelV y u) : x = y := Option.some.inj (r.abs.symm.trans q.abs)
theorem Vals.inj : ∀ {xs ys : List V} {us : List Value}, Vals xs us -> Vals ys us -> xs = ys
 | _, _, _, .nil, .nil => rfl
 | _, _, _, .cons r t, .cons r' t' => by rw [r.inj r', Vals.inj t t']
section
variable {X : Cx} {pins : List (Addr × Obj)} {σ : St} {H : Hp} {s : Shared} {a : Addr} {xs ys : List V}
theorem SqL.of {K : PySem.W.Frag} (h : H a = some (.lst xs)) : SqL K H a xs := .inl (.inl h)
theorem SqT.of {K : PySem.W.Frag} (h : H a = some (.tup xs)) : SqT K H a xs := .inl (.inl h)
theorem Inv.list (I : Inv X pins σ H s) (h : SqL X.K H a xs) : ∃ its : List Value, Vals xs its /\ PlainL s.heap a its.toArray /\ xs.length ≤ sizeLine := by
 rcases h with h | ⟨o, its, n, hk, hc, hd, hs, hz, r⟩
 ·obtain ⟨z, its, n, r, e⟩ := h.ok I.hok
  exact ⟨its, r, ⟨_, n, e, rfl, rfl, rfl⟩, z⟩
 ·refine ⟨its.toList, r, ⟨o, n, I.kIn a o hk, hc, hd, by simpa using hs⟩, ?_⟩
  have e := r.length
  simp only [Array.length_toList] at e
  omega
theorem Inv.tuple (I : Inv X pins σ H s) (h : SqT X.K H a xs) : ∃ its : List Value, Vals xs its /\ IsTup s.heap a its.toArray /\ xs.length ≤ sizeLine := by
 rcases h with h | ⟨o, its, n, hk, hc, hs, hz, r⟩
 ·obtain ⟨z, its, r, p⟩ := h.ok I.hok
  exact ⟨its, r, p, z⟩
 ·refine ⟨its.toList, r, ⟨o, I.kIn a o hk, hc, n, by simpa using hs⟩, ?_⟩
  have e := r.length
  simp only [Array.length_toList] at e
  omega
theorem Inv.list_inj (I : Inv X pins σ H s) (h : SqL X.K H a xs) (h' : SqL X.K H a ys) : xs = ys := by
 obtain ⟨its, r, ⟨o, n, e, _, _, d⟩, _⟩ := I.list h
 obtain ⟨its', r', ⟨o', n', e', _, _, d'⟩, _⟩ := I.list h'
 rw [e] at e'; cases e'
 rw [d] at d'
 injection d' with d1 _
 have : its = its' := by simpa using congrArg Array.toList d1
 subst this
 exact r.inj r'
theorem Inv.tuple_inj (I : Inv X pins σ H s) (h : SqT X.K H a xs) (h' : SqT X.K H a ys) : xs = ys := by
 obtain ⟨its, r, ⟨o, e, _, n, d⟩, _⟩ := I.tuple h
 obtain ⟨its', r', ⟨o', e', _, n', d'⟩, _⟩ := I.tuple h'
 rw [e] at e'; cases e'
 rw [d] at d'
 injection d' with d1 _
 have : its = its' := by simpa using congrArg Array.toList d1
 subst this
 exact r.inj r'
end
abbrev Cx.wish (X : Cx) (E : Value -> Shared -> Prop) : Cx := { X with xe := E }
abbrev Cx.nox (X : Cx) : Cx := X.wish fun _ _ => False
theorem Cx.Ok.wish {X : Cx} (ok : X.Ok) (E : Value -> Shared -> Prop) : (X.wish E).Ok :=
 ⟨ok.mod, ok.kind, ok.glob, ok.blt, ok.above, ok.inj, ok.has, ok.cab, ok.hd, ok.frames, ok.stk, ok.exf, ok.bs, ok.bsz, ok.noex, ok.exfs, ok.funs, ok.frf⟩
theorem Cx.Ok.unwish {X : Cx} {E : Value -> Shared -> Prop} (ok : (X.wish E).Ok) : X.Ok :=
 ⟨ok.mod, ok.kind, ok.glob, ok.blt, ok.above, ok.inj, ok.has, ok.cab, ok.hd, ok.frames, ok.stk, ok.exf, ok.bs, ok.bsz, ok.noex, ok.exfs, ok.funs, ok.frf⟩
section
variable {X : Cx} {pins : List (Addr × Obj)} {σ : St} {H : Hp} {s : Shared} {E : Value -> Shared -> Prop}
theorem Inv.wish (I : Inv X pins σ H s) (E : Value -> Shared -> Prop) : Inv (X.wish E) pins σ H s := ⟨I.ok.wish E, I.os, I.bare, I.base, I.loc, I.cell, I.free, I.freeC, I.pin, I.hok, I.len⟩
theorem Inv.unwish (I : Inv (X.wish E) pins σ H s) : Inv X pins σ H s := ⟨I.ok.unwish, I.os, I.bare, I.base, I.loc, I.cell, I.free, I.freeC, I.pin, I.hok, I.len⟩
theorem SP.unwish {D : Ends} {f : Flow} {s' : Shared} (h : SP (X.wish E) pins D f s') : SP X pins D f s' := by
 cases f with
 | next => obtain ⟨σ', H', I, q⟩ := h; exact ⟨σ', H', I.unwish, q⟩
 | brk => obtain ⟨σ', H', I, q⟩ := h; exact ⟨σ', H', I.unwish, q⟩
 | cont => obtain ⟨σ', H', I, q⟩ := h; exact ⟨σ', H', I.unwish, q⟩
 | ret u => obtain ⟨v, σ', H', I, r, q⟩ := h; exact ⟨v, σ', H', I.unwish, r, q⟩
theorem PSs.nox {st : List Stmt} {t : TS} (h : PSs X.nox st t) : PSs X st t := fun pins s σ H D I hw =>
 wpAny_mono (h pins s σ H D (I.wish _) hw) (fun _ _ q => q.unwish) fun _ _ z => False.elim z
end
section
variable {X : Cx} {st : Stmt} {rest : List Stmt} {t u : TS} {e : Expr} {te : TE} {pos : Pos}
def d9 : TS := fun D σ H => D.nx σ H
def hU (t u : TS) : TS := fun D σ H => t { D with nx := u D } σ H
theorem Y8 : PSs X [] d9 := fun _ _ σ H _ I h => wpAny_execs_nil ⟨σ, H, I, h⟩
theorem VB (h1 : PS X st t) (h2 : PSs X rest u) : PSs X (st :: rest) (hU t u) := by
  intro pins s σ H D I h
  refine wpAny_execs_cons (thn (h1 pins s σ H { D with nx := u D } I h) fun f s1 q => ?_)
  cases f with
  | next =>
    obtain ⟨σ', H', I', q⟩ := q
    exact h2 pins s1 σ' H' D I' q
  | ret v => exact q
  | brk => exact q
  | cont => exact q
theorem YH (h1 : PS X st t) : PSs X [st] t := by
 intro pins s σ H D I h
 refine wpAny_execs_cons (thn (h1 pins s σ H D I h) fun f s1 q => ?_)
 cases f with
 | next => exact wpAny_execs_nil q
 | ret v => exact q
 | brk => exact q
 | cont => exact q
theorem Inv.quiet {pins : List (Addr × Obj)} {σ : St} {H : Hp} {s : Shared} (I : Inv X pins σ H s) : interactive X.env = false := by simp [interactive, I.ok.kind]
def dS (te : TE) : TS := fun D σ H => te σ H fun _ H1 => D.nx σ H1
theorem Yo (he : PE X e te) (hs : swapsWith e none pos.line X.env = pure false := by rfl) : PS X (.Expr e pos) (dS te) := by
 intro pins s σ H D I h
 exact wpAny_Expr_any (thn (he pins s σ H _ I h) fun v s1 ⟨x, H1, I1, r1, q1⟩ => ⟨σ, H1, I1, q1⟩) I.quiet hs
def g9 (te : TE) : TS := fun D σ H => te σ H D.rt
theorem ZT (he : PE X e te) : PS X (.Return (some e) pos) (g9 te) := by
 intro pins s σ H D I h
 exact wpAny_Return_some (thn (he pins s σ H _ I h) fun v s1 ⟨x, H1, I1, r1, q1⟩ => ⟨x, σ, H1, I1, r1, q1⟩)
def iQ (c : TT) (t u : TS) : TS := fun D σ H => c σ H fun b H1 => if b = true then t D σ H1 else u D σ H1
theorem d8 {c : Expr} {a b : List Stmt} {tc : TT} (hc : PT X c tc) (ha : PSs X a t) (hb : PSs X b u) : PS X (.If c a b pos) (iQ tc t u) := by
 intro pins s σ H D I h
 refine wpAny_If (thn (hc pins s σ H _ I h) fun d s1 ⟨H1, I1, q1⟩ => ?_)
 cases d with
 | true => exact ha pins s1 σ H1 D I1 q1
 | false => exact hb pins s1 σ H1 D I1 q1
end
abbrev TG := V -> St -> Hp -> (St -> Hp -> Prop) -> Prop
abbrev TGs := List V -> St -> Hp -> (St -> Hp -> Prop) -> Prop
def PG (X : Cx) (target : Expr) (t : TG) : Prop :=
 ∀ (pins : List (Addr × Obj)) (s : Shared) (σ : St) (H : Hp) (v : V) (u : Value) (Q : St -> Hp -> Prop), Inv X pins σ H s -> RelV v u -> t v σ H Q ->
  wpAny (model X.prog X.w) X.A (assign target X.env u) (fun _ s' => ∃ σ' H', Inv X pins σ' H' s' /\ Q σ' H') X.xe s
def PGs (X : Cx) (ts : List Expr) (t : TGs) : Prop :=
 ∀ (pins : List (Addr × Obj)) (s : Shared) (σ : St) (H : Hp) (vs : List V) (us : List Value) (Q : St -> Hp -> Prop), Inv X pins σ H s -> Vals vs us -> t vs σ H Q ->
  wpAny (model X.prog X.w) X.A (assignInOrder ((assignEach ts X.env).map (·.2)) us) (fun _ s' => ∃ σ' H', Inv X pins σ' H' s' /\ Q σ' H') X.xe s
abbrev dM := V -> V -> V -> Hp -> (Hp -> Prop) -> Prop
def gT (X : Cx) (t : dM) : Prop :=
 ∀ (pins : List (Addr × Obj)) (s : Shared) (σ : St) (H : Hp) (o i v : V) (ov iv u : Value) (Q : Hp -> Prop), Inv X pins σ H s -> RelV o ov -> RelV i iv -> RelV v u -> t o i v H Q ->
  wpAny (model X.prog X.w) X.A (setItem ov iv u) (fun _ s' => ∃ H', Inv X pins σ H' s' /\ Q H') X.xe s
section
variable {X : Cx} {pos : Pos}
def Yr (i : Nat) : TG := fun v σ H Q => Q (σ.set i (some v)) H
theorem Y9 {i : Nat} {x : Str} (hN : X.N.Nodup) (hi : X.N[i]? = some x) (hx : Loc X.env.scope x) (hf : X.fn x = true ∨ X.env.scope.names.lookup x = some .local := by first | exact .inl rfl | exact .inr rfl | assumption) : PG X (.Name x pos) (Yr i) := by
 intro pins s σ H v u Q I r h
 exact wpAny_assign_Name (LM I hN hi hx r (fun s' I' => ⟨_, H, I', h⟩) hf)
def gD : TGs := fun vs σ H Q => vs = [] /\ Q σ H
def bB (t : TG) (u : TGs) : TGs := fun vs σ H Q => ∃ v r, vs = v :: r /\ t v σ H fun σ' H' => u r σ' H' Q
theorem X8 : PGs X [] gD := by
 intro pins s σ H vs us Q I r h
 obtain ⟨e, h⟩ := h
 subst e
 cases r
 exact assignInOrder_nil ⟨σ, H, I, h⟩
theorem V8 {e : Expr} {es : List Expr} {t : TG} {u : TGs} (h1 : PG X e t) (h2 : PGs X es u)
    (hs : (assignEach (e :: es) X.env).map (·.2) = assign e X.env :: (assignEach es X.env).map (·.2) := by rfl) : PGs X (e :: es) (bB t u) := by
  intro pins s σ H vs us Q I r h
  obtain ⟨v, vr, e1, h⟩ := h
  subst e1
  cases r with
  | cons r rr =>
    rw [hs]
    refine assignInOrder_cons (thn (h1 pins s σ H _ _ _ I r h) fun _ s1 ⟨σ1, H1, I1, q1⟩ => ?_)
    exact h2 pins s1 σ1 H1 _ _ Q I1 rr q1
def gu (K : PySem.W.Frag) (n : Nat) (t : TGs) : TG := fun v σ H Q => ∃ a xs, v = .ref a /\ SqT K H a xs /\ xs.length = n /\ t xs σ H Q
theorem bI {es : List Expr} {k : Nat} {t : TGs} {n : Nat} (hc : X.calm = true) (h : PGs X es t)
  (hn : (assignEach es X.env).length = n := by rfl) (hst : (assignEach es X.env).findIdx? (·.1) = none := by rfl) : PG X (.Tuple es k pos) (gu X.K n t) := by
 intro pins s σ H v u Q I r hw
 obtain ⟨a, xs, e1, hq, hl, hw⟩ := hw
 subst e1
 cases r
 obtain ⟨its, rv, ht, hz⟩ := I.tuple hq
 refine assign_Tuple_tuple (I.ok.hd hc) ht (by simp [hn, ← hl, rv.length]) hst fun h' hx => ?_
 have I1 : Inv X pins σ H { s with heap := h' } := I.kept (t' := s.toks) fun b o e => hx b o (Nat.ne_of_lt (Heap.lt_size e)) e
 exact h pins _ σ H xs _ Q I1 (by simpa using rv) hw
def iU (to ti : TE) (t : dM) : TG := fun v σ H Q => to σ H fun o H1 => ti σ H1 fun i H2 => t o i v H2 fun H3 => Q σ H3
theorem Z7 {o i : Expr} {to ti : TE} {t : dM} (ho : PE X o to) (hi : PE X i ti) (hs : gT X t)
  (ha : ∀ v, assign (.Subscript o i pos) X.env v = (do
   let ov ← holding [v] (eval o X.env)
   let iv ← holding [v, ov] (eval i X.env)
   standAt pos
   holding [v, ov, iv] (setItem ov iv v)
   release [v, ov, iv] []) := by intro _; rfl) : PG X (.Subscript o i pos) (iU to ti t) := by
 intro pins s σ H v u Q I r h
 rw [ha]
 refine wpAny_bind (wpAny_holding (thn (ho pins s σ H _ I h) fun ov s1 ⟨x, H1, I1, r1, q1⟩ => ?_))
 refine wpAny_bind (wpAny_holding (thn (hi pins s1 σ H1 _ I1 q1) fun iv s2 ⟨y, H2, I2, r2, q2⟩ => ?_))
 refine wpAny_bind (wpAny_standAt (wpAny_bind (wpAny_holding (thn (hs pins s2 σ H2 x y v ov iv u _ I2 r1 r2 r q2) fun _ s3 ⟨H3, I3, q3⟩ => ?_))))
 exact wpAny_release ⟨σ, H3, I3, q3⟩
def dC (te : TE) (g : TG) : TS := fun D σ H => te σ H fun x H1 => g x σ H1 D.nx
theorem XS {tg e : Expr} {te : TE} {g : TG} (he : PE X e te) (hg : PG X tg g) (hs : swapsWithSole [tg] e pos.line X.env = pure false := by rfl) (hw : swappedStores [tg] e X.env = pure none := by rfl)
  (h1 : (assignEach [tg] X.env).map (·.2) = [assign tg X.env] := by rfl) : PS X (.Assign [tg] e pos) (dC te g) := by
 intro pins s σ H D I h
 refine wpAny_Assign_stores (thn (he pins s σ H _ I h) fun v s1 ⟨x, H1, I1, r1, q1⟩ => ?_) hs hw
 rw [h1]
 exact thn (hg pins s1 σ H1 x v _ I1 r1 q1) fun _ s2 q => q
theorem aK {i : Nat} {x : Str} {e : Expr} {te : TE} {pos' : Pos} (hN : X.N.Nodup) (hi : X.N[i]? = some x) (hx : Loc X.env.scope x) (he : PE X e te) (hs : swapsWith e (some (.Name x pos')) pos.line X.env = pure false := by rfl) (hf : X.fn x = true ∨ X.env.scope.names.lookup x = some .local := by first | exact .inl rfl | exact .inr rfl | assumption) :
  PS X (.Assign [.Name x pos'] e pos) (dC te (Yr i)) := by
 intro pins s σ H D I h
 refine wpAny_Assign_Name (thn (he pins s σ H _ I h) fun v s1 ⟨y, H1, I1, r1, q1⟩ => ?_) hs
 exact LM I1 hN hi hx r1 (fun s2 I2 => ⟨_, H1, I2, q1⟩) hf
def iC (i j : Nat) (ta : TA) : TS := fun D σ H => ta σ H fun vs H1 => ∃ v w, vs = [v, w] /\ D.nx ((σ.set i (some v)).set j (some w)) H1
theorem Zc {i j : Nat} {x y : Str} {a b : Expr} {ta : TA} {px py pt : Pos} {kt k2 pt2} (hc : X.calm = true) (hN : X.N.Nodup) (hi : X.N[i]? = some x) (hj : X.N[j]? = some y) (hij : i ≠ j)
    (hx : X.env.scope.names.lookup x = some .local) (hy : X.env.scope.names.lookup y = some .local) (ha : PA X [a, b] ta)
    (hw : swappedStores [.Tuple [.Name x px, .Name y py] kt pt] (.Tuple [a, b] k2 pt2) X.env = pure (some [x, y]))
    (hs : swapsWithSole [.Tuple [.Name x px, .Name y py] kt pt] (.Tuple [a, b] k2 pt2) pos.line X.env = pure false := by rfl) :
    PS X (.Assign [.Tuple [.Name x px, .Name y py] kt pt] (.Tuple [a, b] k2 pt2) pos) (iC i j ta) := by
  intro pins s σ H D I h
  rw [exec_Assign_arm]
  refine wpAny_bind (wpAny_standAt ?_)
  rw [hs]
  refine wpAny_bind (wpAny_pure ?_)
  rw [if_neg (by decide)]
  refine wpAny_bind (Tuple_ (thn (ha _ pins s σ H _ I h) fun us s1 ⟨vs, H1, I1, r1, q1⟩ => ?_))
  obtain ⟨v, w, e1, q1⟩ := q1
  subst e1
  obtain ⟨u1, u2, rfl, rv, rw'⟩ : ∃ u1 u2, us = [u1, u2] /\ RelV v u1 /\ RelV w u2 := by
    cases r1 with
    | cons p q =>
      cases q with
      | cons p' q' =>
        cases q'
        exact ⟨_, _, rfl, p, p'⟩
  refine wpAny_newObj_type ?_ (by show 2 ≤ sizeLine; decide)
  have I2 : Inv X pins σ H1 { s1 with heap := s1.heap.push { cls := .type "tuple", data := .seq [u1, u2].toArray } } := I1.kept (t' := s1.toks) fun b o e => Heap.get?_push_of_some _ e
  rw [hw]
  refine wpAny_bind (wpAny_pure ?_)
  show wpAny (model X.prog X.w) X.A (do rule "assign.swapped-stores"; let items ← unpackItems (.ref s1.heap.objs.size) 2 none; assignInOrder [fun v => bindName X.env y v, fun v => bindName X.env x v] items.reverse; pure Flow.next) _ _ _
  refine wpAny_bind (wpAny_rule (wpAny_bind (unpackItems_tuple (items := #[u1, u2]) (I.ok.hd hc) (IsTup.new s1.heap _) fun h' hx' => ?_)))
  have I3 := I2.kept (h' := h') (t' := s1.toks) fun b o e => hx' b o (Nat.ne_of_lt (Heap.lt_size e)) e
  show wpAny _ _ (assignInOrder [fun v => bindName X.env y v, fun v => bindName X.env x v] [u2, u1] >>= fun _ => pure Flow.next) _ _ _
  refine wpAny_bind (assignInOrder_cons (wpAny_bindName (LM I3 hN hj (.inl hy) rw' (fun s2 I4 => ?_) (.inr hy))))
  refine assignInOrder_cons (wpAny_bindName (LM I4 hN hi (.inl hx) rv (fun s3 I5 => assignInOrder_nil (wpAny_pure ?_)) (.inr hx)))
  rw [List.set_comm _ _ (Ne.symm hij)] at I5
  exact ⟨_, H1, I5, q1⟩
end
section
variable {X : Cx} {pos : Pos}
def Zp (c : TT) (tb : TS) : TS := fun D σ H => ∃ W : Nat -> St -> Hp -> Prop, (∃ m, W m σ H) /\ ∀ m σ H, W m σ H ->
 c σ H fun b H1 => if b = true then ∃ N : St -> Hp -> Prop, (∀ σ' H', N σ' H' -> ∃ m', m' < m /\ W m' σ' H') /\ tb { D with nx := N, ct := N, bk := D.nx } σ H1 else D.nx σ H1
theorem WJ {c : Expr} {body : List Stmt} {tc : TT} {tb : TS} (hp : PassesOwn (model X.prog X.w) X.A X.env X.xe) (hc : PT X c tc) (hb : PSs X body tb) : PS X (.While c body [] pos) (Zp tc tb) := by
  intro pins s σ H D I h
  obtain ⟨W, ⟨m0, w0⟩, turn⟩ := h
  refine wpAny_While (codeAny_whileLoop (fun n s' => ∃ σ' H', Inv X pins σ' H' s' /\ W n σ' H') ?_ m0 ⟨σ, H, I, w0⟩)
  rintro n s1 ⟨σ1, H1, I1, w1⟩
  refine wpAny_passesOwn hp (thn (hc pins s1 σ1 H1 _ I1 (turn n σ1 H1 w1)) fun b s2 ⟨H2, I2, q2⟩ => ?_)
  cases b with
  | true =>
    obtain ⟨N, hN, q2⟩ := q2
    rw [if_pos rfl]
    refine wpAny_passesOwn hp (thn (hb pins s2 σ1 H2 _ I2 q2) fun f s3 q3 => ?_)
    cases f with
    | next =>
      obtain ⟨σ3, H3, I3, n3⟩ := q3
      obtain ⟨m', hm, w3⟩ := hN σ3 H3 n3
      exact ⟨m', hm, σ3, H3, I3, w3⟩
    | cont =>
      obtain ⟨σ3, H3, I3, n3⟩ := q3
      obtain ⟨m', hm, w3⟩ := hN σ3 H3 n3
      exact ⟨m', hm, σ3, H3, I3, w3⟩
    | brk => exact q3
    | ret v => exact q3
  | false =>
    rw [if_neg Bool.false_ne_true]
    exact wpAny_execs_nil ⟨σ1, H2, I2, q2⟩
end
structure It where
 go : Nat -> Hp -> Prop
 yld : Nat -> Hp -> V -> Hp -> Prop
 stop : Nat -> Hp -> Prop
def QK (X : Cx) (pins : List (Addr × Obj)) (H : Hp) (b : Addr) : Prop :=
 H b = none /\ b ≠ X.env.locals /\ b ∉ X.fs /\ (b ∈ X.ex ∨ X.s₀.heap.objs.size ≤ b) /\ (∀ x c, X.env.cells.lookup x = some c -> c ≠ b) /\ ∀ p ∈ X.pn ++ pins, p.1 ≠ b
theorem Inv.fpOk {X : Cx} {pins : List (Addr × Obj)} {σ : St} {H H' : Hp} {s : Shared} {b : Addr} (I : Inv X pins σ H s) (hb : s.heap.objs.size ≤ b) (hn : H' b = none) : QK X pins H' b := by
 refine ⟨hn, Nat.ne_of_gt (Nat.lt_of_lt_of_le I.lt hb), I.nofs hb, .inr (Nat.le_trans I.sz hb), fun x c e z => ?_, fun p hp z => ?_⟩
 ·obtain ⟨v, q⟩ := I.cell x c e
  exact absurd (Nat.lt_of_lt_of_le q.lt (by rw [z]; exact hb)) (Nat.lt_irrefl _)
 ·exact absurd (Nat.lt_of_lt_of_le (Heap.lt_size (I.pin p hp).1) (by rw [z]; exact hb)) (Nat.lt_irrefl _)
structure Turn (P : Program) (w : World) (K : PySem.W.Frag) (tg : Expr) (J : It) (fp : List Addr) (it : Addr) (tn : Nat -> Heap -> Prop) : Prop where
 mem : it ∈ fp
 obj : ∀ i h, tn i h -> ∀ b ∈ fp, ∃ o, h.get? b = some o /\ ∀ v, o.data ≠ .cell v
 keep : ∀ i h h', tn i h -> (∀ b ∈ fp, ∀ o, h.get? b = some o -> h'.get? b = some o) -> tn i h'
 item : ∀ (X : Cx), X.prog = P -> X.w = w -> X.K = K -> X.calm = true -> ∀ (i : Nat) (pins : List (Addr × Obj)) (s : Shared) (σ : St) (H : Hp) (E : Value -> Shared -> Prop), Inv X pins σ H s -> (∀ b ∈ fp, QK X pins H b) -> tn i s.heap -> J.go i H ->
  wpAny (model P w) X.A (pyNext (.ref it)) (fun r s1 => ∃ u, r = some u /\
   wpAny (model P w) X.A (letOwnedTupleGo tg (.ref it) u) (fun _ s2 => ∃ x H', Inv X pins σ H' s2 /\ RelV x u /\ J.yld i H x H' /\ tn (i + 1) s2.heap /\ ∀ b ∈ fp, H' b = none) E s1) E s
 done : ∀ (X : Cx), X.prog = P -> X.w = w -> X.K = K -> X.calm = true -> ∀ (i : Nat) (pins : List (Addr × Obj)) (s : Shared) (σ : St) (H : Hp) (E : Value -> Shared -> Prop), Inv X pins σ H s -> (∀ b ∈ fp, QK X pins H b) -> tn i s.heap -> J.stop i H ->
  wpAny (model P w) X.A (pyNext (.ref it)) (fun r s1 => r = none /\ Inv X pins σ H s1) E s
 self : ∀ (A : Around) (i : Nat) (s : Shared) (Q : Value -> Shared -> Prop) (E : Value -> Shared -> Prop), tn i s.heap -> Q (.ref it) s -> wpAny (model P w) A (pyIter (.ref it)) Q E s
abbrev TI := St -> Hp -> (It -> Hp -> Prop) -> Prop
def PIE (X : Cx) (pins : List (Addr × Obj)) (σ : St) (tg : Expr) (R : It -> Hp -> Prop) (itv : Value) (s2 : Shared) : Prop :=
 ∃ (it : Addr) (fp : List Addr) (tn : Nat -> Heap -> Prop) (J : It) (H' : Hp), itv = .ref it /\ Inv X pins σ H' s2 /\ Turn X.prog X.w X.K tg J fp it tn /\ tn 0 s2.heap /\ (∀ b ∈ fp, QK X pins H' b) /\ R J H'
def PI (X : Cx) (tg iter : Expr) (wi : TI) : Prop :=
 ∀ (pins : List (Addr × Obj)) (s : Shared) (σ : St) (H : Hp) (R : It -> Hp -> Prop), Inv X pins σ H s -> wi σ H R ->
  wpAny (model X.prog X.w) X.A (eval iter X.env) (fun v s1 => wpAny (model X.prog X.w) X.A (pyIter v) (PIE X pins σ tg R) X.xe s1) X.xe s
theorem Yx {M : Model} {A : Around} {E : Value -> Shared -> Prop} {s : Shared} {tg : Expr} {it : Addr} {u : Value} {o : Obj} {n : String} {vs : Array Value} {Q : Unit -> Shared -> Prop} (ho : s.heap.get? it = some o) (hc : o.cls = .type n) (hd : o.data = .fields vs)
    (hn : ["enumerate", "zip", "dict_itemiterator", "dict_reverseitemiterator", "odict_iterator", "itertools.zip_longest", "itertools.pairwise"].contains n = false) (hQ : Q () s) : wpAny M A (letOwnedTupleGo tg (.ref it) u) Q E s := by
  unfold letOwnedTupleGo
  cases tg <;> first
    | exact wpAny_pure hQ
    | (cases u <;> first
        | exact wpAny_pure hQ
        | (refine wpAny_bind (wpAny_load ho ?_)
           rw [hc, hd]
           show wpAny M A (if (["enumerate", "zip", "dict_itemiterator", "dict_reverseitemiterator", "odict_iterator", "itertools.zip_longest", "itertools.pairwise"].contains n && vs[0]? == some (rawInt _)) = true then _ else _) Q E s
           rw [if_neg (by intro h; rw [hn, Bool.false_and] at h; cases h)]
           exact wpAny_pure hQ))
def Itl (K : PySem.W.Frag) (a : Addr) : It :=
 ⟨fun i H => ∃ xs x, SqL K H a xs /\ xs[i]? = some x, fun i H x H' => H' = H /\ ∀ xs, SqL K H a xs -> xs[i]? = some x, fun i H => ∃ xs, SqL K H a xs /\ xs.length ≤ i⟩
def Itt (K : PySem.W.Frag) (a : Addr) : It :=
 ⟨fun i H => ∃ xs x, SqT K H a xs /\ xs[i]? = some x, fun i H x H' => H' = H /\ ∀ xs, SqT K H a xs -> xs[i]? = some x, fun i H => ∃ xs, SqT K H a xs /\ xs.length ≤ i⟩
def Itr (lo : Int) (n : Nat) : It := ⟨fun i _ => i < n, fun i H x H' => H' = H /\ x = .int (lo + i), fun i _ => n ≤ i⟩
theorem Sj {P : Program} {w : World} {K : PySem.W.Frag} {tg : Expr} (a it : Addr) : Turn P w K tg (Itl K a) [it] it (fun i h => h.IsListIter it a i) where
 mem := by simp
 obj := fun i h st b hb => by
  have e : b = it := by simpa using hb
  subst e
  obtain ⟨o, e, c, d⟩ := st
  exact ⟨o, e, fun v z => by rw [d] at z; cases z⟩
 keep := fun i h h' st k => st.at fun o e => k it (by simp) o e
 item := by
  intro X hP hw hK hc i pins s σ H E I hf st hg
  subst hP hw hK
  obtain ⟨xs, x, hq, hx⟩ := hg
  obtain ⟨its, rv, p, hz⟩ := I.list hq
  obtain ⟨u, hu, ru⟩ := rv.get hx
  obtain ⟨f0, f1, f2, f3, f4, f5⟩ := hf it (by simp)
  refine wpAny_pyNext_list_item st p.isList (x := u) (by simpa using hu) fun h' st' sb => ?_
  have I1 : Inv X pins σ H { s with heap := h' } := I.turned (t' := s.toks) (fun b o hb e => (sb.2 b hb).trans e) f0 f1 f3 f4 f5
  obtain ⟨o, e, c, d⟩ := id st'
  exact ⟨u, rfl, Yx (s := { s with heap := h' }) e c d (by decide) ⟨x, H, I1, ru, ⟨rfl, fun ys hy => by rw [I.list_inj hy hq]; exact hx⟩, st', fun b hb => (hf b hb).1⟩⟩
 done := by
  intro X hP hw hK hc i pins s σ H E I hf st hg
  subst hP hw hK
  obtain ⟨xs, hq, hx⟩ := hg
  obtain ⟨its, rv, p, hz⟩ := I.list hq
  obtain ⟨f0, f1, f2, f3, f4, f5⟩ := hf it (by simp)
  have hl := rv.length
  exact wpAny_pyNext_list_end (I.ok.hd hc) st p.isList (by simp; omega) fun h' eb => ⟨rfl, I.turned (t' := s.toks) (fun b o hb e => eb b o hb e) f0 f1 f3 f4 f5⟩
 self := fun _ _ _ _ _ st h => wpAny_pyIter_listiter st h
theorem Ro {P : Program} {w : World} {K : PySem.W.Frag} {tg : Expr} (a it : Addr) : Turn P w K tg (Itt K a) [it] it (fun i h => h.IsTupleIter it a i) where
 mem := by simp
 obj := fun i h st b hb => by
  have e : b = it := by simpa using hb
  subst e
  obtain ⟨o, e, c, d⟩ := st
  exact ⟨o, e, fun v z => by rw [d] at z; cases z⟩
 keep := fun i h h' st k => st.at fun o e => k it (by simp) o e
 item := by
  intro X hP hw hK hc i pins s σ H E I hf st hg
  subst hP hw hK
  obtain ⟨xs, x, hq, hx⟩ := hg
  obtain ⟨its, rv, p, hz⟩ := I.tuple hq
  obtain ⟨u, hu, ru⟩ := rv.get hx
  obtain ⟨f0, f1, f2, f3, f4, f5⟩ := hf it (by simp)
  refine wpAny_pyNext_tuple_item st (show s.heap.IsTuple a its.toArray from p) (x := u) (by simpa using hu) fun h' st' sb => ?_
  have I1 : Inv X pins σ H { s with heap := h' } := I.turned (t' := s.toks) (fun b o hb e => (sb.2 b hb).trans e) f0 f1 f3 f4 f5
  obtain ⟨o, e, c, d⟩ := id st'
  exact ⟨u, rfl, Yx (s := { s with heap := h' }) e c d (by decide) ⟨x, H, I1, ru, ⟨rfl, fun ys hy => by rw [I.tuple_inj hy hq]; exact hx⟩, st', fun b hb => (hf b hb).1⟩⟩
 done := by
  intro X hP hw hK hc i pins s σ H E I hf st hg
  subst hP hw hK
  obtain ⟨xs, hq, hx⟩ := hg
  obtain ⟨its, rv, p, hz⟩ := I.tuple hq
  obtain ⟨f0, f1, f2, f3, f4, f5⟩ := hf it (by simp)
  have hl := rv.length
  exact wpAny_pyNext_tuple_end (I.ok.hd hc) st (show s.heap.IsTuple a its.toArray from p) (by simp; omega) fun h' eb => ⟨rfl, I.turned (t' := s.toks) (fun b o hb e => eb b o hb e) f0 f1 f3 f4 f5⟩
 self := fun _ _ _ _ _ st h => wpAny_pyIter_tupleiter st h
theorem RQ {P : Program} {w : World} {K : PySem.W.Frag} {tg : Expr} (it : Addr) (lo : Int) (n : Nat) : Turn P w K tg (Itr lo n) [it] it (fun i h => IsRangeIter h it (lo + (i : Nat) * 1) ((n : Int) - (i : Nat)) 1) where
 mem := by simp
 obj := fun i h st b hb => by
  have e : b = it := by simpa using hb
  subst e
  exact ⟨_, st, fun v z => by
   have z' : Data.fields _ = Data.cell v := z
   cases z'⟩
 keep := fun i h h' st k => k it (by simp) _ st
 item := by
  intro X hP hw hK hc i pins s σ H E I hf st hg
  subst hP hw hK
  obtain ⟨f0, f1, f2, f3, f4, f5⟩ := hf it (by simp)
  have W := Walks.range (prog := X.prog) (w := X.w) (I.ok.hd hc) it lo 1 n
  refine W.item i s _ _ hg st fun v h' tk hv st' kk => ?_
  obtain ⟨t, rfl⟩ := hv
  have I1 : Inv X pins σ H { s with heap := h', toks := tk } := I.turned (fun b o hb e => kk b o (by simpa using hb) e) f0 f1 f3 f4 f5
  refine ⟨_, rfl, Yx (s := { s with heap := h', toks := tk }) (n := "range_iterator") st' rfl rfl (by decide) ⟨.int (lo + i), H, I1, ⟨t, ?_⟩, ⟨rfl, rfl⟩, st', fun b hb => (hf b hb).1⟩⟩
  rw [Int.mul_one]
 done := by
  intro X hP hw hK hc i pins s σ H E I hf st hg
  subst hP hw hK
  obtain ⟨f0, f1, f2, f3, f4, f5⟩ := hf it (by simp)
  exact wpAny_pyNext_range_end (I.ok.hd hc) st (by have : n ≤ i := hg; omega) fun h' eb => ⟨rfl, I.turned (t' := s.toks) (fun b o hb e => eb b o hb e) f0 f1 f3 f4 f5⟩
 self := fun _ _ _ _ _ st h => wpAny_pyIter_rangeiter st h
end L2
namespace L2
open PySem PySem.Spec PyProof.Rows
section
variable {X : Cx} {tg : Expr}
theorem W0 {pins : List (Addr × Obj)} {σ : St} {H : Hp} {s : Shared} {R : It -> Hp -> Prop} {E : Value -> Shared -> Prop} {lo hi : Int} {t u v : Tok} {tk : Nat} (I : Inv X pins σ H s) (h1 : -(2 ^ 62) ≤ lo) (h2 : lo < 2 ^ 62) (h3 : -(2 ^ 62) ≤ hi) (h4 : hi < 2 ^ 62)
  (q : R (Itr lo (hi - lo).toNat) H) : wpAny (model X.prog X.w) X.A (pyIter (.ref s.heap.objs.size)) (PIE X pins σ tg R) E { s with heap := s.heap.push { cls := .type "range", data := .fields #[.int lo t, .int hi u, .int 1 v] }, toks := tk } := by
 refine wpAny_pyIter_range (IsRange.new ..) (small_one h1 h2 h3 h4) ?_
 have I1 : Inv X pins σ H { s with heap := s.heap.push { cls := .type "range", data := .fields #[.int lo t, .int hi u, .int 1 v] }, toks := tk } := I.kept fun b o e => Heap.get?_push_of_some _ e
 refine ⟨(s.heap.push { cls := .type "range", data := .fields #[.int lo t, .int hi u, .int 1 v] }).objs.size, [(s.heap.push { cls := .type "range", data := .fields #[.int lo t, .int hi u, .int 1 v] }).objs.size], _, _, H, rfl,
  I1.kept (t' := tk) fun b o e => Heap.get?_push_of_some _ e, RQ _ lo (hi - lo).toNat, ?_, fun b hb => ?_, q⟩
 ·have e1 : lo + ((0 : Nat) : Int) * 1 = lo := by simp
  have e2 : (((hi - lo).toNat : Nat) : Int) - ((0 : Nat) : Int) = Builtin.Range.rangeSize lo hi 1 := by rw [rangeSize_one]; split <;> omega
  show IsRangeIter _ _ (lo + ((0 : Nat) : Int) * 1) ((((hi - lo).toNat : Nat) : Int) - ((0 : Nat) : Int)) 1
  rw [e1, e2]
  exact Heap.get?_push_size _ rfl
 ·have e : b = (s.heap.push { cls := .type "range", data := .fields #[.int lo t, .int hi u, .int 1 v] }).objs.size := by simpa using hb
  subst e
  exact I1.fpOk (Nat.le_refl _) (I1.hok.fresh (Nat.le_refl _))
def fE (ta : TA) : TI := fun σ H R => ta σ H fun vs H1 => ∃ j : Int, vs = [.int j] /\ -(2 ^ 62) ≤ j /\ j < 2 ^ 62 /\ R (Itr 0 j.toNat) H1
theorem TF {a : Expr} {ta : TA} {p pos : Pos} (hg : Gl X "range") (hm : X.mg "range" = none) (ha : PA X [a] ta) (hs : starEach [a] X.env = [(false, eval a X.env)] := by rfl) : PI X tg (.Call (.Name "range" p) [a] [] pos) (fE ta) := by
  intro pins s σ H R I h
  refine Call_ (Kv I hg hm boot_range (PyProof.Rows.callWith_type1 (thn (ha pos pins s σ H _ I h) fun us s1 ⟨vs, H1, I1, r1, q1⟩ => ?_) hs rfl))
  obtain ⟨j, e, q1, q2, q⟩ := q1
  subst e
  cases r1 with
  | cons r rr =>
    cases rr
    obtain ⟨t, rfl⟩ := r
    exact call_range_1 (W0 I1 (by omega) (by omega) q1 q2 (by simpa using q))
def iD (wi : TI) (g : TG) (tb : TS) : TS := fun D σ H => wi σ H fun J H1 => ∃ W : Nat -> Nat -> St -> Hp -> Prop, (∃ m, W 0 m σ H1) /\ ∀ i m σ H, W i m σ H ->
 (J.stop i H /\ D.nx σ H) ∨ (J.go i H /\ ∃ N : St -> Hp -> Prop, (∀ σ' H', N σ' H' -> ∃ m', m' < m /\ W (i + 1) m' σ' H') /\ ∀ x H', J.yld i H x H' -> g x σ H' fun σ2 H2 => tb { D with nx := N, ct := N, bk := D.nx } σ2 H2)
def Oq (fp : List Addr) (h : Heap) : List (Addr × Obj) := fp.filterMap fun b => (h.get? b).map fun o => (b, o)
theorem IG {fp : List Addr} {h : Heap} {b : Addr} {o : Obj} (hb : b ∈ fp) (e : h.get? b = some o) : (b, o) ∈ Oq fp h := List.mem_filterMap.mpr ⟨b, hb, by rw [e]; rfl⟩
theorem TK {fp : List Addr} {h : Heap} {p : Addr × Obj} (hp : p ∈ Oq fp h) : p.1 ∈ fp /\ h.get? p.1 = some p.2 := by
  obtain ⟨b, hb, e⟩ := List.mem_filterMap.mp hp
  cases q : h.get? b with
  | none => rw [q] at e; cases e
  | some o =>
    rw [q] at e
    have e' : (b, o) = p := Option.some.inj e
    subst e'
    exact ⟨hb, q⟩
theorem Inv.pinned {pins : List (Addr × Obj)} {σ : St} {H : Hp} {s : Shared} {fp : List Addr} (I : Inv X pins σ H s) (hf : ∀ b ∈ fp, QK X pins H b) (ho : ∀ b ∈ fp, ∃ o, s.heap.get? b = some o /\ ∀ v, o.data ≠ .cell v) : Inv X (pins ++ Oq fp s.heap) σ H s :=
 I.pins_of fun p hp => (List.mem_append.mp hp).elim (fun z => I.pin p (List.mem_append_right _ z)) fun z => by
  obtain ⟨hb, e⟩ := TK z
  obtain ⟨f0, f1, f2, _⟩ := hf p.1 hb
  obtain ⟨o, e', d⟩ := ho p.1 hb
  rw [e] at e'; cases e'
  exact ⟨e, f0, f1, f2, d⟩
theorem Inv.unpinned {pins pl : List (Addr × Obj)} {σ : St} {H : Hp} {s : Shared} (I : Inv X (pins ++ pl) σ H s) : Inv X pins σ H s := I.pins_of fun p hp => I.pin p (List.mem_append_right _ (List.mem_append_left _ hp))
theorem aI {iter : Expr} {body : List Stmt} {wi : TI} {g : TG} {tb : TS} {pos : Pos} (hp : PassesOwn (model X.prog X.w) X.A X.env X.xe) (hc : X.calm = true) (hi : PI X tg iter wi) (hg : PG X tg g) (hb : PSs X body tb)
  (hs : ∀ x, foldedSetIterable iter X.env x = pure x := by intro _; rfl) : PS X (.For tg iter body [] pos) (iD wi g tb) := by
 intro pins s σ H D I h
 refine wpAny_For (thn (hi pins s σ H _ I h) fun v s1 h1 => thn h1 fun itv s2 h2 => ?_) hs
 obtain ⟨it, fp, tn, J, H2, e, I2, T, st2, f2, W, ⟨m0, w0⟩, turn⟩ := h2
 subst e
 have stat : ∀ {H' : Hp}, (∀ b ∈ fp, H' b = none) -> ∀ b ∈ fp, QK X pins H' b := fun hn b hb => ⟨hn b hb, (f2 b hb).2⟩
 refine codeAny_forLoop_any (fun n s' => ∃ i σ' H', Inv X pins σ' H' s' /\ tn i s'.heap /\ (∀ b ∈ fp, H' b = none) /\ W i n σ' H') ?_ m0 ⟨0, σ, H2, I2, st2, fun b hb => (f2 b hb).1, w0⟩
 rintro n s3 ⟨i, σ3, H3, I3, st3, fr3, w3⟩
 rcases turn i n σ3 H3 w3 with ⟨stop, qn⟩ | ⟨go, N, hN, step⟩
 ·refine wpAny_passesOwn hp (thn (T.done X rfl rfl rfl hc i pins s3 σ3 H3 X.xe I3 (stat fr3) st3 stop) fun r s4 ⟨hr, I4⟩ => ?_)
  subst hr
  exact wpAny_execs_nil ⟨σ3, H3, I4, qn⟩
 ·refine wpAny_passesOwn hp (thn (T.item X rfl rfl rfl hc i pins s3 σ3 H3 X.xe I3 (stat fr3) st3 go) fun r s4 ⟨u, hr, h4⟩ => ?_)
  subst hr
  refine wpAny_passesOwn hp (thn h4 fun _ s5 ⟨x, H5, I5, r5, y5, st5, fr5⟩ => ?_)
  have I5' := I5.pinned (stat fr5) (T.obj _ _ st5)
  refine wpAny_passesOwn hp (thn (hg _ s5 σ3 H5 x u _ I5' r5 (step x H5 y5)) fun _ s6 ⟨σ6, H6, I6, q6⟩ => ?_)
  refine wpAny_passesOwn hp (thn (hb _ s6 σ6 H6 _ I6 q6) fun f s7 q7 => ?_)
  have again : ∀ {σ7 : St} {H7 : Hp}, Inv X (pins ++ Oq fp s5.heap) σ7 H7 s7 -> N σ7 H7 -> ∃ m, m < n /\ ∃ i σ' H', Inv X pins σ' H' s7 /\ tn i s7.heap /\ (∀ b ∈ fp, H' b = none) /\ W i m σ' H' := fun {σ7 H7} I7 n7 => by
   obtain ⟨m', hm, w7⟩ := hN σ7 H7 n7
   refine ⟨m', hm, i + 1, σ7, H7, I7.unpinned, T.keep _ _ _ st5 fun b hb o e => (I7.pin (b, o) (List.mem_append_right _ (List.mem_append_right _ (IG hb e)))).1, fun b hb => ?_, w7⟩
   obtain ⟨o, e, d⟩ := T.obj _ _ st5 b hb
   exact (I7.pin (b, o) (List.mem_append_right _ (List.mem_append_right _ (IG hb e)))).2.1
  cases f with
  | next => obtain ⟨σ7, H7, I7, n7⟩ := q7; exact again I7 n7
  | cont => obtain ⟨σ7, H7, I7, n7⟩ := q7; exact again I7 n7
  | brk => obtain ⟨σ7, H7, I7, q7⟩ := q7; exact ⟨σ7, H7, I7.unpinned, q7⟩
  | ret v => obtain ⟨x7, σ7, H7, I7, r7, q7⟩ := q7; exact ⟨x7, σ7, H7, I7.unpinned, r7, q7⟩
end
end L2
namespace L2
open PySem PySem.Spec PyProof.Rows
abbrev R2 := V -> V -> Hp -> VK -> Prop
def OpR (X : Cx) (f : Value -> Value -> Sem Value) (r : R2) : Prop :=
 ∀ (pins : List (Addr × Obj)) (s : Shared) (σ : St) (H : Hp) (x y : V) (v u : Value) (Q : VK), Inv X pins σ H s -> RelV x v -> RelV y u -> r x y H Q ->
  wpAny (model X.prog X.w) X.A (f v u) (EP X pins σ Q) X.xe s
def UnR (X : Cx) (f : Value -> Sem Value) (r : V -> Hp -> VK -> Prop) : Prop :=
 ∀ (pins : List (Addr × Obj)) (s : Shared) (σ : St) (H : Hp) (x : V) (v : Value) (Q : VK), Inv X pins σ H s -> RelV x v -> r x H Q ->
  wpAny (model X.prog X.w) X.A (f v) (EP X pins σ Q) X.xe s
def FH (X : Cx) (f : Value) (r : List V -> Hp -> VK -> Prop) : Prop :=
 ∀ (pins : List (Addr × Obj)) (s : Shared) (σ : St) (H : Hp) (xs : List V) (us : List Value) (Q : VK), Inv X pins σ H s -> Vals xs us -> r xs H Q ->
  wpAny (model X.prog X.w) X.A (call f us) (EP X pins σ Q) X.xe s
def tOp (r : R2) (ta tb : TE) : TE := fun σ H Q => ta σ H fun x H1 => tb σ H1 fun y H2 => r x y H2 Q
def tUn (r : V -> Hp -> VK -> Prop) (ta : TE) : TE := fun σ H Q => ta σ H fun x H1 => r x H1 Q
def rI (C : Int -> Int -> Prop) (g : Int -> Int -> V) : R2 := fun x y H Q => ∃ i j, x = .int i /\ y = .int j /\ C i j /\ Q (g i j) H
def rI0 (g : Int -> Int -> V) : R2 := fun x y H Q => ∃ i j, x = .int i /\ y = .int j /\ Q (g i j) H
def rU (g : Int -> V) : V -> Hp -> VK -> Prop := fun x H Q => ∃ i, x = .int i /\ Q (g i) H
section
variable {X : Cx} {a b c : Expr} {ta tb tc : TE} {pos : Pos}
theorem dF (ha : PE X a ta) (hb : PE X b tb) {pins : List (Addr × Obj)} {s : Shared} {σ : St} {H : Hp} {R : V -> V -> Hp -> Prop} (I : Inv X pins σ H s)
  (h : ta σ H fun x H1 => tb σ H1 fun y H2 => R x y H2) {Q : Value -> Shared -> Prop} {f : Value -> Value -> Sem Value}
  (hf : ∀ v u s2 x y H2, Inv X pins σ H2 s2 -> RelV x v -> RelV y u -> R x y H2 -> wpAny (model X.prog X.w) X.A (f v u) Q X.xe s2) :
  wpAny (model X.prog X.w) X.A (eval a X.env) (fun v s₁ => wpAny (model X.prog X.w) X.A (eval b X.env) (fun u s₂ => wpAny (model X.prog X.w) X.A (f v u) Q X.xe s₂) X.xe s₁) X.xe s := by
 refine thn (ha pins s σ H _ I h) fun v s1 ⟨x, H1, I1, r1, q1⟩ => ?_
 refine thn (hb pins s1 σ H1 _ I1 q1) fun u s2 ⟨y, H2, I2, r2, q2⟩ => ?_
 exact hf v u s2 x y H2 I2 r1 r2 q2
theorem dJ {op : Operator} {r : R2} (ho : OpR X (binaryOp op) r) (ha : PE X a ta) (hb : PE X b tb) : PE X (.BinOp a op b pos) (tOp r ta tb) := by
 intro pins s σ H Q I h
 exact wpAny_BinOp (dF ha hb I h fun v u s2 x y H2 I2 rx ry q => ho pins s2 σ H2 x y v u Q I2 rx ry q)
theorem dP {op : UnaryOp} {r : V -> Hp -> VK -> Prop} (ho : UnR X (unaryOp op) r) (ha : PE X a ta) : PE X (.UnaryOp op a pos) (tUn r ta) := by
 intro pins s σ H Q I h
 exact UnaryOp_ (thn (ha pins s σ H _ I h) fun v s1 ⟨x, H1, I1, r1, q1⟩ => ho pins s1 σ H1 x v Q I1 r1 q1)
theorem opI {f : Value -> Value -> Sem Value} {C : Int -> Int -> Prop} {g : Int -> Int -> Int}
  (rule : ∀ (i j : Int) (t u : Tok) (s : Shared) (Q : Value -> Shared -> Prop) (E : Value -> Shared -> Prop), C i j -> Q (.int (g i j) s.toks) { s with toks := s.toks + 1 } -> wpAny (model X.prog X.w) X.A (f (.int i t) (.int j u)) Q E s) :
  OpR X f (rI C fun i j => .int (g i j)) := by
 intro pins s σ H x y v u Q I rx ry h
 obtain ⟨i, j, rfl, rfl, hc, q⟩ := h
 obtain ⟨t, rfl⟩ := rx
 obtain ⟨t', rfl⟩ := ry
 exact rule i j t t' s _ _ hc ⟨.int (g i j), H, I.tok _, ⟨_, rfl⟩, q⟩
theorem fW {f : Value -> Value -> Sem Value} {g : Int -> Int -> Int}
  (rule : ∀ (i j : Int) (t u : Tok) (s : Shared) (Q : Value -> Shared -> Prop) (E : Value -> Shared -> Prop), Q (.int (g i j) s.toks) { s with toks := s.toks + 1 } -> wpAny (model X.prog X.w) X.A (f (.int i t) (.int j u)) Q E s) :
  OpR X f (rI0 fun i j => .int (g i j)) := by
 intro pins s σ H x y v u Q I rx ry h
 obtain ⟨i, j, rfl, rfl, q⟩ := h
 obtain ⟨t, rfl⟩ := rx
 obtain ⟨t', rfl⟩ := ry
 exact rule i j t t' s _ _ ⟨.int (g i j), H, I.tok _, ⟨_, rfl⟩, q⟩
theorem cS {f : Value -> Value -> Sem Value} {g : Int -> Int -> Bool}
  (rule : ∀ (i j : Int) (t u : Tok) (s : Shared) (Q : Value -> Shared -> Prop) (E : Value -> Shared -> Prop), Q (.bool (g i j)) s -> wpAny (model X.prog X.w) X.A (f (.int i t) (.int j u)) Q E s) :
  OpR X f (rI0 fun i j => .bl (g i j)) := by
 intro pins s σ H x y v u Q I rx ry h
 obtain ⟨i, j, rfl, rfl, q⟩ := h
 obtain ⟨t, rfl⟩ := rx
 obtain ⟨t', rfl⟩ := ry
 exact rule i j t t' s _ _ ⟨.bl (g i j), H, I, rfl, q⟩
def gc (i j : Int) : Prop := 0 ≤ j /\ j ≤ 1000000 /\ i.natAbs < 2 ^ 64
def eI (i j : Int) : Prop := (-(2 ^ 64) < i /\ i < 2 ^ 64) ∨ (-(2 ^ 64) < j /\ j < 2 ^ 64)
theorem eI.ok {i j : Int} (h : eI i j) : IntMulOk i j := by
 rcases h with ⟨h1, h2⟩ | ⟨h1, h2⟩
 ·exact .of_left (intBits_le_64 h1 h2)
 ·exact .of_right (intBits_le_64 h1 h2)
theorem aF : OpR X (binaryOp .Add) (rI0 fun i j => .int (i + j)) := fW fun _ _ _ _ _ _ _ q => add_int q
theorem ae : OpR X (binaryOp .Sub) (rI0 fun i j => .int (i - j)) := fW fun _ _ _ _ _ _ _ q => sub_int q
theorem W8 : OpR X (binaryOp .Mult) (rI eI fun i j => .int (i * j)) := opI fun _ _ _ _ _ _ _ hc q => mul_int q hc.ok
theorem Za : OpR X (binaryOp .Mod) (rI (fun _ j => 0 < j) fun i j => .int (i % j)) := opI fun i j _ _ _ _ _ hc q => by
 have h1 : (0 : Int) < j := hc
 exact mod_int' (by omega) (by rw [Int.fmod_eq_emod_of_nonneg i (by omega)]; exact q)
theorem Z5 : OpR X (binaryOp .Pow) (rI gc fun i j => .int (i ^ j.toNat)) := opI fun _ _ _ _ _ _ _ hc q => pow_int_small hc.1 hc.2.1 hc.2.2 q
theorem unI {f : Value -> Sem Value} {g : Int -> Int}
  (rule : ∀ (i : Int) (t : Tok) (s : Shared) (Q : Value -> Shared -> Prop) (E : Value -> Shared -> Prop), Q (.int (g i) s.toks) { s with toks := s.toks + 1 } -> wpAny (model X.prog X.w) X.A (f (.int i t)) Q E s) :
  UnR X f (rU fun i => .int (g i)) := by
 intro pins s σ H x v Q I rx h
 obtain ⟨i, rfl, q⟩ := h
 obtain ⟨t, rfl⟩ := rx
 exact rule i t s _ _ ⟨.int (g i), H, I.tok _, ⟨_, rfl⟩, q⟩
theorem Zv : UnR X (unaryOp .USub) (rU fun i => .int (-i)) := unI fun _ _ _ _ _ q => neg_int q
end
section
variable {X : Cx} {a b c : Expr} {ta tb tc : TE} {pos : Pos}
theorem aw {pins : List (Addr × Obj)} {σ : St} {H : Hp} {s : Shared} {Q : VK} {k k' : Bool} (I : Inv X pins σ H s) (q : Q (.bl k) H) (e : k = k') : EP X pins σ Q (.bool k') s := by
 subst e
 exact ⟨.bl k, H, I, rfl, q⟩
theorem eH : OpR X (compareOp .Lt) (rI0 fun i j => .bl (decide (i < j))) := cS fun _ _ _ _ _ _ _ q => lt_int q
theorem eU : OpR X (compareOp .LtE) (rI0 fun i j => .bl (decide (i ≤ j))) := cS fun _ _ _ _ _ _ _ q => le_int q
theorem dj : OpR X (compareOp .Gt) (rI0 fun i j => .bl (decide (j < i))) := cS fun _ _ _ _ _ _ _ q => gt_int q
theorem fJ : OpR X (compareOp .GtE) (rI0 fun i j => .bl (decide (j ≤ i))) := cS fun _ _ _ _ _ _ _ q => ge_int q
theorem Y3 : OpR X (compareOp .IsNot) (fun x y H Q => y = .non /\ Q (.bl (!decide (x = .non))) H) := by
 intro pins s σ H x y v u Q I rx ry h
 obtain ⟨rfl, q⟩ := h
 cases ry
 refine isnot_none_gen (aw I q ?_)
 cases x <;> first
  | (cases rx; rfl)
  | (obtain ⟨t, rfl⟩ := rx; rfl)
theorem Yt {op : CmpOp} {r : R2} (ho : OpR X (compareOp op) r) (ha : PE X a ta) (hb : PE X b tb) (hm : behindInMarks op b = false) : PE X (.Compare a [op] [b] pos) (tOp r ta tb) := by
 intro pins s σ H Q I h
 exact wpAny_Compare1 (dF ha hb I h fun v u s2 x y H2 I2 rx ry q => ho pins s2 σ H2 x y v u Q I2 rx ry q) hm
def aV (t : TE) : TT := fun σ H Q => t σ H fun x H' => ∃ k, x = .bl k /\ Q k H'
theorem Xy {op : CmpOp} {r : R2} (ho : OpR X (compareOp op) r) (ha : PE X a ta) (hb : PE X b tb) (hm : behindInMarks op b = false) : PT X (.Compare a [op] [b] pos) (aV (tOp r ta tb)) := by
 intro pins s σ H Q I h
 refine wpAny_isTrue_Compare1 (thn (ha pins s σ H _ I h) fun v s1 ⟨x, H1, I1, r1, q1⟩ => thn (hb pins s1 σ H1 _ I1 q1) fun u s2 ⟨y, H2, I2, r2, q2⟩ =>
  thn (ho pins s2 σ H2 x y v u _ I2 r1 r2 q2) fun c s3 ⟨z, H3, I3, r3, k, e, q3⟩ => ?_) hm
 subst e
 cases r3
 exact wpAny_truthy_bool ⟨H3, I3, q3⟩
theorem O4 : (sizeLine : Nat) < 2 ^ 63 := by rw [sizeLine_eq]; decide
theorem RV : OpR X (binaryOp .Add) (fun x y H Q => ∃ i j, x = .str i /\ y = .str j /\ i.length + j.length ≤ sizeLine /\ Q (.str (i ++ j)) H) := by
 intro pins s σ H x y v u Q I rx ry h
 obtain ⟨i, j, rfl, rfl, hz, q⟩ := h
 obtain ⟨t, rfl⟩ := rx
 obtain ⟨t', rfl⟩ := ry
 exact add_str (fun t' tk => ⟨.str (i ++ j), H, I.tok _, ⟨_, rfl⟩, q⟩) hz
theorem vals1 {x : V} {us : List Value} (r : Vals [x] us) : ∃ u, us = [u] /\ RelV x u := by
 cases r with
 | cons r1 r2 => cases r2; exact ⟨_, rfl, r1⟩
theorem vals2 {x y : V} {us : List Value} (r : Vals [x, y] us) : ∃ u w', us = [u, w'] /\ RelV x u /\ RelV y w' := by
  cases r with
  | cons r1 r2 =>
    cases r2 with
    | cons r3 r4 => cases r4; exact ⟨_, _, rfl, r1, r3⟩
theorem Wj : FH X (.builtin "abs") (fun xs H Q => ∃ i, xs = [.int i] /\ Q (.int (if i < 0 then -i else i)) H) := by
 intro pins s σ H xs us Q I r h
 obtain ⟨i, rfl, q⟩ := h
 obtain ⟨u, rfl, t, rfl⟩ := vals1 r
 exact call_abs_int fun u tk => ⟨.int (if i < 0 then -i else i), H, I.tok _, ⟨_, rfl⟩, q⟩
theorem UE (hc : X.calm = true) : FH X (.builtin "max") (fun xs H Q => ∃ i j, xs = [.int i, .int j] /\ Q (.int (if j > i then j else i)) H) := by
 intro pins s σ H xs us Q I r h
 obtain ⟨i, j, rfl, q⟩ := h
 obtain ⟨u, w', rfl, ⟨t, rfl⟩, ⟨t', rfl⟩⟩ := vals2 r
 refine max_two_ints (I.ok.hd hc) fun h' tk k => ⟨_, H, I.kept k, ?_, q⟩
 by_cases hj : j > i
 ·rw [if_pos hj, if_pos hj]; exact ⟨_, rfl⟩
 ·rw [if_neg hj, if_neg hj]; exact ⟨_, rfl⟩
theorem SO (hc : X.calm = true) : FH X (.builtin "min") (fun xs H Q => ∃ i j, xs = [.int i, .int j] /\ Q (.int (if j < i then j else i)) H) := by
 intro pins s σ H xs us Q I r h
 obtain ⟨i, j, rfl, q⟩ := h
 obtain ⟨u, w', rfl, ⟨t, rfl⟩, ⟨t', rfl⟩⟩ := vals2 r
 refine min_two_ints (I.ok.hd hc) fun h' tk k => ⟨_, H, I.kept k, ?_, q⟩
 by_cases hj : j < i
 ·rw [if_pos hj, if_pos hj]; exact ⟨_, rfl⟩
 ·rw [if_neg hj, if_neg hj]; exact ⟨_, rfl⟩
theorem Oa : FH X (.type "int") (fun xs H Q => (∃ i, xs = [.int i] /\ Q (.int i) H) ∨ ∃ k, xs = [.bl k] /\ Q (.int (if k then 1 else 0)) H) := by
 intro pins s σ H xs us Q I r h
 rcases h with ⟨i, rfl, q⟩ | ⟨k, rfl, q⟩
 ·obtain ⟨u, rfl, t, rfl⟩ := vals1 r
  exact call_int_int ⟨.int i, H, I, ⟨_, rfl⟩, q⟩
 ·obtain ⟨u, rfl, r1⟩ := vals1 r
  cases r1
  exact call_int_bool ⟨.int (if k then 1 else 0), H, I.tok _, ⟨_, rfl⟩, q⟩
end
end L2
namespace L2
open PySem PySem.Spec PyProof.Rows
structure eY (h : Heap) (x dx C : Addr) (mA : Str -> Option Value) : Prop where
 obj : h.get? x = some (PySem.W.instObj C dx)
 ns : h.Ns1 dx mA
 ne : dx ≠ x
theorem SK {h : Heap} {dx : Addr} {mA : Str -> Option Value} (n : h.Ns1 dx mA) : ∃ od, h.get? dx = some od /\ ∀ name, PySem.W.lookIn name od = some (mA name) := by
 obtain ⟨o, es, ep, ho, hd, hk, _, hm⟩ := n
 refine ⟨o, ho, fun name => ?_⟩
 have e := hm name
 unfold nsFind findBy at e
 rw [← Array.find?_toList] at e
 unfold PySem.W.lookIn
 rw [hd]
 dsimp only
 split
 ·rename_i y q
  rw [q] at e
  exact congrArg some e
 ·rename_i q
  rw [q] at e
  have a : es.toList.any (·.refKey) = false := by
   rw [List.any_eq_false]
   intro y hy
   obtain ⟨z, t, hkey⟩ := hk y (Array.mem_toList_iff.mp hy)
   simp [DictEntry.refKey, hkey]
  have a' : ¬ es.toList.any (·.refKey) = true := by rw [a]; exact Bool.false_ne_true
  rw [if_neg a']
  exact congrArg some e
theorem eY.look {h : Heap} {x dx C : Addr} {mA : Str -> Option Value} (I : eY h x dx C mA) : ∃ od, PySem.W.InstAt h x (PySem.W.instObj C dx) C (some od) /\ ∀ name, PySem.W.lookIn name od = some (mA name) :=
 let ⟨od, ho, hl⟩ := SK I.ns
 ⟨od, ⟨I.obj, rfl, rfl, ho⟩, hl⟩
section
variable {prog : Program} {w : World} {A : Around} {E : Value -> Shared -> Prop} {s : Shared} {K : PySem.W.Frag} {x dx C f : Addr} {mA : Str -> Option Value} {name : Str} {v : Value}
end
section
variable {P : Program} {w : World} {H H' : Hp} {h h' : Heap} {a C dx : Addr} {fs fs' : List (Str × V)}
theorem YL (hok : HOk P w H h) (e : H a = some (.ins C dx fs)) : ∃ mA, eY h a dx C mA /\ (∀ f, bN (fs.lookup f) (mA f)) /\ PySem.Within mA (fs.map (·.1)) /\ fs.length ≤ 1000 /\ H dx = some (.own a) := by
 obtain ⟨d, z, ne, ob, mA, n, r, q⟩ := (show GJ P w H h a (.ins C dx fs) from hok a _ e)
 exact ⟨mA, ⟨ob, n, ne⟩, r, q, z, d⟩
end
structure Cls (K : PySem.W.Frag) (C : Addr) : Prop where
 pg : PySem.W.plainGet K C Str.empty = true
 hd : PySem.W.hasDictIn K C = true
 po : PySem.W.plainOver K C = true
 sa : PySem.W.findIn K (.ref C) "__setattr__" = some (some (.builtin "object.__setattr__"))
theorem Cls.get {K : PySem.W.Frag} {C : Addr} (c : Cls K C) (f : Str) : PySem.W.plainGet K C f = true := c.pg
structure Con (K : PySem.W.Frag) (C : Addr) (f : Str) (v : V) (u : Value) : Prop where
 at_ : PySem.W.findIn K (.ref C) f = some (some u)
 rel : RelV v u
 get : PySem.W.specialIn K u "__get__" = some none
 cp : PySem.W.copiedNames.contains f = false
structure Meth (K : PySem.W.Frag) (C : Addr) (m : Str) (f : Addr) : Prop where
 at_ : PySem.W.findIn K (.ref C) m = some (some (.ref f))
 fn : PySem.W.isFn K (.ref f) = true
 kp : PySem.W.keepIn K (.ref f) = true
section
variable {X : Cx} {pins : List (Addr × Obj)} {σ : St} {H : Hp} {s : Shared} {a C dx : Addr} {fs : List (Str × V)} {f : Str} {v : V} {A : Around} {E : Value -> Shared -> Prop}
end
section
variable {X : Cx} {o e value : Expr} {f : Str} {pos pos' tpos : Pos} {ta tv : TE}
end
section
variable {X : Cx} {pins : List (Addr × Obj)} {σ : St} {H : Hp} {s : Shared} {A : Around} {E : Value -> Shared -> Prop} {Q : Value -> Shared -> Prop} {c : Value} {b : Bool}
inductive R9 (K : PySem.W.Frag) (H : Hp) : V -> Value -> Prop where
 | non : R9 K H .non (.type "NoneType")
 | bl (x : Bool) : R9 K H (.bl x) (.type "bool")
 | int (i : Int) : R9 K H (.int i) (.type "int")
 | str (x : Str) : R9 K H (.str x) (.type "str")
 | flt (x : UInt64) : R9 K H (.flt x) (.type "float")
 | lst {a : Addr} {xs : List V} (e : H a = some (.lst xs)) : R9 K H (.ref a) (.type "list")
 | frz {a : Addr} {o : Obj} {xs : List V} (e : H a = some (.frz o (.lst xs))) : R9 K H (.ref a) (.type "list")
 | tup {a : Addr} {xs : List V} (e : H a = some (.tup xs)) : R9 K H (.ref a) (.type "tuple")
 | dK {a : Addr} {kvs : List (Key × V)} (e : H a = some (.dK kvs)) : R9 K H (.ref a) (.type "dict")
 | dT {a : Addr} {kvs : List (List Key × V)} (e : H a = some (.dT kvs)) : R9 K H (.ref a) (.type "dict")
 | ins {a C dx : Addr} {fs : List (Str × V)} (e : H a = some (.ins C dx fs)) (cl : Cls K C) (ha : PySem.W.findIn K (.ref C) "__class__" = some (some (.builtin "object.__class__")))
   (hn : PySem.W.specialIn K (.builtin "object.__class__") "__get__" = some (some (.builtin "getset_descriptor.__get__"))) (htk : PySem.W.takesIn K (.builtin "object.__class__") = some true)
   (hm : PySem.W.mroIn K C (.type "object") = some true) : R9 K H (.ref a) (.ref C)
theorem Fd {x : V} {u t : Value} (I : Inv X pins σ H s) (rx : RelV x u) (ty : R9 X.K H x t) (e : PySem.W.kitOne X.K t c = some b) (h : ∀ tk, Q (.bool b) { s with toks := tk }) :
    wpAny (model X.prog X.w) A (call (.builtin "isinstance") [u, c]) Q E s := by
  cases ty with
  | non => cases (show u = Value.none from rx); exact PySem.W.kia_one PySem.W.kitx_none I.kIn True.intro e (fun z => nomatch z) h
  | bl y => cases (show u = Value.bool y from rx); exact PySem.W.kia_one PySem.W.kitx_bool I.kIn True.intro e (fun z => nomatch z) h
  | int i => obtain ⟨t, q⟩ := (show ∃ t, u = Value.int i t from rx); cases q; exact PySem.W.kia_one PySem.W.kitx_int I.kIn True.intro e (fun z => nomatch z) h
  | str y => obtain ⟨t, q⟩ := (show ∃ t, u = Value.str y t from rx); cases q; exact PySem.W.kia_one PySem.W.kitx_str I.kIn True.intro e (fun z => nomatch z) h
  | flt y => obtain ⟨t, q⟩ := (show ∃ t, u = Value.float y t from rx); cases q; exact PySem.W.kia_one PySem.W.kitx_float I.kIn True.intro e (fun z => nomatch z) h
  | @lst a xs ea =>
    cases (show u = Value.ref a from rx)
    obtain ⟨_, _, n, _, h1⟩ := (show GJ X.prog X.w H s.heap a (.lst xs) from I.hok a _ ea)
    exact PySem.W.kia_one PySem.W.kitx_list I.kIn ⟨_, h1, rfl⟩ e (fun z => nomatch z) h
  | @frz a ob xs ea =>
    cases (show u = Value.ref a from rx)
    obtain ⟨_, _, _, n, _, h1⟩ := (show GJ X.prog X.w H s.heap a (.frz ob (.lst xs)) from I.hok a _ ea)
    exact PySem.W.kia_one PySem.W.kitx_list I.kIn ⟨_, h1, rfl⟩ e (fun z => nomatch z) h
  | @tup a xs ea =>
    cases (show u = Value.ref a from rx)
    obtain ⟨_, _, _, p⟩ := (show GJ X.prog X.w H s.heap a (.tup xs) from I.hok a _ ea)
    obtain ⟨o, h1, h2, _⟩ := p
    exact PySem.W.kia_one PySem.W.kitx_tuple I.kIn ⟨o, h1, h2⟩ e (fun z => nomatch z) h
  | @dK a kvs ea =>
    cases (show u = Value.ref a from rx)
    obtain ⟨_, _, vs, _, p⟩ := (show GJ X.prog X.w H s.heap a (.dK kvs) from I.hok a _ ea)
    obtain ⟨o, es, ep, h1, h2, _⟩ := p
    exact PySem.W.kia_one PySem.W.kitx_dict I.kIn ⟨o, h1, h2.1⟩ e (fun z => nomatch z) h
  | @dT a kvs ea =>
    cases (show u = Value.ref a from rx)
    obtain ⟨_, _, xs, _, o, es, ep, h1, h2, _⟩ := (show GJ X.prog X.w H s.heap a (.dT kvs) from I.hok a _ ea)
    exact PySem.W.kia_one PySem.W.kitx_dict I.kIn ⟨o, h1, h2.1⟩ e (fun z => nomatch z) h
  | @ins a C dx fs ea cl ha hn htk hm =>
    cases (show u = Value.ref a from rx)
    obtain ⟨mA, O, _⟩ := YL I.hok ea
    obtain ⟨od, J, _⟩ := O.look
    exact PySem.W.kia_one (PySem.W.kitx_own (cl.get _) cl.hd ha hn htk hm) I.kIn J e (fun z => nomatch z) h
end
end L2
namespace L2
open PySem PySem.Spec PyProof.Rows
structure NL (k : Nat) (A : Around) : Prop where
 hd : A.handled = none
 dp : A.depth + 3 * k + 5 < recursionLimit
 un : A.units + 16 * k + 200 < cLine
theorem NL.mono {j k : Nat} {A : Around} (r : NL k A) (h : j ≤ k) : NL j A := ⟨r.hd, by have := r.dp; omega, by have := r.un; omega⟩
theorem NL.deeper {k : Nat} {A : Around} (r : NL (k + 1) A) (env : Env) : NL k (A.deeper env) :=
 ⟨r.hd, by have := r.dp; show A.depth + 1 + 3 * k + 5 < _; omega, by have := r.un; show A.units + 3 + 16 * k + 200 < _; omega⟩
theorem NL.depth {k : Nat} {A : Around} (r : NL k A) : A.depth < recursionLimit := by have := r.dp; omega
def gO : TA := fun _ H Q => Q [] H
def Zz (ta : TE) (tr : TA) : TA := fun σ H Q => ta σ H fun x H1 => tr σ H1 fun xs H2 => Q (x :: xs) H2
section
variable {X : Cx} {e : Expr} {es : List Expr} {te : TE} {t : TA} {pos : Pos}
theorem TY : PA X [] gO := fun _ _ _ _ H Q I h => Calls.spliced_nil ⟨[], H, I, .nil, h⟩
theorem OD (ha : PE X e te) (hr : PA X es t) (hs : starEach (e :: es) X.env = (false, eval e X.env) :: starEach es X.env := by rfl) : PA X (e :: es) (Zz te t) := by
 intro pos pins s σ H Q I h
 rw [hs]
 show wpAny _ _ (spliced ((false, eval e X.env) :: backTo pos (starEach es X.env))) _ _ s
 refine Calls.spliced_cons (thn (ha pins s σ H _ I h) fun u s1 ⟨x, H1, I1, r1, q1⟩ => ?_)
 exact thn (hr pos pins s1 σ H1 _ I1 q1) fun us s2 ⟨xs, H2, I2, r2, q2⟩ => ⟨x :: xs, H2, I2, .cons r1 r2, q2⟩
def iN (t : TA) : TE := fun σ H Q => t σ H fun xs H1 => xs.length ≤ sizeLine /\ ∀ p, H1 p = none -> Q (.ref p) (upd H1 p (.tup xs))
def iL (t : TA) : TE := fun σ H Q => t σ H fun xs H1 => xs.length ≤ sizeLine /\ ∀ p, H1 p = none -> Q (.ref p) (upd H1 p (.lst xs))
theorem Zj {x1} (h : PA X es t) : PE X (.Tuple es x1 pos) (iN t) := by
 intro pins s σ H Q I hq
 refine wpAny_Tuple_spliced (thn (h pos pins s σ H _ I hq) fun us s1 ⟨xs, H1, I1, r, z, q⟩ => ⟨by rw [← r.length]; exact z, ?_⟩)
 have hf : H1 s1.heap.objs.size = none := I1.hok.fresh (Nat.le_refl _)
 refine ⟨.ref s1.heap.objs.size, upd H1 s1.heap.objs.size (.tup xs), I1.laid (t' := s1.toks) (fun b u e => Heap.get?_push_of_some _ e) (Nat.le_refl _) ?_, rfl, q _ hf⟩
 exact ⟨z, us, r, ⟨_, Heap.get?_push_size _ rfl, rfl, _, rfl⟩⟩
theorem aJ (h : PA X es t) : PE X (.List es pos) (iL t) := by
 intro pins s σ H Q I hq
 refine wpAny_List_spliced (thn (h pos pins s σ H _ I hq) fun us s1 ⟨xs, H1, I1, r, z, q⟩ => ⟨by rw [← r.length]; exact z, ?_⟩)
 have hf : H1 s1.heap.objs.size = none := I1.hok.fresh (Nat.le_refl _)
 refine ⟨.ref s1.heap.objs.size, upd H1 s1.heap.objs.size (.lst xs), I1.laid (t' := s1.toks) (fun b u e => Heap.get?_push_of_some _ e) (Nat.le_refl _) ?_, rfl, q _ hf⟩
 exact ⟨z, us, 0, r, Heap.get?_push_size _ rfl⟩
end
abbrev Sp := List V -> Hp -> VK -> XK -> Prop
abbrev CXT := List Env -> Hp -> Shared -> XK -> Value -> Shared -> Prop
structure bf (P : Program) (w : World) (K : PySem.W.Frag) (mg : Str -> Option Value) (base : Heap) (A : Around) (outer : List Env) (s : Shared) (H : Hp) : Prop where
 frames : A.frames = some outer
 mod : Mod K mg base
 bs : ∀ b o, base.get? b = some o -> s.heap.get? b = some o /\ H b = none
 bsz : base.objs.size ≤ s.heap.objs.size
 funs : s.heap.FunFrames base outer
 frf : ∀ b ∈ frs outer, H b = none
 hok : HOk P w H s.heap
 bare : AllBare s.gens
def CE (outer : List Env) (P : Program) (w : World) (H : Hp) (s : Shared) (Q : VK) (u : Value) (s' : Shared) : Prop :=
 ∃ v H', s'.os = s.os /\ AllBare s'.gens /\ Un (frs outer) [] H H' s.heap s'.heap /\ HOk P w H' s'.heap /\ RelV v u /\ Q v H'
def CR (CX : CXT) (outer : List Env) (P : Program) (w : World) (H : Hp) (s : Shared) (Q : VK) (E : XK) (r : Result) (s' : Shared) : Prop :=
 match r with
 | .ok (.ret u) => CE outer P w H s Q u s'
 | .ok _ => False
 | .error e => CX outer H s E e s'
structure PU (P : Program) (w : World) (K : PySem.W.Frag) (mg : Str -> Option Value) (base : Heap) (CX : CXT) (k : Nat) (f : Addr) (fd : FuncData) (ps : List Str) (sp : Sp) : Prop where
 len : ∀ vs H Q E, sp vs H Q E -> vs.length = ps.length
 run : ∀ (A : Around) (outer : List Env) (s : Shared) (H : Hp) (args : Args) (us : List Value) (vs : List V) (Q : VK) (E : XK), NL k A -> bf P w K mg base A outer s H -> BindsTo s fd args (ps.zip us) -> Vals vs us -> sp vs H Q E ->
  codeAny (model P w) A (.call (.ref f) args) (CR CX outer P w H s Q E) s
theorem PU.imp {P : Program} {w : World} {K : PySem.W.Frag} {mg : Str -> Option Value} {base : Heap} {CX : CXT} {k : Nat} {f : Addr} {fd : FuncData} {ps : List Str} {sp sp' : Sp} (F : PU P w K mg base CX k f fd ps sp)
  (h : ∀ vs H Q E, sp' vs H Q E -> sp vs H Q E) : PU P w K mg base CX k f fd ps sp' :=
 ⟨fun vs H Q E q => F.len vs H Q E (h _ _ _ _ q), fun A outer s H args us vs Q E hr he hb hv hs => F.run A outer s H args us vs Q E hr he hb hv (h _ _ _ _ hs)⟩
section
variable {X : Cx} {pins : List (Addr × Obj)} {σ : St} {H : Hp} {s s' : Shared}
theorem Inv.env0 (I : Inv X pins σ H s) : bf X.prog X.w X.K X.mg X.base X.A X.stack s H :=
 ⟨I.ok.frames, I.ok.mod, I.bs, Nat.le_trans I.ok.bsz I.sz, I.stack, I.stkFree, I.hok, I.bare⟩
theorem Inv.after {Q : VK} {u : Value} (I : Inv X pins σ H s) (h : CE X.stack X.prog X.w H s Q u s') : EP X pins σ Q u s' := by
 obtain ⟨v, H', os, bare, un, hok, r, q⟩ := h
 obtain ⟨hh, g, d, t, os'⟩ := s'
 obtain rfl : os' = s.os := os
 exact ⟨v, H', I.call (h' := hh) (g' := g) (d' := d) (t' := t) (ch := []) un hok bare (fun b z => absurd z (by simp)), r, q⟩
end
def YC (sp : Sp) (dvs : List V) (E : XK) (t : TA) : TE := fun σ H Q => t σ H fun vs H1 => sp (vs ++ dvs) H1 Q E
def Binds (K : PySem.W.Frag) (fd : FuncData) (ps : List Str) (ds : List Value) : Prop :=
 ∀ (s : Shared) (us : List Value), K.In s.heap -> (us ++ ds).length = ps.length -> BindsTo s fd ⟨us, []⟩ (ps.zip (us ++ ds))
theorem Binds.all {K : PySem.W.Frag} {fd : FuncData} {ps : List Str} (h : ∀ us : List Value, us.length = ps.length -> bindArgs fd ⟨us, []⟩ = pure (ps.zip us)) : Binds K fd ps [] := fun s us _ hl => by
 rw [List.append_nil] at hl ⊢
 exact .of_eq (h us hl)
def Passes (CX : CXT) (X : Cx) (E : XK) : Prop := ∀ (pins : List (Addr × Obj)) (σ : St) (H : Hp) (s : Shared) (e : Value) (s' : Shared), Inv X pins σ H s -> CX X.stack H s E e s' -> X.xe e s'
section
variable {X : Cx} {CX : CXT} {k : Nat} {f C : Addr} {fd : FuncData} {ps : List Str} {sp : Sp} {dvs : List V} {ds : List Value} {E : XK} {x m : Str} {p pos apos : Pos} {e o : Expr} {es : List Expr} {ta : TE} {t : TA}
theorem aZ {pins : List (Addr × Obj)} {σ : St} {H : Hp} {s : Shared} {Q : VK} {us : List Value} {vs : List V} (F : PU X.prog X.w X.K X.mg X.base CX k f fd ps sp) (hr : NL k X.A) (hb : Binds X.K fd ps ds) (hd : Vals dvs ds) (hx : Passes CX X E)
    (I : Inv X pins σ H s) (r : Vals vs us) (h : sp (vs ++ dvs) H Q E) : wpAny (model X.prog X.w) X.A (call (.ref f) us) (EP X pins σ Q) X.xe s := by
  have r2 : Vals (vs ++ dvs) (us ++ ds) := r.append hd
  have hl : (us ++ ds).length = ps.length := by rw [← r2.length]; exact F.len _ _ _ _ h
  refine wpAny_call (codeAny_mono (F.run X.A X.stack s H ⟨us, []⟩ (us ++ ds) (vs ++ dvs) Q E hr I.env0 (hb s us I.kIn hl) r2 h) fun r s' hq => ?_)
  cases r with
  | error e => exact hx pins σ H s e s' I hq
  | ok fl =>
    cases fl with
    | ret u => exact I.after hq
    | next => exact False.elim hq
    | brk => exact False.elim hq
    | cont => exact False.elim hq
theorem YZ (F : PU X.prog X.w X.K X.mg X.base CX k f fd ps sp) (hr : NL k X.A) (hg : Gl X x) (hm : X.mg x = some (.ref f)) (hk : PySem.W.keepIn X.K (.ref f) = true) (hb : Binds X.K fd ps ds) (hd : Vals dvs ds) (hx : Passes CX X E)
  (ha : PA X (e :: es) t) (hdb : (x == ("__debug__" : Str)) = false := by decide) (he : starEach (e :: es) X.env = (false, eval e X.env) :: starEach es X.env := by rfl) (hpl : (backTo pos (starEach es X.env)).any (·.1) = false := by rfl) :
  PE X (.Call (.Name x p) (e :: es) [] pos) (YC sp dvs E t) := by
 intro pins s σ H Q I h
 refine wpAny_Call_Name_kw (TQ I hg hm ?_ hdb)
 refine PySem.W.callWith_K (h₀ := X.base) I.ok.mod.kin hk (thn (ha pos pins s σ H _ I h) fun us s1 ⟨vs, H1, I1, r, q⟩ => ⟨I1.kIn, ?_⟩) he hpl
 exact aZ F hr hb hd hx I1 r q
structure Mk (K : PySem.W.Frag) (C f : Addr) : Prop where
 makes : PySem.W.makesIn K C = true
 init : PySem.W.findIn K (.ref C) "__init__" = some (some (.ref f))
 fn : PySem.W.isFn K (.ref f) = true
 kp : PySem.W.keepIn K (.ref C) = true
end
section
variable {X : Cx} {CX : CXT} {k : Nat} {f C : Addr} {fd : FuncData} {ps ks : List Str} {sp : Sp} {E : XK} {x m : Str} {p pos apos kpos : Pos} {e o : Expr} {es : List Expr} {kws : List Keyword} {te ta : TE} {t tk : TA} {nm : Option Str}
structure gI (K : PySem.W.Frag) (fd : FuncData) (ps ks : List Str) (g : List Value -> List Value -> List Value) (gV : List V -> List V -> List V) : Prop where
 to : ∀ (s : Shared) (us ws : List Value), K.In s.heap -> (g us ws).length = ps.length -> BindsTo s fd ⟨us, ks.zip ws⟩ (ps.zip (g us ws))
 rel : ∀ {vs : List V} {us : List Value} {zs : List V} {ws : List Value}, Vals vs us -> Vals zs ws -> Vals (gV vs zs) (g us ws)
variable {g : List Value -> List Value -> List Value} {gV : List V -> List V -> List V}
end
structure AQ (N P : List Str) (sc : Scope) : Prop where
 kind : sc.kind = .function
 co : sc.isCoroutine = false
 gen : sc.isGenerator = false
 nd : N.Nodup
 pre : N.take P.length = P
 par : ∀ x ∈ P, sc.names.lookup x = some .local ∨ sc.names.lookup x = some .cell
 nofree : ∀ y ∈ sc.names, y.2 ≠ .free
theorem PV {kindOf : Str -> Option NameKind} {x : Str} : ∀ {binds : List (Str × Value)} {m : Str -> Option Value}, (∀ v, (x, v) ∉ binds) -> bindL kindOf binds m x = m x
  | [], _, _ => rfl
  | (n, v) :: r, m, h => by
    unfold bindL
    rw [PV fun w hw => h w (List.mem_cons_of_mem _ hw)]
    split
    · have : x ≠ n := by rintro rfl; exact h v List.mem_cons_self
      simp [this]
    · rfl
theorem PN {kindOf : Str -> Option NameKind} {x : Str} : ∀ {binds : List (Str × Value)} {m : Str -> Option Value}, (∀ v, (x, v) ∉ binds) -> bindC kindOf binds m x = m x
  | [], _, _ => rfl
  | (n, v) :: r, m, h => by
    unfold bindC
    rw [PN fun w hw => h w (List.mem_cons_of_mem _ hw)]
    split
    · rfl
    · have : x ≠ n := by rintro rfl; exact h v List.mem_cons_self
      simp [this]
theorem Pe {kindOf : Str -> Option NameKind} {x : Str} {v : Value} : ∀ {P : List Str} {vs : List Value} {i : Nat} {m : Str -> Option Value}, P.Nodup -> P[i]? = some x -> vs[i]? = some v -> kindOf x = some .local ->
    bindL kindOf (P.zip vs) m x = some v
  | [], _, _, _, _, h, _, _ => by simp at h
  | _ :: _, [], _, _, _, _, h, _ => by simp at h
  | p :: P, w :: vs, 0, m, nd, h1, h2, hk => by
    simp at h1 h2; subst h1; subst h2
    show bindL kindOf ((p, w) :: P.zip vs) m p = _
    unfold bindL
    rw [PV fun v hv => (List.nodup_cons.mp nd).1 (List.of_mem_zip hv).1, if_pos hk]
    simp
  | p :: P, w :: vs, i + 1, m, nd, h1, h2, hk => by
    show bindL kindOf ((p, w) :: P.zip vs) m x = _
    unfold bindL
    exact Pe (i := i) (List.nodup_cons.mp nd).2 (by simpa using h1) (by simpa using h2) hk
theorem O8 {kindOf : Str -> Option NameKind} {x : Str} {v : Value} : ∀ {P : List Str} {vs : List Value} {i : Nat} {m : Str -> Option Value}, P.Nodup -> P[i]? = some x -> vs[i]? = some v -> kindOf x ≠ some .local ->
    bindC kindOf (P.zip vs) m x = some v
  | [], _, _, _, _, h, _, _ => by simp at h
  | _ :: _, [], _, _, _, _, h, _ => by simp at h
  | p :: P, w :: vs, 0, m, nd, h1, h2, hk => by
    simp at h1 h2; subst h1; subst h2
    show bindC kindOf ((p, w) :: P.zip vs) m p = _
    unfold bindC
    rw [PN fun v hv => (List.nodup_cons.mp nd).1 (List.of_mem_zip hv).1, if_neg hk]
    simp
  | p :: P, w :: vs, i + 1, m, nd, h1, h2, hk => by
    show bindC kindOf ((p, w) :: P.zip vs) m x = _
    unfold bindC
    exact O8 (i := i) (List.nodup_cons.mp nd).2 (by simpa using h1) (by simpa using h2) hk
def start (N : List Str) (vs : List V) : St := vs.map some ++ List.replicate (N.length - vs.length) none
def XY (CX : CXT) (P : Program) (w : World) (K : PySem.W.Frag) (mg : Str -> Option Value) (base : Heap) (N : List Str) (qual : Str) (scope : Scope) (f : Addr) (cd : Value) (A : Around) (outer : List Env) (s : Shared) (H : Hp) (E : XK) : Cx where
 prog := P
 w := w
 K := K
 mg := mg
 base := base
 A := A.deeper (envOfC qual scope s.heap.objs.size f cd)
 N := N
 s₀ := s
 H₀ := H
 env := envOfC qual scope s.heap.objs.size f cd
 outer := outer
 stack := envOfC qual scope s.heap.objs.size f cd :: outer
 ex := []
 calm := true
 fn := fun _ => true
 pn := []
 xe := fun e s' => wpAny (model P w) (A.deeper (envOfC qual scope s.heap.objs.size f cd)) (leaving (envOfC qual scope s.heap.objs.size f cd) e) (fun _ s'' => CX outer H s E e s'') (fun e' s'' => CX outer H s E e' s'') s'
theorem LL {sc : Scope} {n : Nat} {x : Str} (h : sc.names.lookup x = some .cell) : ∃ c, (cellsFrom n sc.names []).lookup x = some c := by
 have q := PySem.W.cellsFrom_some sc.names n [] (.inl h)
 exact Option.isSome_iff_exists.mp q
theorem Ss {CX : CXT} {P : Program} {w : World} {K : PySem.W.Frag} {mg : Str -> Option Value} {base : Heap} {N ps : List Str} {qual : Str} {scope : Scope} {f : Addr} {cd : Value} {A : Around} {outer : List Env} {s s1 : Shared} {H : Hp} {E : XK} {us : List Value} {vs : List V}
  (S : AQ N ps scope) (hd : A.handled = none) (e0 : bf P w K mg base A outer s H) (hl : vs.length = ps.length) (r : Vals vs us)
  (x : InCallC s s.heap.objs.size (bindL (envOfC qual scope s.heap.objs.size f cd).kindOf (ps.zip us) fun _ => none) (cellsFrom (s.heap.objs.size + 1) scope.names []) (bindC (envOfC qual scope s.heap.objs.size f cd).kindOf (ps.zip us) fun _ => none) s1) :
  Inv (XY CX P w K mg base N qual scope f cd A outer s H E) [] (start N vs) H s1 := by
 have hpl : ps.length ≤ N.length := by have := congrArg List.length S.pre; rw [List.length_take] at this; omega
 obtain ⟨h1, tk, rfl, hk⟩ := x.done
 have noA : ∀ b : Addr, b ∉ (XY CX P w K mg base N qual scope f cd A outer s H E).ex := fun b z => absurd (show b ∈ ([] : List Addr) from z) (by simp)
 refine ⟨⟨e0.mod, S.kind, rfl, rfl, Nat.le_refl _, fun y z c h1 h2 => ?_, fun y hy => ?_, fun y c _ h => ?_, fun _ => hd, Around.frames_deeper e0.frames, .inr ⟨rfl, rfl⟩, fun b z => absurd z (noA b), e0.bs, e0.bsz, fun b _ _ => noA b, fun b z => absurd z (noA b), e0.funs, e0.frf⟩,
  rfl, e0.bare, Un.kept hk, ⟨_, x.toInCall.ns, fun i y v h1 h2 h3 => ?_⟩, fun y c h => ⟨_, x.cell y c h⟩, e0.hok.fresh (Nat.le_refl _), fun y c h => ?_, fun p hp => absurd (show p ∈ ([] : List (Addr × Obj)) from hp) (by simp), e0.hok.kept hk, ?_⟩
 ·exact name_of_addr x.apart (PySem.mem_of_lookup h1) (PySem.mem_of_lookup h2)
 ·have hy : scope.names.lookup y = some .cell ∨ scope.names.lookup y = some .free := hy
  rcases hy with hy | hy
  ·exact LL hy
  ·exact absurd rfl (S.nofree _ (PySem.mem_of_lookup hy))
 ·exact Nat.le_of_lt (x.above y c (PySem.mem_of_lookup h))
 ·have hi : i < vs.length := by
   unfold start at h2
   by_cases hi : i < vs.length
   ·exact hi
   ·rw [List.getElem?_append_right (by simpa using hi)] at h2
    rw [List.getElem?_replicate] at h2
    split at h2 <;> cases h2
  have ha : vs[i]? = some v := by
   unfold start at h2
   rw [List.getElem?_append_left (by simpa using hi), List.getElem?_map] at h2
   cases e : vs[i]? with
   | none => rw [e] at h2; cases h2
   | some a => rw [e] at h2; cases h2; rfl
  obtain ⟨u, hu, rv⟩ := r.get ha
  have hp : ps[i]? = some y := by
   rw [← S.pre, List.getElem?_take_of_lt (by omega)]; exact h1
  have ndP : ps.Nodup := by rw [← S.pre]; exact S.nd.sublist (List.take_sublist _ _)
  refine ⟨u, rv, ?_⟩
  rcases S.par y (List.mem_of_getElem? hp) with k | k
  ·exact .inl ⟨k, Pe ndP hp hu k⟩
  ·obtain ⟨c, e⟩ := LL (n := s.heap.objs.size + 1) k
   refine .inr ⟨.inl k, c, e, ?_⟩
   have q := x.cell y c e
   rw [O8 ndP hp hu (by show scope.names.lookup y ≠ _; rw [k]; decide)] at q
   exact q
 ·exact e0.hok.fresh (Nat.le_of_lt (x.above y c (PySem.mem_of_lookup h)))
 ·unfold start
  show _ = N.length
  rw [List.length_append, List.length_map, List.length_replicate]
  omega
theorem fI {CX : CXT} {P : Program} {w : World} {K : PySem.W.Frag} {mg : Str -> Option Value} {base : Heap} {k : Nat} {f : Addr} {name qual : Str} {params : Arguments} {body : List Stmt} {scope : Scope} {dV kV doc pm cdv ct oc : Value} {an od : Option Addr}
    {osl : Array (Option Value)} {N ps : List Str} {sp : Sp} (lk : K.lookup f = some ⟨oc, od, .func (PySem.W.fnOf name qual params body scope dV kV doc pm an cdv ct), osl⟩) (hcd : PySem.W.codeIn K cdv qual = true) (S : AQ N ps scope)
    (len : ∀ vs H Q E, sp vs H Q E -> vs.length = ps.length)
    (hbody : ∀ (A : Around) (outer : List Env) (s : Shared) (H : Hp) (vs : List V) (Q : VK) (E : XK), NL k (A.deeper (envOfC qual scope s.heap.objs.size f cdv)) -> sp vs H Q E ->
      ∃ t, PSs (XY CX P w K mg base N qual scope f cdv A outer s H E) body t /\ t { nx := fun _ H' => Q .non H', rt := Q } (start N vs) H) :
    PU P w K mg base CX (k + 1) f (PySem.W.fnOf name qual params body scope dV kV doc pm an cdv ct) ps sp := by
  refine ⟨len, fun A outer s H args us vs Q E hr e0 hb r hsp => ?_⟩
  have hl := len _ _ _ _ hsp
  have KX : K.In s.heap := e0.mod.kin.keeps fun b o e => (e0.bs b o e).1
  have lim : s.heap.NoLimit := e0.mod.nolimit.keeps fun b o e => (e0.bs b o e).1
  have hkind : ∀ y ∈ ps.zip us, scope.names.lookup y.1 = some .local ∨ (scope.names.lookup y.1 = some .cell /\ ((cellsFrom (s.heap.objs.size + 1) scope.names []).lookup y.1).isSome = true) := fun ⟨n, v⟩ hy => by
    rcases S.par n (List.of_mem_zip hy).1 with q | q
    · exact .inl q
    · exact .inr ⟨q, PySem.W.cellsFrom_some _ _ _ (.inl q)⟩
  refine codeAny_call_function hr.depth (KX _ _ lk) rfl S.co S.gen rfl (PySem.W.codeRec_of KX hcd) (hb _ _ _ _ ?_)
  refine wpAny_newFunctionEnv_cells S.kind hkind fun env he s1 x => ?_
  subst he
  refine ⟨lim.keeps x.toInCall.keep, codeAny_func ?_⟩
  obtain ⟨t, ht, hq⟩ := hbody A outer s H vs Q E (hr.deeper _) hsp
  have I : Inv (XY CX P w K mg base N qual scope f cdv A outer s H E) [] (start N vs) H s1 := Ss S hr.hd e0 hl r x
  refine wpAny_mono (ht [] s1 (start N vs) H _ I hq) (fun fl s' hs => ?_) fun e s' hs => hs
  have fin : ∀ {σ' : St} {H' : Hp} {v : V} {u : Value}, Inv (XY CX P w K mg base N qual scope f cdv A outer s H E) [] σ' H' s' -> RelV v u -> Q v H' -> CE outer P w H s Q u s' :=
    fun {σ' H' v u} J rv q => ⟨v, H', J.os, J.bare, J.base, J.hok, rv, q⟩
  cases fl with
  | ret u =>
    obtain ⟨v, σ', H', J, rv, q⟩ := hs
    exact fin J rv q
  | next =>
    obtain ⟨σ', H', J, q⟩ := hs
    exact fin (v := V.non) (u := Value.none) J rfl q
  | brk =>
    obtain ⟨_, _, _, q⟩ := hs
    exact False.elim q
  | cont =>
    obtain ⟨_, _, _, q⟩ := hs
    exact False.elim q
end L2
namespace L2
open PySem PySem.Spec PyProof.Rows
section
variable {X : Cx} {x : Str} {p pos : Pos} {e : Expr} {es : List Expr} {t : TA} {id T : String} {r : List V -> Hp -> VK -> Prop}
def tCB (r : List V -> Hp -> VK -> Prop) (t : TA) : TE := fun σ H Q => t σ H fun vs H1 => r vs H1 Q
theorem Wd (hc : FH X (.builtin id) r) (hg : Gl X x) (hm : X.mg x = none) (hv : bootBuiltins x = some (.builtin id)) (ha : PA X (e :: es) t) (hn : x ≠ "__name__" := by decide) (hdb : (x == ("__debug__" : Str)) = false := by decide)
  (he : starEach (e :: es) X.env = (false, eval e X.env) :: starEach es X.env := by rfl) (hpl : (backTo pos (starEach es X.env)).any (·.1) = false := by rfl) : PE X (.Call (.Name x p) (e :: es) [] pos) (tCB r t) := by
 intro pins s σ H Q I h
 refine wpAny_Call_Name_kw (Kv I hg hm hv ?_ hn hdb)
 exact PyProof.Rows.callWith_builtin1 (thn (ha pos pins s σ H _ I h) fun us s1 ⟨vs, H1, I1, r1, q1⟩ => hc pins s1 σ H1 vs us Q I1 r1 q1) he hpl
theorem Uc (hc : FH X (.type T) r) (hg : Gl X x) (hm : X.mg x = none) (hv : bootBuiltins x = some (.type T)) (ha : PA X (e :: es) t) (hn : x ≠ "__name__" := by decide) (hdb : (x == ("__debug__" : Str)) = false := by decide)
  (he : starEach (e :: es) X.env = (false, eval e X.env) :: starEach es X.env := by rfl) (hpl : (backTo pos (starEach es X.env)).any (·.1) = false := by rfl) : PE X (.Call (.Name x p) (e :: es) [] pos) (tCB r t) := by
 intro pins s σ H Q I h
 refine wpAny_Call_Name_kw (Kv I hg hm hv ?_ hn hdb)
 exact PyProof.Rows.callWith_type1 (thn (ha pos pins s σ H _ I h) fun us s1 ⟨vs, H1, I1, r1, q1⟩ => hc pins s1 σ H1 vs us Q I1 r1 q1) he hpl
end
end L2
namespace HT
open PySem PyProof.Rows
section
open PySem.SeqAt
open PySem.AutoSeq1 (wpAny_loadPart')
open PySem.MeetsSeq PySem.MeetsSeq2 PySem.MeetsSeq3
end
section
variable {prog : Program} {w : World} {A : Around} {E : Value -> Shared -> Prop} {s : Shared}
theorem YF {t b : Addr} {vs ws : List Value} {Q : Value -> Shared -> Prop} (ht : IsTup s.heap t vs.toArray) (hb : IsTup s.heap b ws.toArray) (hv : vs ≠ [])
  (h1 : ws = [] -> Q (.ref t) s) (h2 : ws ≠ [] -> Q (.ref s.heap.objs.size) { s with heap := s.heap.push { cls := .type "tuple", data := .seq (vs ++ ws).toArray } })
  (hsz : vs.length + ws.length ≤ sizeLine) : wpAny (model prog w) A (binaryOp .Add (.ref t) (.ref b)) Q E s := by
 obtain ⟨⟨cls, dd, data, sl⟩, ho, hc, n, hd⟩ := id ht
 obtain ⟨⟨cls2, dd2, data2, sl2⟩, ho2, hc2, n2, hd2⟩ := id hb
 simp only at hc hd hc2 hd2
 subst hc hd hc2 hd2
 have e : vs.toArray ++ ws.toArray = (vs ++ ws).toArray := by simp
 by_cases hw : ws = []
 ·exact concat_meets ⟨_, ho, rfl⟩ ⟨_, ho2, rfl⟩ noFill_tuple_add seq_tuple_add PySem.F.slot_tuple_add PySem.F.entry_tuple_add (PySem.F.args_tuple_add_2 _ _)
   (tuple_addW1 t b vs.toArray ws.toArray n n2 dd dd2 sl sl2 (by simpa using hv) (by simp [hw])) ⟨ho, ho2, h1 hw⟩
 ·refine concat_meets ⟨_, ho, rfl⟩ ⟨_, ho2, rfl⟩ noFill_tuple_add seq_tuple_add PySem.F.slot_tuple_add PySem.F.entry_tuple_add (PySem.F.args_tuple_add_2 _ _)
   (tuple_addW2 t b vs.toArray ws.toArray n n2 dd dd2 sl sl2 (by simpa using hv) (by simpa using hw) (by rw [List.size_toArray, List.size_toArray]; exact hsz)) ⟨ho, ho2, ?_⟩
  rw [e]
  exact h2 hw
def sIx (n d : Nat) : Option Int -> Nat
 | none => d
 | some v => if v < 0 then (v + (n : Int)).toNat else min v.toNat n
theorem QF (n d k : Nat) : sIx n d (some (k : Int)) = min k n := by
 show (if (k : Int) < 0 then ((k : Int) + (n : Int)).toNat else min (k : Int).toNat n) = min k n
 rw [if_neg (by omega), Int.toNat_natCast]
theorem ar (n d : Nat) (hd : d ≤ n) (o : Option Int) : sIx n d o ≤ n := by
  cases o with
  | none => exact hd
  | some v =>
    show (if v < 0 then (v + (n : Int)).toNat else min v.toNat n) ≤ n
    by_cases hv : v < 0
    · rw [if_pos hv]; omega
    · rw [if_neg hv]; exact Nat.min_le_right _ _
theorem So (v : Int) (n d : Nat) : (if v < 0 then max (v + (n : Int)) 0 else min v (n : Int)) = ((sIx n d (some v) : Nat) : Int) := by
 show (if v < 0 then max (v + (n : Int)) 0 else min v (n : Int)) = (((if v < 0 then (v + (n : Int)).toNat else min v.toNat n) : Nat) : Int)
 by_cases hv : v < 0
 ·simp only [if_pos hv]; omega
 ·simp only [if_neg hv]; omega
theorem RN (lo hi : Option Int) (n : Nat) : Builtin.Slice.sliceAdjust lo hi 1 (n : Int) = (((sIx n 0 lo : Nat) : Int), ((sIx n n hi : Nat) : Int)) := by
 have h1 : ¬ ((1 : Int) < 0) := by omega
 unfold Builtin.Slice.sliceAdjust
 simp only [h1, if_false]
 refine Prod.ext ?_ ?_
 ·cases lo with
  | none => rfl
  | some v => exact So v n 0
 ·cases hi with
  | none => rfl
  | some v => exact So v n n
theorem R3 (i j : Nat) : Builtin.Slice.slicePlaces (i : Int) (j : Int) 1 = j - i := by
 unfold Builtin.Slice.slicePlaces
 have h1 : (1 : Int) > 0 := by omega
 simp only [h1, if_true, Int.ediv_one]
 split <;> omega
theorem NJ {v : Value} {o : Option Int} {Q : Option Int -> Shared -> Prop} (p : IsPart v o) (h : Q o s) : wpAny (model prog w) A (Builtin.Slice.slicePartIndex v) Q E s := by
 cases p with
 | none => exact slicePart_none h
 | int i t => exact slicePart_int h
theorem HI {sl : Addr} {vl vu : Value} {lo hi : Option Int} {n : Nat} {Q : Int × Int × Nat -> Shared -> Prop} (hs : s.heap.IsSliceOf sl vl vu .none) (pl : IsPart vl lo) (pu : IsPart vu hi)
  (h : Q (((sIx n 0 lo : Nat) : Int), 1, sIx n n hi - sIx n 0 lo) s) : wpAny (model prog w) A (Builtin.Slice.sliceApplied (.ref sl) (pure (n : Int))) Q E s := by
 obtain ⟨os, hos, hcs, hds⟩ := id hs
 unfold Builtin.Slice.sliceApplied Builtin.Slice.sliceFields
 refine wpAny_bind (wpAny_bind (wpAny_field hos hds (x := vl) rfl (wpAny_bind (wpAny_field hos hds (x := vu) rfl (wpAny_bind (wpAny_field hos hds (x := .none) rfl (wpAny_pure ?_)))))))
 refine wpAny_bind (slicePart_none ?_)
 show wpAny _ _ (if ((1 : Int) == 0) = true then _ else _) _ _ s
 rw [if_neg (by decide)]
 refine wpAny_bind (NJ pl (wpAny_bind (NJ pu (wpAny_bind (wpAny_pure ?_)))))
 show wpAny _ _ (match Builtin.Slice.sliceAdjust lo hi 1 (n : Int) with | (lo, hi) => pure (lo, (1 : Int), Builtin.Slice.slicePlaces lo hi 1)) _ _ s
 rw [RN lo hi n]
 show wpAny _ _ (pure (((sIx n 0 lo : Nat) : Int), (1 : Int), Builtin.Slice.slicePlaces ((sIx n 0 lo : Nat) : Int) ((sIx n n hi : Nat) : Int) 1)) _ _ s
 rw [R3]
 exact wpAny_pure h
theorem Vz (xs : Array Value) (i k : Nat) : ((List.range k).filterMap fun (m : Nat) => xs[((i : Int) + (m : Int) * 1).toNat]?).toArray = ((xs.toList.drop i).take k).toArray := by
 have e : (fun (m : Nat) => xs[((i : Int) + (m : Int) * 1).toNat]?) = fun m => xs[i + m]? := by
  funext m
  have : ((i : Int) + (m : Int) * 1).toNat = i + m := by omega
  rw [this]
 rw [e]
 have := pick_run xs i k
 rw [List.filterMap_map] at this
 have e2 : ((fun x => xs[x]?) ∘ fun x => i + x) = fun m => xs[i + m]? := rfl
 rw [e2] at this
 rw [this]
theorem Jz {t sl : Addr} {items : Array Value} {vl vu : Value} {lo hi : Option Int} {Q : Value -> Shared -> Prop} (ht : IsTup s.heap t items) (hs : s.heap.IsSliceOf sl vl vu .none) (pl : IsPart vl lo) (pu : IsPart vu hi)
  (hw : ¬ (sIx items.size 0 lo = 0 /\ sIx items.size items.size hi = items.size))
  (h : Q (.ref s.heap.objs.size) { s with heap := s.heap.push { cls := .type "tuple", data := .seq ((items.toList.drop (sIx items.size 0 lo)).take (sIx items.size items.size hi - sIx items.size 0 lo)).toArray } })
  (hsz : items.size ≤ sizeLine) : wpAny (model prog w) A (getItem (.ref t) (.ref sl)) Q E s := by
 have htake : sizeOk (.seq ((items.toList.drop (sIx items.size 0 lo)).take (sIx items.size items.size hi - sIx items.size 0 lo)).toArray) := by
  show ((items.toList.drop (sIx items.size 0 lo)).take (sIx items.size items.size hi - sIx items.size 0 lo)).toArray.size ≤ sizeLine
  rw [List.size_toArray, List.length_take, List.length_drop, Array.length_toList]
  omega
 have hj : sIx items.size items.size hi ≤ items.size := ar _ _ (Nat.le_refl _) hi
 obtain ⟨os, hos, hcs, hds⟩ := id hs
 have hTs : s.TypeIs (.ref sl) "slice" := ⟨os, hos, hcs⟩
 unfold getItem
 try with_reducible refine wpAny_holding ?_
 first | refine wpAny_bind (wpAny_pure ?_) | skip
 refine wpAny_bind (wpAny_sequenceKey ht.typeIs (by decide) ?_)
 refine wpAny_bind (wpAny_callSpecial?_slot (name := Str.ofString "__getitem__") ht.typeIs PyProof.Rows.slot_tuple_getitem
  (wpAny_call_entry PyProof.Rows.slot_tuple_getitem ht.typeIs entry_tuple_getitem ?_ (args_tuple_getitem _ _)))
 show wpAny _ _ (Builtin.Tuple.tupleItemsOf (.ref t) >>= _) _ _ s
 refine wpAny_bind (tupleItemsOf_ ht ?_)
 refine wpAny_bind (wpAny_typeOf hTs ?_)
 rw [if_pos (by decide)]
 refine wpAny_bind (HI hs pl pu ?_)
 have hno : ¬ ((((sIx items.size 0 lo : Nat) : Int) == 0 && (1 : Int) == 1 && (sIx items.size items.size hi - sIx items.size 0 lo) == items.size) = true) := by
  intro q
  rw [Bool.and_eq_true, Bool.and_eq_true] at q
  have q1 : ((sIx items.size 0 lo : Nat) : Int) = 0 := eq_of_beq q.1.1
  have q2 : sIx items.size items.size hi - sIx items.size 0 lo = items.size := eq_of_beq q.2
  exact hw ⟨by omega, by omega⟩
 show wpAny _ _ (if (((sIx items.size 0 lo : Nat) : Int) == 0 && (1 : Int) == 1 && (sIx items.size items.size hi - sIx items.size 0 lo) == items.size) = true then _ else _) _ _ s
 rw [if_neg hno, Vz]
 first
  | exact wpAny_bind (m := Builtin.Tuple.tupleExact _) (wpAny_newObj_type (wpAny_pure ⟨_, rfl, wpAny_pure h⟩) htake)
  | exact wpAny_bind (m := Builtin.Tuple.tupleExact _) (wpAny_newObj_type (wpAny_bind (wpAny_pure (wpAny_pure ⟨_, rfl, wpAny_pure h⟩))) htake)
  | exact wpAny_bind (wpAny_bind (m := Builtin.Tuple.tupleExact _) (wpAny_newObj_type (wpAny_pure (wpAny_pure ⟨_, rfl, wpAny_pure h⟩)) htake))
  | exact wpAny_bind (wpAny_bind (m := Builtin.Tuple.tupleExact _) (wpAny_newObj_type (wpAny_pure ⟨_, rfl, wpAny_pure h⟩) htake))
end
end HT
namespace L2
open PySem PySem.Spec PyProof.Rows
abbrev TO := St -> Hp -> (Option Int -> Hp -> Prop) -> Prop
def PO (X : Cx) (e : Option Expr) (t : TO) : Prop :=
 ∀ (pins : List (Addr × Obj)) (s : Shared) (σ : St) (H : Hp) (Q : Option Int -> Hp -> Prop), Inv X pins σ H s -> t σ H Q ->
  wpAny (model X.prog X.w) X.A (evalPart e X.env) (fun u s' => ∃ o H', Inv X pins σ H' s' /\ IsPart u o /\ Q o H') X.xe s
def YJ : TO := fun _ H Q => Q none H
def eD (t : TE) : TO := fun σ H Q => t σ H fun x H1 => ∃ i, x = .int i /\ Q (some i) H1
theorem intsAre_of {ns : List Int} : ∀ {us : List Value}, Vals (ns.map V.int) us -> IntsAre us ns := by
  induction ns with
  | nil => intro us r; rw [List.map_nil] at r; cases r; exact .nil
  | cons n ns ih =>
    intro us r
    rw [List.map_cons] at r
    cases r with
    | cons r1 r2 =>
      obtain ⟨t, e⟩ := r1
      subst e
      exact .cons n t (ih r2)
section
variable {X : Cx} {e : Expr} {te : TE} {lo hi : Option Expr} {tl th : TO} {pos p2 : Pos}
theorem UD : PO X none YJ := by
 intro pins s σ H Q I h
 rw [evalPart_none]
 exact wpAny_pure ⟨none, H, I, .none, h⟩
theorem ON (h : PE X e te) : PO X (some e) (eD te) := by
 intro pins s σ H Q I hw
 rw [evalPart_some]
 refine thn (h pins s σ H _ I hw) fun u s1 ⟨x, H1, I1, r1, q1⟩ => ?_
 obtain ⟨i, rfl, q⟩ := q1
 obtain ⟨t, rfl⟩ := r1
 exact ⟨some i, H1, I1, .int i t, q⟩
def SlR (X : Cx) (r : V -> Option Int -> Option Int -> Hp -> VK -> Prop) : Prop :=
 ∀ (pins : List (Addr × Obj)) (s : Shared) (σ : St) (H : Hp) (x : V) (v vl vu : Value) (lo hi : Option Int) (sl : Addr) (Q : VK), Inv X pins σ H s -> RelV x v -> s.heap.IsSliceOf sl vl vu .none -> IsPart vl lo -> IsPart vu hi -> r x lo hi H Q ->
  ∃ T id, typeLookup (.type T) "__getitem__" = pure (some (.builtin id)) /\ s.TypeIs v T /\ wpAny (model X.prog X.w) X.A (getItem v (.ref sl)) (EP X pins σ Q) X.xe s
def tSl (r : V -> Option Int -> Option Int -> Hp -> VK -> Prop) (te : TE) (tl th : TO) : TE := fun σ H Q => te σ H fun x H1 => tl σ H1 fun l H2 => th σ H2 fun u H3 => r x l u H3 Q
theorem Nn {r : V -> Option Int -> Option Int -> Hp -> VK -> Prop} (hr : SlR X r) (he : PE X e te) (hl : PO X lo tl) (hu : PO X hi th) : PE X (.Subscript e (.Slice lo hi none p2) pos) (tSl r te tl th) := by
 intro pins s σ H Q I h
 refine Subscript_ (thn (he pins s σ H _ I h) fun v s1 ⟨x, H1, I1, r1, q1⟩ => ?_)
 refine wpAny_Slice (thn (hl pins s1 σ H1 _ I1 q1) fun vl s2 ⟨l, H2, I2, pl, q2⟩ => thn (hu pins s2 σ H2 _ I2 q2) fun vu s3 ⟨u, H3, I3, pu, q3⟩ => ?_)
 rw [evalPart_none]
 refine wpAny_pure ?_
 have I4 : Inv X pins σ H3 { s3 with heap := s3.heap.push { cls := .type "slice", data := .fields #[vl, vu, .none] } } := I3.kept (t' := s3.toks) fun b ob q => Heap.get?_push_of_some _ q
 obtain ⟨T, id, hT, ht, hg⟩ := hr pins { s3 with heap := s3.heap.push { cls := .type "slice", data := .fields #[vl, vu, .none] } } σ H3 x v vl vu l u s3.heap.objs.size Q I4 r1 (Heap.IsSliceOf.new ..) pl pu q3
 show wpAny (model X.prog X.w) X.A (subscriptTail e (.Slice lo hi none p2) v (.ref s3.heap.objs.size)) (EP X pins σ Q) X.xe { s3 with heap := s3.heap.push { cls := .type "slice", data := .fields #[vl, vu, .none] } }
 exact tail_any (ops := [.ref s3.heap.objs.size, v]) ht hT hg (by with_unfolding_all rfl)
def Xe (xs : List V) (lo hi : Option Int) : List V := (xs.drop (HT.sIx xs.length 0 lo)).take (HT.sIx xs.length xs.length hi - HT.sIx xs.length 0 lo)
theorem LO (xs : List V) (lo hi : Option Int) : (Xe xs lo hi).length ≤ xs.length := by
 unfold Xe
 rw [List.length_take, List.length_drop]
 omega
def iV (K : PySem.W.Frag) : V -> Option Int -> Option Int -> Hp -> VK -> Prop := fun x lo hi H Q => ∃ a xs, x = .ref a /\ SqT K H a xs /\
 ¬ (HT.sIx xs.length 0 lo = 0 /\ HT.sIx xs.length xs.length hi = xs.length) /\ ∀ p, H p = none -> Q (.ref p) (upd H p (.tup (Xe xs lo hi)))
theorem ZV : SlR X (iV X.K) := by
 intro pins s σ H x v vl vu lo hi sl Q I rx hs pl pu h
 obtain ⟨a, xs, rfl, hx, hw, q⟩ := h
 cases rx
 obtain ⟨its, r, ht, hz⟩ := I.tuple hx
 have hlen : its.toArray.size = xs.length := by rw [List.size_toArray]; exact r.length.symm
 refine ⟨"tuple", _, PyProof.Rows.slot_tuple_getitem.lookup, ht.typeIs, ?_⟩
 refine HT.Jz ht hs pl pu (by rw [hlen]; exact hw) ?_ (by rw [hlen]; exact hz)
 rw [hlen]
 refine ⟨.ref s.heap.objs.size, _, I.laid (t' := s.toks) (o := .tup (Xe xs lo hi)) (fun b ob q => Heap.get?_push_of_some _ q) (Nat.le_refl _) ?_, rfl, q _ (I.hok.fresh (Nat.le_refl _))⟩
 exact ⟨Nat.le_trans (LO xs lo hi) hz, _, (r.drop (HT.sIx xs.length 0 lo)).take (HT.sIx xs.length xs.length hi - HT.sIx xs.length 0 lo), IsTup.new _ _⟩
def dw (K : PySem.W.Frag) : R2 := fun x y H Q => ∃ a b xs ys, x = .ref a /\ y = .ref b /\ SqT K H a xs /\ SqT K H b ys /\ xs ≠ [] /\ xs.length + ys.length ≤ sizeLine /\
 (ys = [] -> Q (.ref a) H) /\ (ys ≠ [] -> ∀ p, H p = none -> Q (.ref p) (upd H p (.tup (xs ++ ys))))
theorem Vals.nil_iff {xs : List V} {us : List Value} (r : Vals xs us) : us = [] ↔ xs = [] := by
 cases r with
 | nil => simp
 | cons _ _ => simp
theorem YG : OpR X (binaryOp .Add) (dw X.K) := by
 intro pins s σ H x y v u Q I rx ry h
 obtain ⟨a, b, xs, ys, rfl, rfl, ha, hb, hx, hz, q1, q2⟩ := h
 cases rx
 cases ry
 obtain ⟨its, r1, p1, _⟩ := I.tuple ha
 obtain ⟨its2, r2, p2, _⟩ := I.tuple hb
 refine HT.YF p1 p2 (fun z => hx (r1.nil_iff.mp z)) (fun z => ⟨.ref a, H, I, rfl, q1 (r2.nil_iff.mp z)⟩) (fun z => ?_) (by rw [← r1.length, ← r2.length]; exact hz)
 refine ⟨.ref s.heap.objs.size, _, I.laid (t' := s.toks) (o := .tup (xs ++ ys)) (fun b ob q => Heap.get?_push_of_some _ q) (Nat.le_refl _) ?_, rfl, q2 (fun w => z (r2.nil_iff.mpr w)) _ (I.hok.fresh (Nat.le_refl _))⟩
 exact ⟨by rw [List.length_append]; exact hz, _, r1.append r2, IsTup.new _ _⟩
end
end L2
namespace L2
open PySem PySem.Spec PyProof.Rows
def ixN (n : Nat) (i : Int) : Option Nat := if 0 ≤ i then (if i < n then some i.toNat else none) else if -(n : Int) ≤ i then some (i + n).toNat else none
def atI {α : Type} (xs : List α) (i : Int) : Option α := (ixN xs.length i).bind fun j => xs[j]?
theorem TZ {n : Nat} {i : Int} {j : Nat} (h : ixN n i = some j) : seqIndex? i n = some j /\ j < n /\ -(n : Int) ≤ i /\ i < n := by
 unfold ixN at h
 by_cases h0 : 0 ≤ i
 ·rw [if_pos h0] at h
  by_cases h1 : i < n
  ·rw [if_pos h1] at h
   have e : i.toNat = j := Option.some.inj h
   exact ⟨by rw [seqIndex_of h0 h1, e], by omega, by omega, h1⟩
  ·rw [if_neg h1] at h; cases h
 ·rw [if_neg h0] at h
  by_cases h1 : -(n : Int) ≤ i
  ·rw [if_pos h1] at h
   have e : (i + n).toNat = j := Option.some.inj h
   exact ⟨by rw [seqIndex_neg (by omega) h1, e], by omega, h1, by omega⟩
  ·rw [if_neg h1] at h; cases h
theorem T7 {α : Type} {xs : List α} {i : Int} {v : α} (h : atI xs i = some v) : ∃ j, seqIndex? i xs.length = some j /\ xs[j]? = some v /\ j < xs.length /\ -(xs.length : Int) ≤ i /\ i < xs.length := by
  unfold atI at h
  cases e : ixN xs.length i with
  | none => rw [e] at h; cases h
  | some j =>
    rw [e] at h
    obtain ⟨h1, h2, h3, h4⟩ := TZ e
    exact ⟨j, h1, h, h2, h3, h4⟩
theorem Xx {α : Type} {xs : List α} {j : Nat} {v : α} (h : xs[j]? = some v) : atI xs (j : Int) = some v := by
 have hj : j < xs.length := (List.getElem?_eq_some_iff.mp h).1
 have e : ixN xs.length (j : Int) = some j := by
  unfold ixN
  rw [if_pos (by omega), if_pos (by omega)]; simp
 unfold atI; rw [e]; exact h
theorem Nf {α : Type} (xs : List α) (v : α) : atI (xs ++ [v]) (-1) = some v := by
 have hl : (xs ++ [v]).length = xs.length + 1 := by simp
 have e : ixN (xs ++ [v]).length (-1) = some xs.length := by
  unfold ixN
  rw [hl, if_neg (by decide), if_pos (by omega)]
  congr 1
  omega
 unfold atI
 rw [e]
 show (xs ++ [v])[xs.length]? = some v
 simp
def Sy (b : Expr) : Prop := ∀ o i, subscripted b false o i = operate [o, i] (getItem o i)
def IxR (X : Cx) (r : R2) : Prop :=
 ∀ (value slice : Expr) (pins : List (Addr × Obj)) (s : Shared) (σ : St) (H : Hp) (x y : V) (v u : Value) (Q : VK), Inv X pins σ H s -> RelV x v -> RelV y u -> r x y H Q ->
  subscripted slice false v u = operate [v, u] (getItem v u) -> wpAny (model X.prog X.w) X.A (subscriptTail value slice v u) (EP X pins σ Q) X.xe s
def MtR (X : Cx) (id : String) (r : V -> List V -> Hp -> VK -> Prop) : Prop :=
 ∀ (pins : List (Addr × Obj)) (s : Shared) (σ : St) (H : Hp) (x : V) (xs : List V) (v : Value) (us : List Value) (Q : VK), Inv X pins σ H s -> RelV x v -> Vals xs us -> r x xs H Q ->
  wpAny (model X.prog X.w) X.A (call (.builtin id) (v :: us)) (EP X pins σ Q) X.xe s
section
variable {X : Cx} {a b : Expr} {ta tb : TE} {pos : Pos}
theorem eZ {r : R2} (hr : IxR X r) (ha : PE X a ta) (hb : PE X b tb) (hs : Sy b) : PE X (.Subscript a b pos) (tOp r ta tb) := by
 intro pins s σ H Q I h
 exact Subscript_ (dF ha hb I h fun v u s2 x y H2 I2 rx ry q => hr a b pins s2 σ H2 x y v u Q I2 rx ry q (hs _ _))
def iI (K : PySem.W.Frag) : R2 := fun x y H Q => ∃ p xs i v, x = .ref p /\ y = .int i /\ SqL K H p xs /\ atI xs i = some v /\ Q v H
def iH (K : PySem.W.Frag) : R2 := fun x y H Q => ∃ p xs i v, x = .ref p /\ y = .int i /\ SqT K H p xs /\ atI xs i = some v /\ Q v H
theorem X6 : IxR X (iI X.K) := by
 intro value slice pins s σ H x y v u Q I rx ry h hs
 obtain ⟨p, xs, i, z, rfl, rfl, hq, he, q⟩ := h
 cases rx
 obtain ⟨t, rfl⟩ := ry
 obtain ⟨its, r, pl, hz⟩ := I.list hq
 obtain ⟨j, h1, h2, h3, h4, h5⟩ := T7 he
 obtain ⟨w, ew, rw'⟩ := r.get h2
 have hl := r.length
 have hn := O4
 have fin : EP X pins σ Q w s := ⟨z, H, I, rw', q⟩
 by_cases h0 : 0 ≤ i
 ·have hj : i.toNat = j := by
   rw [seqIndex_of h0 h5] at h1
   exact Option.some.inj h1
  exact item_listR pl.isList h0 (by omega) (by rw [hj]; simpa using ew) fin hs
 ·have hj : (i + (its.toArray.size : Int)).toNat = j := by
   rw [seqIndex_neg (by omega) h4] at h1
   rw [List.size_toArray, ← hl]
   exact Option.some.inj h1
  exact subscriptTail_builtinR (x := w) pl.isList.typeIs slot_list_getitem.lookup
   (wpAny_getItem_list_neg (Q := fun r s' => r = w /\ EP X pins σ Q r s') pl.isList (by omega) (by rw [List.size_toArray] <;> omega) (by omega) (by rw [hj]; simpa using ew) ⟨rfl, fin⟩) hs
theorem Ze : IxR X (iH X.K) := by
 intro value slice pins s σ H x y v u Q I rx ry h hs
 obtain ⟨p, xs, i, z, rfl, rfl, hq, he, q⟩ := h
 cases rx
 obtain ⟨t, rfl⟩ := ry
 obtain ⟨its, r, pl, hz⟩ := I.tuple hq
 obtain ⟨j, h1, h2, h3, h4, h5⟩ := T7 he
 obtain ⟨w, ew, rw'⟩ := r.get h2
 have hl := r.length
 have hn := O4
 have fin : EP X pins σ Q w s := ⟨z, H, I, rw', q⟩
 exact subscriptTail_builtinR (x := w) pl.typeIs slot_tuple_getitem.lookup
  (getItem_tuple (j := j) (Q := fun r s' => r = w /\ EP X pins σ Q r s') pl (by omega) (by omega) (by rw [List.size_toArray, ← hl]; exact h1) (by simpa using ew) ⟨rfl, fin⟩) hs
theorem Ra (its : List Value) (n j : Nat) (u : Value) : Obj.mapSeq (·.setIfInBounds j u) { cls := .type "list", data := .seq its.toArray n } = { cls := .type "list", data := .seq (its.set j u).toArray n } := by
 simp [Obj.mapSeq]
theorem Inv.lst {pins : List (Addr × Obj)} {σ : St} {H : Hp} {s : Shared} {p : Addr} {xs : List V} (I : Inv X pins σ H s) (h : H p = some (.lst xs)) :
  ∃ (its : List Value) (n : Nat), Vals xs its /\ s.heap.get? p = some { cls := .type "list", data := .seq its.toArray n } /\ xs.length ≤ sizeLine := by
 obtain ⟨z, its, n, r, e⟩ := I.hok p _ h
 exact ⟨its, n, r, e, z⟩
theorem Inv.lstUpd {pins : List (Addr × Obj)} {σ : St} {H : Hp} {s : Shared} {p : Addr} {xs ys : List V} {its its' : List Value} {n n' : Nat} {f : Obj -> Obj} (I : Inv X pins σ H s) (h : H p = some (.lst xs))
  (ho : s.heap.get? p = some { cls := .type "list", data := .seq its.toArray n }) (hf : f { cls := .type "list", data := .seq its.toArray n } = { cls := .type "list", data := .seq its'.toArray n' }) (r : Vals ys its') (hz : ys.length ≤ sizeLine) (t : Nat) :
  Inv X pins σ (upd H p (.lst ys)) { s with heap := s.heap.update p f, toks := t } := by
 have e : (s.heap.update p f).get? p = some { cls := .type "list", data := .seq its'.toArray n' } := by
  rw [Heap.get?_update_self f ho (by rw [hf] <;> rfl), hf]
 refine I.write (x := p) (e := p) (by rw [h]; trivial) (.inl rfl) (fun b u hb q => (Heap.get?_update_other _ _ (Ne.symm hb)).trans q) ⟨_, e⟩ ?_
 exact ⟨hz, its', n', r, e⟩
def fP : V -> V -> V -> Hp -> (Hp -> Prop) -> Prop := fun o i v H Q => ∃ p xs k j, o = .ref p /\ i = .int k /\ H p = some (.lst xs) /\ ixN xs.length k = some j /\ Q (upd H p (.lst (xs.set j v)))
theorem set_list : gT X fP := by
 intro pins s σ H o i v ov iv u Q I ro ri rv h
 obtain ⟨p, xs, k, j, rfl, rfl, hp, hj, q⟩ := h
 cases ro
 obtain ⟨t, rfl⟩ := ri
 obtain ⟨its, n, r, ho, hz⟩ := I.lst hp
 obtain ⟨h1, h2, h3, h4⟩ := TZ hj
 have hl := r.length
 have hn := O4
 have I' : Inv X pins σ (upd H p (.lst (xs.set j v))) { s with heap := s.heap.update p (Obj.mapSeq (·.setIfInBounds j u)) } :=
  I.lstUpd hp ho (Ra its n j u) (r.set rv j) (by rw [List.length_set]; exact hz) s.toks
 by_cases h0 : 0 ≤ k
 ·have hk : k.toNat = j := by
   rw [seqIndex_of h0 h4] at h1
   exact Option.some.inj h1
  exact PySem.W.ki_setAt ho h0 (by omega) (by rw [List.size_toArray, ← hl]; exact h4) (by rw [hk]; exact ⟨_, I', q⟩)
 ·have hk : (k + (its.toArray.size : Int)).toNat = j := by
   rw [seqIndex_neg (by omega) h3] at h1
   rw [List.size_toArray, ← hl]
   exact Option.some.inj h1
  exact PySem.W.ki_setBack ho (by omega) (by rw [List.size_toArray, ← hl]; exact h3) (by omega) (by rw [hk]; exact ⟨_, I', q⟩)
theorem Of (lo hi : Option Int) (n : Nat) : (sliceBounds lo hi none n).1 = ((HT.sIx n 0 lo : Nat) : Int) /\ (sliceBounds lo hi none n).2.1 = ((HT.sIx n n hi : Nat) : Int) /\ (sliceBounds lo hi none n).2.2 = 1 := by
  refine ⟨?_, ?_, rfl⟩
  · cases lo with
    | none => simp [sliceBounds, HT.sIx]
    | some i =>
      simp only [sliceBounds, HT.sIx, Option.getD_none, show (1 : Int) > 0 by decide, if_true]
      by_cases h : i < 0
      · simp only [h, if_true] <;> omega
      · simp only [h, if_false] <;> omega
  · cases hi with
    | none => simp [sliceBounds, HT.sIx]
    | some i =>
      simp only [sliceBounds, HT.sIx, Option.getD_none, show (1 : Int) > 0 by decide, if_true]
      by_cases h : i < 0
      · simp only [h, if_true] <;> omega
      · simp only [h, if_false] <;> omega
theorem OI (its : List Value) (lo hi : Option Int) : slicePick its.toArray lo hi none = ((its.drop (HT.sIx its.length 0 lo)).take (HT.sIx its.length its.length hi - HT.sIx its.length 0 lo)).toArray := by
 obtain ⟨h1, h2, h3⟩ := Of lo hi its.toArray.size
 unfold slicePick
 rw [h1, h2, h3]
 simp only [sliceRange_one, pick_run, List.size_toArray] <;> rfl
def gi (K : PySem.W.Frag) : V -> Option Int -> Option Int -> Hp -> VK -> Prop := fun x lo hi H Q => ∃ a xs, x = .ref a /\ SqL K H a xs /\ ∀ p, H p = none -> Q (.ref p) (upd H p (.lst (Xe xs lo hi)))
theorem YR : SlR X (gi X.K) := by
 intro pins s σ H x v vl vu lo hi sl Q I rx hs pl pu h
 obtain ⟨a, xs, rfl, hx, q⟩ := h
 cases rx
 obtain ⟨its, r, ht, hz⟩ := I.list hx
 have hlen := r.length
 refine ⟨"list", _, slot_list_getitem.lookup, ht.isList.typeIs, ?_⟩
 refine wpAny_getItem_list_slice ht.isList hs pl pu .none (by simp) ?_ (by rw [List.size_toArray] <;> omega)
 rw [OI, ← hlen]
 refine ⟨.ref s.heap.objs.size, _, I.laid (t' := s.toks) (o := .lst (Xe xs lo hi)) (fun b ob q => Heap.get?_push_of_some _ q) (Nat.le_refl _) ?_, rfl, q _ (I.hok.fresh (Nat.le_refl _))⟩
 exact ⟨Nat.le_trans (LO xs lo hi) hz, _, 0, (r.drop (HT.sIx xs.length 0 lo)).take (HT.sIx xs.length xs.length hi - HT.sIx xs.length 0 lo), Heap.get?_push_size _ rfl⟩
def Mq : V -> Bool
 | .non => true
 | .bl _ => true
 | .int _ => true
 | .str _ => true
 | _ => false
def eqV : V -> V -> Bool
 | .non, .non => true
 | .bl a, .bl b => a == b
 | .bl a, .int b => (if a then 1 else 0) == b
 | .int a, .bl b => a == (if b then 1 else 0)
 | .int a, .int b => a == b
 | .str a, .str b => a == b
 | _, _ => false
theorem Zo {A : Around} {s : Shared} {y x : V} {u v : Value} (ry : RelV y u) (rx : RelV x v) (fy : Mq y = true) (fx : Mq x = true) : SeqAt.EqAt A s u v (eqV y x) := by
  cases y with
  | non =>
    cases ry
    cases x with
    | non => cases rx; exact SeqAt.EqAt.same _
    | bl b => cases rx; exact SeqAt.EqAt.none_bool b
    | int b => obtain ⟨t, rfl⟩ := rx; exact SeqAt.EqAt.none_int b t
    | str b => obtain ⟨t, rfl⟩ := rx; exact SeqAt.EqAt.none_str b t
    | _ => exact absurd (show false = true from fx) Bool.false_ne_true
  | bl a =>
    cases ry
    cases x with
    | non => cases rx; exact SeqAt.EqAt.bool_none a
    | bl b => cases rx; exact SeqAt.EqAt.bool_bool a b
    | int b => obtain ⟨t, rfl⟩ := rx; exact SeqAt.EqAt.bool_int a b t
    | str b => obtain ⟨t, rfl⟩ := rx; exact SeqAt.EqAt.bool_str a b t
    | _ => exact absurd (show false = true from fx) Bool.false_ne_true
  | int a =>
    obtain ⟨t', rfl⟩ := ry
    cases x with
    | non => cases rx; exact SeqAt.EqAt.int_none a t'
    | bl b => cases rx; exact SeqAt.EqAt.int_bool a t' b
    | int b => obtain ⟨t, rfl⟩ := rx; exact SeqAt.EqAt.int_int a t' b t
    | str b => obtain ⟨t, rfl⟩ := rx; exact SeqAt.EqAt.int_str a t' b t
    | _ => exact absurd (show false = true from fx) Bool.false_ne_true
  | str a =>
    obtain ⟨t', rfl⟩ := ry
    cases x with
    | non => cases rx; exact SeqAt.EqAt.str_none a t'
    | bl b => cases rx; exact SeqAt.EqAt.str_bool a t' b
    | int b => obtain ⟨t, rfl⟩ := rx; exact SeqAt.EqAt.str_int a t' b t
    | str b => obtain ⟨t, rfl⟩ := rx; exact SeqAt.EqAt.str_str a t' b t
    | _ => exact absurd (show false = true from fx) Bool.false_ne_true
  | _ => exact absurd (show false = true from fy) Bool.false_ne_true
def eqU (x : V) (u : Value) : Bool := match u with
 | .none => eqV .non x
 | .bool b => eqV (.bl b) x
 | .int i _ => eqV (.int i) x
 | .str z _ => eqV (.str z) x
 | _ => false
theorem XF {x y : V} {u : Value} (r : RelV y u) (f : Mq y = true) : eqU x u = eqV y x := by
 cases y with
 | non => cases r; rfl
 | bl b => cases r; rfl
 | int i => obtain ⟨t, rfl⟩ := r; rfl
 | str z => obtain ⟨t, rfl⟩ := r; rfl
 | _ => exact absurd (show false = true from f) Bool.false_ne_true
theorem Lu {x : V} : ∀ {xs : List V} {us : List Value}, Vals xs us -> xs.all Mq = true -> us.any (eqU x) = xs.any fun y => eqV y x
  | _, _, .nil, _ => rfl
  | y :: xs, u :: us, .cons r t, f => by
    rw [List.all_cons, Bool.and_eq_true] at f
    rw [List.any_cons, List.any_cons, XF r f.1, Lu t f.2]
theorem Jb {A : Around} {s : Shared} {x : V} {v : Value} (rx : RelV x v) (fx : Mq x = true) : ∀ {xs : List V} {us : List Value}, Vals xs us -> xs.all Mq = true -> ∀ u ∈ us, SeqAt.EqAt A s u v (eqU x u)
  | _, _, .nil, _ => fun u hu => by cases hu
  | y :: xs, u :: us, .cons r t, f => fun u' hu => by
    rw [List.all_cons, Bool.and_eq_true] at f
    rcases List.mem_cons.mp hu with rfl | hu
    · rw [XF r f.1]; exact Zo r rx f.1 fx
    · exact Jb rx fx t f.2 u' hu
def inV (x : V) (xs : List V) : Bool := xs.any fun y => eqV y x
def rIn (K : PySem.W.Frag) (neg : Bool) : R2 := fun x y H Q => ∃ p xs, y = .ref p /\ (SqL K H p xs ∨ SqT K H p xs) /\ Mq x = true /\ xs.all Mq = true /\ Q (.bl (if neg then !inV x xs else inV x xs)) H
theorem Ti : OpR X (compareOp .In) (rIn X.K false) := by
 intro pins s σ H x y v u Q I rx ry h
 obtain ⟨p, xs, rfl, hq, fx, fs, q⟩ := h
 cases ry
 rcases hq with hq | hq
 ·obtain ⟨its, r, pl, hz⟩ := I.list hq
  refine SeqAt.in_listAt (eqU x) pl.isList (fun w hw => Jb rx fx r fs w (by simpa using hw)) ⟨.bl _, H, I, rfl, ?_⟩
  rw [show its.toArray.any (eqU x) = its.any (eqU x) by simp, Lu r fs]
  exact q
 ·obtain ⟨its, r, pl, hz⟩ := I.tuple hq
  refine SeqAt.in_tupleAt (eqU x) pl (fun w hw => Jb rx fx r fs w (by simpa using hw)) ⟨.bl _, H, I, rfl, ?_⟩
  rw [show its.toArray.any (eqU x) = its.any (eqU x) by simp, Lu r fs]
  exact q
theorem Oy : OpR X (compareOp .NotIn) (rIn X.K true) := by
 intro pins s σ H x y v u Q I rx ry h
 obtain ⟨p, xs, rfl, hq, fx, fs, q⟩ := h
 cases ry
 rcases hq with hq | hq
 ·obtain ⟨its, r, pl, hz⟩ := I.list hq
  refine SeqAt.notIn_listAt (eqU x) pl.isList (fun w hw => Jb rx fx r fs w (by simpa using hw)) ⟨.bl _, H, I, rfl, ?_⟩
  rw [show its.toArray.any (eqU x) = its.any (eqU x) by simp, Lu r fs]
  exact q
 ·obtain ⟨its, r, pl, hz⟩ := I.tuple hq
  refine SeqAt.notIn_tupleAt (eqU x) pl (fun w hw => Jb rx fx r fs w (by simpa using hw)) ⟨.bl _, H, I, rfl, ?_⟩
  rw [show its.toArray.any (eqU x) = its.any (eqU x) by simp, Lu r fs]
  exact q
theorem PR : FH X (.builtin "len") (fun xs H Q => ∃ p ys, xs = [.ref p] /\ (SqL X.K H p ys ∨ SqT X.K H p ys) /\ Q (.int ys.length) H) := by
 intro pins s σ H xs us Q I r h
 obtain ⟨p, ys, rfl, hq, q⟩ := h
 obtain ⟨u, rfl, rx⟩ := vals1 r
 cases rx
 have hn := O4
 rcases hq with hq | hq
 ·obtain ⟨its, r', pl, hz⟩ := I.list hq
  have hlen := r'.length
  exact Calls.call_len_list pl.isList (by simp only [List.size_toArray] <;> omega) ⟨.int ys.length, H, I.tok _, ⟨s.toks + 1, by rw [List.size_toArray, hlen]⟩, q⟩
 ·obtain ⟨its, r', pl, hz⟩ := I.tuple hq
  have hlen := r'.length
  exact len_tuple pl (by simp only [List.size_toArray] <;> omega) ⟨.int ys.length, H, I.tok _, ⟨s.toks + 1, by rw [List.size_toArray, hlen]⟩, q⟩
theorem Ol : FH X (.builtin "len") (fun xs H Q => ∃ z, xs = [.str z] /\ z.length ≤ sizeLine /\ Q (.int z.length) H) := by
 intro pins s σ H xs us Q I r h
 obtain ⟨z, rfl, hz, q⟩ := h
 obtain ⟨u, rfl, t, rfl⟩ := vals1 r
 have hn := O4
 exact len_str (by omega) ⟨.int z.length, H, I.tok _, ⟨_, rfl⟩, q⟩
theorem Ot : FH X (.type "list") (fun xs H Q => ∃ p ys, xs = [.ref p] /\ (SqL X.K H p ys ∨ SqT X.K H p ys) /\ ∀ l, H l = none -> Q (.ref l) (upd H l (.lst ys))) := by
 intro pins s σ H xs us Q I r h
 obtain ⟨p, ys, rfl, hq, q⟩ := h
 obtain ⟨u, rfl, rx⟩ := vals1 r
 cases rx
 have fin : ∀ (its : List Value), Vals ys its -> ys.length ≤ sizeLine -> ∀ (h' : Heap) (c' : Nat), (∀ b o', s.heap.get? b = some o' -> h'.get? b = some o') ->
   h'.get? s.heap.objs.size = some { cls := .type "list", dict := none, data := .seq its.toArray c', slots := #[] } -> EP X pins σ Q (.ref s.heap.objs.size) { s with heap := h' } := fun its r' hz h' c' kp e =>
  ⟨.ref s.heap.objs.size, _, I.laid (t' := s.toks) kp (Nat.le_refl _) (show GJ X.prog X.w _ h' _ (.lst ys) from ⟨hz, its, c', r', e⟩), rfl, q _ (I.hok.fresh (Nat.le_refl _))⟩
 rcases hq with hq | hq
 ·obtain ⟨its, r', pl, hz⟩ := I.list hq
  have hlen := r'.length
  obtain ⟨o, ho, hc, n, hd⟩ := pl.isList
  exact call_list_seq p (.inl rfl) ho hc hd (fun h' c' kp e => fin its r' hz h' c' kp e) (by simp only [List.size_toArray] <;> omega)
 ·obtain ⟨its, r', pl, hz⟩ := I.tuple hq
  have hlen := r'.length
  obtain ⟨o, ho, hc, n, hd⟩ := pl
  exact call_list_seq p (.inr rfl) ho hc hd (fun h' c' kp e => fin its r' hz h' c' kp e) (by simp only [List.size_toArray] <;> omega)
theorem OT : FH X (.type "tuple") (fun xs H Q => ∃ p ys, xs = [.ref p] /\ ((SqL X.K H p ys /\ ∀ l, H l = none -> Q (.ref l) (upd H l (.tup ys))) ∨ (SqT X.K H p ys /\ Q (.ref p) H))) := by
 intro pins s σ H xs us Q I r h
 obtain ⟨p, ys, rfl, h⟩ := h
 obtain ⟨u, rfl, rx⟩ := vals1 r
 cases rx
 rcases h with ⟨hq, q⟩ | ⟨hq, q⟩
 ·obtain ⟨its, r', pl, hz⟩ := I.list hq
  have hlen := r'.length
  refine call_tuple_list pl.isList (fun h' kp => ?_) (by simp only [List.size_toArray] <;> omega)
  have I1 : Inv X pins σ H { s with heap := h' } := I.kept (t' := s.toks) kp
  have I2 : Inv X pins σ (upd H h'.objs.size (.tup ys)) { s with heap := h'.push { cls := .type "tuple", data := .seq its.toArray } } :=
   I1.laid (t' := s.toks) (fun b o e => Heap.get?_push_of_some _ e) (Nat.le_refl _) (show GJ X.prog X.w _ _ _ (.tup ys) from ⟨hz, its, r', IsTup.new _ _⟩)
  exact ⟨.ref h'.objs.size, _, I2, rfl, q _ (I1.hok.fresh (Nat.le_refl _))⟩
 ·obtain ⟨its, r', pl, hz⟩ := I.tuple hq
  exact call_tuple_same pl ⟨.ref p, H, I, rfl, q⟩
def tyV (K : PySem.W.Frag) (T : String) (x : V) (H : Hp) : Prop := match x with
 | .str _ => T = "str"
 | .int _ => T = "int"
 | .ref p => (T = "list" /\ ∃ xs, SqL K H p xs) ∨ (T = "tuple" /\ ∃ o, K.lookup p = some o /\ o.cls = .type "tuple" /\ o.dict = none) ∨
   (T = "dict" /\ ((∃ kvs, H p = some (.dK kvs)) ∨ ∃ kvs, H p = some (.dT kvs))) ∨ (T = "set" /\ ∃ S n, H p = some (.set S n))
 | _ => False
theorem ZZ {pins : List (Addr × Obj)} {σ : St} {H : Hp} {s : Shared} {T : String} {x : V} {v : Value} (I : Inv X pins σ H s) (r : RelV x v) (ty : tyV X.K T x H) :
    s.TypeIs v T /\ ∀ a, v = .ref a -> ∃ ob, s.heap.get? a = some ob /\ ob.dict = none := by
  cases x with
  | str z =>
    obtain ⟨t, rfl⟩ := r
    cases (show T = "str" from ty)
    exact ⟨typeIs_str s z t, fun _ e => nomatch e⟩
  | int i =>
    obtain ⟨t, rfl⟩ := r
    cases (show T = "int" from ty)
    exact ⟨typeIs_int s i t, fun _ e => nomatch e⟩
  | ref p =>
    cases r
    rcases ty with ⟨rfl, xs, hq⟩ | ⟨rfl, o, hk, hc, hd⟩ | ⟨rfl, hk⟩ | ⟨rfl, S, n, hk⟩
    · obtain ⟨its, _, pl, _⟩ := I.list hq
      refine ⟨pl.isList.typeIs, fun a e => ?_⟩
      cases e
      obtain ⟨o, n, e, c, hd, _⟩ := pl
      exact ⟨o, e, hd⟩
    · refine ⟨⟨o, I.kIn p o hk, hc⟩, fun a e => ?_⟩
      cases e
      exact ⟨o, I.kIn _ o hk, hd⟩
    · have z : ∃ o, s.heap.get? p = some o /\ o.ExactDict := by
        rcases hk with ⟨kvs, hk⟩ | ⟨kvs, hk⟩
        · obtain ⟨_, _, _, _, o, _, _, e, ex, _⟩ := I.hok p _ hk
          exact ⟨o, e, ex⟩
        · obtain ⟨_, _, _, _, o, _, _, e, ex, _⟩ := I.hok p _ hk
          exact ⟨o, e, ex⟩
      obtain ⟨o, e, ex⟩ := z
      refine ⟨⟨o, e, ex.1⟩, fun a e2 => ?_⟩
      cases e2
      exact ⟨o, e, ex.2.1⟩
    · obtain ⟨o, _, _, _, e, ex, _⟩ := I.hok p _ hk
      refine ⟨⟨o, e, ex.1⟩, fun a e2 => ?_⟩
      cases e2
      exact ⟨o, e, ex.2.1⟩
  | _ => exact False.elim ty
def tBM (K : PySem.W.Frag) (T : String) (r : V -> List V -> Hp -> VK -> Prop) (to : TE) (t : TA) : TE := fun σ H Q => to σ H fun x H1 => tyV K T x H1 /\ t σ H1 fun xs H2 => r x xs H2 Q
variable {o e : Expr} {es : List Expr} {to : TE} {t : TA} {name : Str} {apos cpos : Pos} {T id : String} {r : V -> List V -> Hp -> VK -> Prop}
theorem dX (pa : PlainAttrs T) (slot : Slot T name id) (hty : typeOf (.builtin id) = pure (.type "method_descriptor")) (hm : MtR X id r) (ho : PE X o to) (ha : PA X (e :: es) t)
  (hbase : attributeBase o name X.env (eval o X.env) = eval o X.env := by rfl)
  (hfew : ((backTo cpos (starEach (e :: es) X.env)).all (fun x => !x.1) && (backToKw cpos (keywordEach [] X.env)).all (fun x => x.1.isSome)
   && decide ((e :: es).length + ([] : List Keyword).length + (if ([] : List Keyword).isEmpty then 0 else 1) < 30)) = true := by rfl)
  (hline : (apos.endLine == cpos.line) = true := by rfl) (hs : starEach (e :: es) X.env = (false, eval e X.env) :: starEach es X.env := by rfl) (hplain : (backTo cpos (starEach es X.env)).any (·.1) = false := by rfl) :
  PE X (.Call (.Attribute o name apos) (e :: es) [] cpos) (tBM X.K T r to t) := by
 intro pins s σ H Q I h
 refine wpAny_Call_method_late hbase hfew hline rfl (thn (ho pins s σ H _ I h) fun v s1 ⟨x, H1, I1, r1, ty, q1⟩ => ?_)
 obtain ⟨h1, h2⟩ := ZZ I1 r1 ty
 refine ⟨T, id, pa, slot, hty, h1, h2, ?_⟩
 have hA := ha cpos pins s1 σ H1 _ I1 q1
 rw [hs] at hA ⊢
 refine Calls.callWith_builtin (by show (false || (backTo cpos (starEach es X.env)).any (·.1)) = false; rw [hplain] <;> rfl) (Calls.evalArgs_plain ?_)
 exact thn hA fun us s2 ⟨vs, H2, I2, r2, q2⟩ => hm pins s2 σ H2 x vs v us Q I2 r1 r2 q2
end
end L2
namespace L2
open PySem PySem.Spec PyProof.Rows
def MtM (X : Cx) (id : String) (r : V -> List V -> Hp -> VK -> Prop) : Prop :=
 ∀ (pins : List (Addr × Obj)) (s : Shared) (σ : St) (H : Hp) (x : V) (xs : List V) (v : Value) (us : List Value) (Q : VK), Inv X pins σ H s -> RelV x v -> Vals xs us -> r x xs H Q ->
  wpAny (model X.prog X.w) X.A (call (.builtin id) (v :: us)) (EP X pins σ Q) X.xe s
theorem Vals.one : ∀ {x : V} {us : List Value}, Vals [x] us -> ∃ u, us = [u] /\ RelV x u
 | _, _, .cons r .nil => ⟨_, rfl, r⟩
theorem Vals.two : ∀ {x y : V} {us : List Value}, Vals [x, y] us -> ∃ u v, us = [u, v] /\ RelV x u /\ RelV y v
 | _, _, _, .cons r (.cons q .nil) => ⟨_, _, rfl, r, q⟩
theorem Vals.rep {xs : List V} {us : List Value} (h : Vals xs us) : ∀ k : Nat, Vals (List.replicate k xs).flatten (List.replicate k us).flatten
  | 0 => .nil
  | k + 1 => by
    rw [List.replicate_succ, List.replicate_succ, List.flatten_cons, List.flatten_cons]
    exact Vals.append h (Vals.rep h k)
theorem foldl_rep (its : List Value) : ∀ (k : Nat) (acc : List Value),
    List.foldl (fun x1 x2 => x1 ++ x2) acc.toArray (List.replicate k its.toArray) = (acc ++ (List.replicate k its).flatten).toArray
  | 0, acc => by simp
  | k + 1, acc => by
    have e : acc.toArray ++ its.toArray = (acc ++ its).toArray := by simp
    have e2 : (acc ++ its) ++ (List.replicate k its).flatten = acc ++ (List.replicate (k + 1) its).flatten := by
      rw [List.replicate_succ, List.flatten_cons, List.append_assoc]
    rw [← e2, ← foldl_rep its k (acc ++ its), ← e, List.replicate_succ, List.foldl_cons]
section
variable {X : Cx} {pins : List (Addr × Obj)} {σ : St} {H : Hp} {s : Shared} {l b : Addr} {xs ys zs : List V}
theorem Inv.lset {its its' : List Value} {n : Nat} {f : Array Value -> Array Value} {t' : Nat} (I : Inv X pins σ H s) (hH : H l = some (.lst xs))
  (e : s.heap.get? l = some { cls := .type "list", data := .seq its.toArray n }) (hf : f its.toArray = its'.toArray) (hv : Vals ys its') (hz : ys.length ≤ sizeLine) :
  Inv X pins σ (upd H l (.lst ys)) { s with heap := s.heap.update l (Obj.mapSeq f), toks := t' } := by
 have q := PySem.IsL.update e f
 rw [hf] at q
 refine I.write (x := l) (e := l) (by rw [hH]; exact trivial) (.inl rfl) (fun b' u hb hu => (Heap.get?_update_other s.heap (Obj.mapSeq f) (Ne.symm hb)).trans hu) ⟨_, q⟩ ?_
 exact ⟨hz, its', _, hv, q⟩
theorem Inv.lnew {its : List Value} {t' : Nat} (I : Inv X pins σ H s) (hv : Vals ys its) (hz : ys.length ≤ sizeLine) :
  Inv X pins σ (upd H s.heap.objs.size (.lst ys)) { s with heap := s.heap.push { cls := .type "list", data := .seq its.toArray }, toks := t' } :=
 I.laid (fun _ _ q => Heap.get?_push_of_some _ q) (Nat.le_refl _) ⟨hz, its, 0, hv, Heap.get?_push_size _ rfl⟩
theorem Inv.fresh (I : Inv X pins σ H s) : H s.heap.objs.size = none := I.hok.fresh (Nat.le_refl _)
theorem Inv.lstM (I : Inv X pins σ H s) (hH : H l = some (.lst xs)) : xs.length ≤ sizeLine /\ ∃ (its : List Value) (n : Nat), Vals xs its /\ xs.length = its.length /\ s.heap.get? l = some { cls := .type "list", data := .seq its.toArray n } := by
 obtain ⟨z, its, n, r, e⟩ := I.hok l _ hH
 exact ⟨z, its, n, r, r.length, e⟩
theorem Nh {n : Nat} (h : n ≤ sizeLine) : Builtin.List.listTooLong n = false := by
 unfold Builtin.List.listTooLong
 exact decide_eq_false (by omega)
end
section
variable {X : Cx}
def YM : V -> List V -> Hp -> VK -> Prop := fun x vs H Q => ∃ l xs y, x = .ref l /\ vs = [y] /\ H l = some (.lst xs) /\ xs.length < sizeLine /\ Q .non (upd H l (.lst (xs ++ [y])))
theorem Oc : MtM X "list.append" YM := by
 intro pins s σ H x vs v us Q I rx rv h
 obtain ⟨l, xs, y, rfl, rfl, hH, hz, q⟩ := h
 cases rx
 obtain ⟨u, rfl, ru⟩ := rv.one
 obtain ⟨z, its, n, r, hl, e⟩ := I.lstM hH
 refine call_meets F.slot_list_append ⟨_, e, rfl⟩ F.entry_list_append (F.args_list_append_2 _ _) (PySem.list_append l its.toArray n u (by rw [List.size_toArray]; omega)) ⟨e, ?_⟩
 refine ⟨.non, _, I.lset (its' := its ++ [u]) hH e (by simp) (r.append (.cons ru .nil)) ?_, rfl, q⟩
 rw [List.length_append, List.length_singleton]
 omega
def Yf : V -> List V -> Hp -> VK -> Prop := fun x vs H Q => ∃ l b xs zs, x = .ref l /\ vs = [.ref b] /\ H l = some (.lst xs) /\ H b = some (.lst zs) /\ xs.length + zs.length ≤ sizeLine /\ Q .non (upd H l (.lst (xs ++ zs)))
theorem UK : MtM X "list.extend" Yf := by
 intro pins s σ H x vs v us Q I rx rv h
 obtain ⟨l, b, xs, zs, rfl, rfl, hH, hB, hz, q⟩ := h
 cases rx
 obtain ⟨u, rfl, ru⟩ := rv.one
 cases ru
 obtain ⟨z, its, n, r, hl, e⟩ := I.lstM hH
 obtain ⟨z2, its2, n2, r2, hl2, e2⟩ := I.lstM hB
 have hsz : its.toArray.size + its2.toArray.size ≤ sizeLine := by rw [List.size_toArray, List.size_toArray]; omega
 have hlong : ¬ (!its.toArray.isEmpty && Builtin.List.listTooLong (its.toArray.size + its2.toArray.size)) = true := by
  rw [Nh hsz, Bool.and_false]
  exact Bool.false_ne_true
 refine call_meets F.slot_list_extend ⟨_, e, rfl⟩ F.entry_list_extend (F.args_list_extend_2 _ _)
  (AutoSeq1.list_extend_list_list_0 l its.toArray n b its2.toArray n2 hlong (by rw [List.size_toArray]; omega) (by omega)) ⟨e, e2, ?_⟩
 refine ⟨.non, _, I.lset (its' := its ++ its2) hH e (by simp) (r.append r2) ?_, rfl, q⟩
 rw [List.length_append]
 omega
def iP : R2 := fun x y H Q => ∃ l b xs zs, x = .ref l /\ y = .ref b /\ H l = some (.lst xs) /\ H b = some (.lst zs) /\ xs.length + zs.length ≤ sizeLine /\ ∀ p, H p = none -> Q (.ref p) (upd H p (.lst (xs ++ zs)))
theorem aR : OpR X (binaryOp .Add) iP := by
 intro pins s σ H x y v u Q I rx ry h
 obtain ⟨l, b, xs, zs, rfl, rfl, hH, hB, hz, q⟩ := h
 cases rx
 cases ry
 obtain ⟨z, its, n, r, hl, e⟩ := I.lstM hH
 obtain ⟨z2, its2, n2, r2, hl2, e2⟩ := I.lstM hB
 refine PySem.P.add_list e e2 ?_ (by rw [List.size_toArray, List.size_toArray]; omega)
 have ea : its.toArray ++ its2.toArray = (its ++ its2).toArray := by simp
 rw [ea]
 exact ⟨.ref _, _, I.lnew (t' := s.toks) (r.append r2) (by rw [List.length_append]; omega), rfl, q _ I.fresh⟩
def gg : R2 := fun x y H Q => ∃ l k xs, x = .ref l /\ y = .int k /\ H l = some (.lst xs) /\ -(2 ^ 63) ≤ k /\ k < 2 ^ 63 /\ xs.length * k.toNat ≤ sizeLine /\
 ∀ p, H p = none -> Q (.ref p) (upd H p (.lst (List.replicate k.toNat xs).flatten))
theorem len_rep {α : Type} (xs : List α) (k : Nat) : (List.replicate k xs).flatten.length = k * xs.length := by
 induction k with
 | zero => simp
 | succ k ih => rw [List.replicate_succ, List.flatten_cons, List.length_append, ih, Nat.succ_mul, Nat.add_comm]
theorem aa : OpR X (binaryOp .Mult) gg := by
  intro pins s σ H x y v u Q I rx ry h
  obtain ⟨l, k, xs, rfl, rfl, hH, h1, h2, hz, q⟩ := h
  cases rx
  obtain ⟨t, rfl⟩ := ry
  obtain ⟨z, its, n, r, hl, e⟩ := I.lstM hH
  have hlen : its.toArray.size * k.toNat ≤ sizeLine := by rw [List.size_toArray, ← hl]; exact hz
  have hcap : ¬ its.toArray.size * k.toNat > (2 ^ 63 - 1) / 8 := by
    have : (sizeLine : Nat) ≤ (2 ^ 63 - 1) / 8 := by decide
    omega
  have hfit : ¬ (!Builtin.List.listFitsIndex k) = true := by
    rw [fitsIndex_both h1 h2]
    exact Bool.false_ne_true
  have hlong : ¬ Builtin.List.listTooLong (its.toArray.size * k.toNat) = true := by
    rw [Nh hlen]
    exact Bool.false_ne_true
  have hnew : List.foldl (fun x1 x2 => x1 ++ x2) #[] (List.replicate (if its.toArray.isEmpty = true then 0 else k.toNat) its.toArray) = (List.replicate k.toNat its).flatten.toArray := by
    have f0 : ∀ m : Nat, List.foldl (fun x1 x2 => x1 ++ x2) #[] (List.replicate m its.toArray) = (List.replicate m its).flatten.toArray := fun m => by
      have := foldl_rep its m []
      rw [List.nil_append] at this
      exact this
    rw [f0]
    cases its with
    | nil => simp
    | cons a r' => rw [if_neg (by simp)]
  refine wpAny_binaryOp_repeat_ref (T := "list") (U := "int") (by decide) ⟨_, e, rfl⟩ (fun s' => typeIs_int s' k t) noFill_list_mul F.fills_int_mul F.slot_int_rmul repeat_list F.slot_int_index.lookup
    (call_meets F.slot_int_rmul (typeIs_int s k t) F.entry_int_rmul (F.args_int_rmul_2 _ _) (int___rmul___int_list k t l its.toArray n)
      ⟨e, rfl, ⟨_, e, rfl⟩, call_meets F.slot_list_mul ⟨_, e, rfl⟩ F.entry_list_mul (F.args_list_mul_2 _ _) (AutoListH.list___mul___list_int_3 l its.toArray n k t hfit hcap hlong) ⟨e, ?_⟩⟩)
  rw [hnew]
  exact ⟨.ref _, _, I.lnew (t' := s.toks) (r.rep k.toNat) (by rw [len_rep, Nat.mul_comm]; exact hz), rfl, q _ I.fresh⟩
end
section
variable {prog : Program} {w : World} {A : Around} {E : Value -> Shared -> Prop} {s : Shared}
end
section
variable {X : Cx}
end
end L2
namespace Att
open PySem PySem.W PySem.Calls PyProof.Rows
theorem ints_of_wellAll {P : Params} {h : Heap} : ∀ (ns : List Int) (vs : List Value), WellAll P h vs (ns.map WData.int) -> IntsAre vs ns := by
  intro ns
  induction ns with
  | nil =>
    intro vs w
    rw [List.map_nil] at w
    cases w
    exact .nil
  | cons n ns ih =>
    intro vs w
    rw [List.map_cons] at w
    cases w with
    | cons a b =>
      cases a
      exact .cons _ _ (ih _ b)
theorem script_of {l : OpenLaw} {n : Nat} (hn : l.most = some n) {P : Params} {h : Heap} {args : List WData} {vals : List Value}
    (hpre : l.row.toRowW.claim.pre args = true) (hwl : WellAll P h vals args) :
    ∃ a vs ns, vals = [Value.ref a] /\ args = [WData.list (ns.map WData.int)] /\ h.get? a = some { cls := .type "list", data := .seq vs.toArray } /\ IntsAre vs ns /\ ns.length ≤ n := by
  have hsh : WShape.hasAll [] args [.list .int] = true := (pre_splitW hpre).1
  have hc : l.pre.holds [] { args := args } = true := (pre_splitW hpre).2
  obtain ⟨d, r, rfl, h1, h2⟩ := hasAllW_cons hsh
  obtain rfl := hasAllW_nil h2
  obtain ⟨xs, rfl, h3⟩ := hasW_list h1
  obtain ⟨ns, rfl⟩ := items_int h3
  have hlen : ns.length ≤ n := by
    unfold OpenLaw.pre at hc
    have h4 : (WTm.not (.lt (.lit (.int (n : Int))) (.len (.arg 0)))).holds [] { args := [.list (ns.map .int)] } = true := by
      have h4 := (holds_andW hc).1
      rw [hn] at h4
      exact h4
    have h5 := condW_of h4 (w_not (w_lt w_lit (w_len_list (w_arg rfl))))
    rw [List.length_map] at h5
    refine Nat.le_of_not_lt fun q => ?_
    have q' : (n : Int) < ((ns.length : Nat) : Int) := by omega
    first
      | (rw [decide_eq_true q'] at h5; exact absurd h5 (by decide))
      | (simp at h5; omega)
  cases hwl with
  | cons w1 w2 =>
    cases w2
    cases w1 with
    | list ho hall => exact ⟨_, _, ns, rfl, rfl, ho, ints_of_wellAll ns _ hall, hlen⟩
theorem post_true (l : OpenLaw) (args : List WData) : l.row.toRowW.claim.post args (.bool true) args = true :=
 postW_of (r := l.row.toRowW) (X := (true == true))
  (show WShape.has [] (.bool true) .bool = true by first | rfl | decide | simp [WShape.has, WShape.arms, WShape.armsAll])
  (show (WTm.eq .res (.lit (.bool true))).value [] { args := args, res := some (.bool true), after := args } = some (.bool (true == true)) from w_eq_bool (w_res rfl) w_lit) rfl
theorem attach_call {l : OpenLaw} {n : Nat} {q : Program} {loose : List Str} {XP : (Str -> Option Value) -> Heap -> Prop} {YP : World -> Heap -> Prop} {d : DefRec}
  (hn : l.most = some n) (hdf : d.params.defaults = [])
  (call : ∀ (w : World) (s₀ s₁ : Shared) (mg mb : Str -> Option Value) (fa : Addr) (o : Obj) (pm cd doc : Value) (a : Addr) (vs : List Value) (ns : List Int),
   Ground q loose [] XP w s₀ mg mb s₁.heap -> YP w s₁.heap ->
   s₁.heap.get? fa = some o -> o.data = .func (docDef d.name d.params d.body d.scope pm cd doc) -> s₁.heap.CodeRec cd d.name -> mg d.name = some (.ref fa) ->
   s₁.heap.get? a = some { cls := .type "list", data := .seq vs.toArray } -> IntsAre vs ns -> ns.length ≤ n -> s₁.gens = #[] ->
   codeAny (model l.prog w) callerA (.call (.ref fa) ⟨[.ref a], []⟩) (fun r s' => r = .ok (.ret (.bool true)) /\ OldK s₁.heap s'.heap /\ s'.os = s₁.os /\ AllBare s'.gens) s₁) :
  WalkO q loose XP YP l.row.toRowW d [] (fun f vs => PySem.call f vs) := by
 intro w s₀ s₁ mg mb G Y fa o pm cd doc dV kV ho hd hcd hD hmg hg args vals as hpre hlay hrd hwl hlo
 obtain rfl : dV = .none := Dflts.none hD hdf
 obtain rfl : kV = .none := Dflts.noKw hD
 obtain ⟨a, vs, ns, rfl, rfl, hobj, hints, hlen⟩ := script_of hn hpre hwl
 refine enter_call (codeAny_mono (call w s₀ s₁ mg mb fa o pm cd doc a vs ns G Y ho (fd_plain hd) hcd hmg hobj hints hlen hg) fun r s' hq => ?_)
 obtain ⟨rfl, h2, h3, h4⟩ := hq
 exact ⟨.inl ⟨.bool true, .bool true, [], rfl, fun _ => rfl, .bool true, post_true l _, fun _ => ⟨List.Pairwise.nil, fun _ hm => (nomatch hm)⟩⟩, h2, h3, h4⟩
section
variable {prog : Program} {w : World} {A : Around} {E : Value -> Shared -> Prop} {s : Shared} {K : Frag}
end
end Att
namespace L2
open PySem PySem.Spec PyProof.Rows
theorem Ph : ∀ {vs : List Value} {ns : List Int}, IntsAre vs ns -> Vals (ns.map V.int) vs
 | _, _, .nil => .nil
 | _, _, .cons n t h => .cons ⟨t, rfl⟩ (Ph h)
def c9 (H : Hp) : Prop := ∀ b, H b = none ∨ ∃ o xs, H b = some (.frz o (.lst xs))
theorem WM {P : Program} {w : World} {K : PySem.W.Frag} {mg mb : Str -> Option Value} {CX : CXT} {k : Nat} {fa a : Addr} {fd : FuncData} {x : Str} {sp : Sp} {s₁ : Shared} {vs : List Value} {ns : List Int}
    (KX : K.In s₁.heap) (hns : s₁.heap.Ns mainGlobals mg) (hb : s₁.heap.Ns builtinsNs mb) (hbb : ∀ x : Str, x ≠ "__name__" -> mb x = bootBuiltins x) (hlim : s₁.heap.NoLimit) (hg : s₁.gens = #[])
    (ha : s₁.heap.get? a = some { cls := .type "list", data := .seq vs.toArray }) (hi : IntsAre vs ns) (hl : ns.length ≤ sizeLine) (hr : NL k callerA)
    (F : ∀ base : Heap, K.In base -> base.Ns mainGlobals mg -> PU P w K mg base CX k fa fd [x] sp) (hbind : ∀ (s : Shared) (u : Value), BindsTo s fd ⟨[u], []⟩ [(x, u)])
    (hsp : ∀ H : Hp, c9 H -> SqL K H a (ns.map V.int) -> sp [.ref a] H (fun v _ => v = .bl true) fun _ _ _ => False)
    (hCX : ∀ H e s', CX [] H s₁ (fun _ _ _ => False) e s' -> False) :
    codeAny (model P w) callerA (.call (.ref fa) ⟨[.ref a], []⟩) (fun r s' => r = .ok (.ret (.bool true)) /\ OldK s₁.heap s'.heap /\ s'.os = s₁.os /\ AllBare s'.gens) s₁ := by
  have rv := Ph hi
  have lenV := hi.length
  have core : ∀ H : Hp, c9 H -> SqL K H a (ns.map V.int) -> HOk P w H s₁.heap -> (∀ b, H b ≠ none -> b = a) -> (H a ≠ none -> K.lookup a = none) ->
      codeAny (model P w) callerA (.call (.ref fa) ⟨[.ref a], []⟩) (fun r s' => r = .ok (.ret (.bool true)) /\ OldK s₁.heap s'.heap /\ s'.os = s₁.os /\ AllBare s'.gens) s₁ := by
    intro H hO hS hok hA hK
    have base_of : ∀ {b : Addr} {o : Obj}, s₁.heap.get? b = some o -> H b = none -> (WS s₁.heap H).get? b = some o := fun e n => Wo e n
    have noA : ∀ {b : Addr} {o : Obj} {es : Array DictEntry} {ep : Nat}, s₁.heap.get? b = some o -> o.data = .dict es ep -> H b = none := fun {b o es ep} e d => by
      cases q : H b with
      | none => rfl
      | some u =>
        have e' : b = a := hA b (by rw [q]; simp)
        subst e'
        rw [ha] at e; cases e
        have d' : Data.seq vs.toArray _ = Data.dict es ep := d
        cases d'
    have nsK : ∀ {b : Addr} {m : Str -> Option Value}, s₁.heap.Ns b m -> (WS s₁.heap H).Ns b m := fun {b m} ⟨o, es, ep, e, d, r⟩ => ⟨o, es, ep, base_of e (noA e d), d, r⟩
    have hKb : K.In (WS s₁.heap H) := fun b o e => base_of (KX b o e) (by
      cases q : H b with
      | none => rfl
      | some u =>
        have e' : b = a := hA b (by rw [q]; simp)
        subst e'
        rw [hK (by rw [q]; simp)] at e; cases e)
    have hM : Mod K mg (WS s₁.heap H) := ⟨hKb, nsK hns, ⟨mb, nsK hb, hbb⟩, let ⟨mc, h1, h2⟩ := hlim; ⟨mc, nsK h1, h2⟩⟩
    have e0 : bf P w K mg (WS s₁.heap H) callerA [] s₁ H := ⟨rfl, hM, fun b o e => YW e, Nat.le_of_eq (T4 _ _), trivial, fun b hb => absurd (show b ∈ ([] : List Addr) from hb) (by simp), hok, .of_eq hg⟩
    refine codeAny_mono ((F _ hKb (nsK hns)).run callerA [] s₁ H ⟨[.ref a], []⟩ [.ref a] [.ref a] _ _ hr e0 (hbind s₁ (.ref a)) (.cons rfl .nil) (hsp H hO hS)) fun r s' h => ?_
    cases r with
    | error e => exact (hCX H e s' h).elim
    | ok fl =>
      cases fl with
      | next => exact False.elim h
      | brk => exact False.elim h
      | cont => exact False.elim h
      | ret u =>
        obtain ⟨v, H', os, bare, un, hok', r', q⟩ := h
        have q' : v = .bl true := q
        subst q'
        obtain rfl : u = Value.bool true := r'
        refine ⟨rfl, OldK.of_keep fun b o e => ?_, os, bare⟩
        cases q : H b with
        | none => exact un.keep b o e q (by intro z; exact absurd (show b ∈ ([] : List Addr) from z) (by simp)) (by simp)
        | some u =>
          rcases hO b with z | ⟨ob, xs, z⟩
          · rw [q] at z; cases z
          · have z2 := un.frzs b ob _ z
            obtain ⟨e1, _⟩ := hok b _ z
            obtain ⟨e2, _⟩ := hok' b _ z2
            rw [e] at e1; cases e1
            exact e2
  cases hk : K.lookup a with
  | some o =>
    have e := KX a o hk
    rw [ha] at e
    cases e
    refine core (fun _ => none) (fun _ => .inl rfl) (.inr ⟨_, vs.toArray, _, hk, rfl, rfl, rfl, by rw [List.size_toArray, lenV]; exact hl, by simpa using rv⟩) (fun b u z => by have z' : (none : Option HO) = some u := z; cases z') (fun b z => absurd rfl z) fun z => absurd rfl z
  | none =>
    refine core (fun b => if b = a then some (.frz { cls := .type "list", data := .seq vs.toArray } (.lst (ns.map V.int))) else none) (fun b => ?_) (.inl (.inr ⟨{ cls := .type "list", data := .seq vs.toArray }, if_pos rfl⟩)) (fun b u z => ?_) (fun b z => ?_) fun _ => hk
    · by_cases hb : b = a
      · exact .inr ⟨_, _, if_pos hb⟩
      · exact .inl (if_neg hb)
    · by_cases hb : b = a
      · have z' := (if_pos hb).symm.trans z
        cases z'
        subst hb
        exact ⟨ha, by rw [List.length_map]; exact hl, vs, _, rv, ha⟩
      · have z' := (if_neg hb).symm.trans z
        cases z'
    · by_cases hb : b = a
      · exact hb
      · exact absurd (if_neg hb) z
end L2
namespace L2
open PySem PySem.Spec PyProof.Rows
abbrev KOf {K : PySem.W.Frag} {h : Heap} (_ : K.In h) : PySem.W.Frag := K
theorem X1 {l : PySem.W.OpenLaw} {n k : Nat} {q : Program} {loose : List Str} {XP : (Str -> Option Value) -> Heap -> Prop} {YP : World -> Heap -> Prop} {d : DefRec} {K : Params -> PySem.W.Frag} {CX : World -> CXT} {sp : World -> Sp} {x : Str}
  (hn : l.most = some n) (hn2 : n ≤ sizeLine) (hdf : d.params.defaults = []) (hr : NL k callerA)
  (hY : ∀ (w : World) (h : Heap), YP w h -> (K w.params).In h)
  (F : ∀ (w : World) (mg : Str -> Option Value) (fa : Addr) (h : Heap), (K w.params).In h -> h.Ns mainGlobals mg -> mg d.name = some (.ref fa) ->
   ∃ fd : FuncData, (∀ (s : Shared) (u : Value), BindsTo s fd ⟨[u], []⟩ [(x, u)]) /\
    ∀ base : Heap, (K w.params).In base -> base.Ns mainGlobals mg -> PU l.prog w (K w.params) mg base (CX w) k fa fd [x] (sp w))
  (hsp : ∀ (w : World) (H : Hp) (a : Addr) (ns : List Int), ns.length ≤ n -> c9 H -> SqL (K w.params) H a (ns.map V.int) -> sp w [.ref a] H (fun v _ => v = .bl true) fun _ _ _ => False)
  (hCX : ∀ (w : World) (H : Hp) (s : Shared) (e : Value) (s' : Shared), CX w [] H s (fun _ _ _ => False) e s' -> False) :
  PySem.W.WalkO q loose XP YP l.row.toRowW d [] (fun f vs => PySem.call f vs) := by
 refine Att.attach_call hn hdf fun w s₀ s₁ mg mb fa o pm cd doc a vs ns G Y ho hd hcd hmg hobj hints hlen hg => ?_
 have KX := hY w _ Y
 obtain ⟨fd, hb, hF⟩ := F w mg fa _ KX G.T.g hmg
 exact WM KX G.T.g G.T.b G.T.builtins G.T.nolimit hg hobj hints (Nat.le_trans hlen hn2) hr hF hb (fun H hO hS => hsp w H a ns hlen hO hS) fun H e s' => hCX w H s₁ e s'
end L2
namespace L2
open PySem PySem.Spec PyProof.Rows
def L4 (s : Stmt) : Arguments := match s with
 | .FunctionDef _ a _ _ _ _ _ _ _ _ => a
 | _ => { posonlyargs := [], args := [], vararg := none, kwonlyargs := [], kw_defaults := [], kwarg := none, defaults := [] }
def Gy (s : Stmt) : List Stmt := match s with
 | .FunctionDef _ _ b _ _ _ _ _ _ _ => b
 | _ => []
def AI (s : Stmt) : Scope := match s with
 | .FunctionDef _ _ _ _ _ _ sc _ _ _ => sc
 | _ => { kind := .function, names := [], isGenerator := false, isCoroutine := false }
abbrev CX0 : CXT := fun _ _ _ _ _ _ => False
abbrev E0 : XK := fun _ _ _ => False
theorem fN {X : Cx} : Passes CX0 X E0 := fun _ _ _ _ _ _ _ h => h.elim
structure Fun (K : PySem.W.Frag) (x qual : Str) (st : Stmt) (f : Addr) (fd : FuncData) : Prop where
 ex : ∃ (oc : Value) (od : Option Addr) (kV doc pm : Value) (an : Option Addr) (cdv ct : Value) (osl : Array (Option Value)),
  fd = PySem.W.fnOf x qual (L4 st) (Gy st) (AI st) .none kV doc pm an cdv ct /\ K.lookup f = some ⟨oc, od, .func fd, osl⟩ /\ PySem.W.codeIn K cdv qual = true
 kp : PySem.W.keepIn K (.ref f) = true
section
variable {P : Program} {w : World} {K : PySem.W.Frag} {mg : Str -> Option Value} {base : Heap}
theorem Fun.ok {x qual : Str} {st : Stmt} {f : Addr} {fd : FuncData} {N ps : List Str} {k : Nat} {sp : Sp} (F : Fun K x qual st f fd) (S : AQ N ps (AI st)) (len : ∀ vs H Q E, sp vs H Q E -> vs.length = ps.length)
  (hbody : ∀ (cdv : Value) (A : Around) (outer : List Env) (s : Shared) (H : Hp) (vs : List V) (Q : VK) (E : XK), NL k (A.deeper (envOfC qual (AI st) s.heap.objs.size f cdv)) -> sp vs H Q E ->
   ∃ t, PSs (XY CX0 P w K mg base N qual (AI st) f cdv A outer s H E).nox (Gy st) t /\ t { nx := fun _ H' => Q .non H', rt := Q } (start N vs) H) : PU P w K mg base CX0 (k + 1) f fd ps sp := by
 obtain ⟨oc, od, kV, doc, pm, an, cdv, ct, osl, rfl, lk, hcd⟩ := F.ex
 refine fI lk hcd S len fun A outer s H vs Q E hr hsp => ?_
 obtain ⟨t, h, q⟩ := hbody cdv A outer s H vs Q E hr hsp
 exact ⟨t, h.nox, q⟩
theorem Fun.binds {x qual : Str} {st : Stmt} {f : Addr} {fd : FuncData} {ps : List Str} (F : Fun K x qual st f fd)
  (h : ∀ (kV doc pm : Value) (an : Option Addr) (cdv ct : Value) (us : List Value), us.length = ps.length -> bindArgs (PySem.W.fnOf x qual (L4 st) (Gy st) (AI st) .none kV doc pm an cdv ct) ⟨us, []⟩ = pure (ps.zip us)) : Binds K fd ps [] := by
 obtain ⟨oc, od, kV, doc, pm, an, cdv, ct, osl, rfl, lk, hcd⟩ := F.ex
 exact .all (h kV doc pm an cdv ct)
theorem aC {x qual : Str} {st : Stmt} {f : Addr} {oc : Value} {od an : Option Addr} {osl : Array (Option Value)} {kV doc pm cdv ct : Value} (l : K.lookup f = some ⟨oc, od, .func (PySem.W.fnOf x qual (L4 st) (Gy st) (AI st) .none kV doc pm an cdv ct), osl⟩)
  (c : PySem.W.codeIn K cdv qual = true) (k : PySem.W.keepIn K (.ref f) = true) : Fun K x qual st f (PySem.W.fnOf x qual (L4 st) (Gy st) (AI st) .none kV doc pm an cdv ct) := ⟨⟨oc, od, kV, doc, pm, an, cdv, ct, osl, rfl, l, c⟩, k⟩
end
section
variable {X : Cx}
end
theorem X7 {A B : Prop} (h : B) : if false = true then A else B := by
 rw [if_neg Bool.false_ne_true]
 exact h
theorem YE {A B : Prop} (h : A) : if true = true then A else B := by
 rw [if_pos rfl]
 exact h
def Ci (H H' : Hp) : Prop := ∀ b o, H b = some o -> H' b = some o
end L2
end
section
namespace L2
open PySem PySem.Spec PyProof.Rows
def G6 (cells : List (Str × Addr)) : List (Str × NameKind) -> List (Str × Addr) -> List (Str × Addr)
 | [], cs => cs
 | (n, k) :: r, cs => if (k == NameKind.free) = true then G6 cells r ((n, (cells.lookup n).getD 0) :: cs) else G6 cells r cs
theorem Po {env : Env} : ∀ (names : List (Str × NameKind)) (cs : List (Str × Addr)), (∀ y ∈ names, y.2 = .free -> ∃ a, env.cells.lookup y.1 = some a) ->
    (forIn names cs fun (x : Str × NameKind) r => match x with | (name, kind) => if (kind == NameKind.free) = true then (do let a ← cellOf env name; pure (ForInStep.yield ((name, a) :: r))) else pure (ForInStep.yield r) : Sem (List (Str × Addr))) = pure (G6 env.cells names cs)
  | [], cs, _ => by simp [G6]
  | (n, k) :: r, cs, h => by
    rw [List.forIn_cons]
    have ih := fun cs => Po r cs fun y hy => h y (List.mem_cons_of_mem _ hy)
    by_cases hk : (k == NameKind.free) = true
    · obtain ⟨a, ha⟩ := h (n, k) List.mem_cons_self (by simpa using hk)
      have ha' : env.cells.lookup n = some a := ha
      have e : cellOf env n = pure a := by unfold cellOf; rw [ha']
      simp only [hk, if_true, e, pure_bind, G6, ha', Option.getD_some]
      exact ih _
    · simp only [hk, if_false, pure_bind, G6]
      exact ih _
theorem Qd {scope : Scope} {env : Env} (h : ∀ y ∈ scope.names, y.2 = .free -> ∃ a, env.cells.lookup y.1 = some a) : closureFor scope env = pure (G6 env.cells scope.names []) := by
 unfold closureFor
 have := Po (env := env) scope.names [] h
 simp only [bind_pure] at this ⊢
 exact this
theorem Lc {cells : List (Str × Addr)} {x : Str} {c : Addr} : ∀ {names : List (Str × NameKind)} {cs : List (Str × Addr)}, (∀ y ∈ names, y.2 = .free -> ∃ a, cells.lookup y.1 = some a) ->
    (G6 cells names cs).lookup x = some c -> cs.lookup x = some c ∨ cells.lookup x = some c
  | [], cs, _, h => .inl h
  | (n, k) :: r, cs, hh, h => by
    have hr : ∀ y ∈ r, y.2 = .free -> ∃ a, cells.lookup y.1 = some a := fun y hy => hh y (List.mem_cons_of_mem _ hy)
    unfold G6 at h
    by_cases hk : (k == NameKind.free) = true
    · rw [if_pos hk] at h
      rcases Lc hr h with q | q
      · obtain ⟨a, ha⟩ := hh (n, k) List.mem_cons_self (by simpa using hk)
        have ha' : cells.lookup n = some a := ha
        rw [List.lookup_cons] at q
        cases hx : x == n with
        | true =>
          rw [hx, ha'] at q
          have e : x = n := by simpa using hx
          subst e
          cases q
          exact .inr ha'
        | false =>
          rw [hx] at q
          exact .inl q
      · exact .inr q
    · rw [if_neg hk] at h
      exact Lc hr h
theorem Jf {cells : List (Str × Addr)} {x : Str} : ∀ {names : List (Str × NameKind)} {cs : List (Str × Addr)}, ((x, NameKind.free) ∈ names ∨ ∃ c, cs.lookup x = some c) -> ∃ c, (G6 cells names cs).lookup x = some c
  | [], cs, h => h.elim (fun z => nomatch z) id
  | (n, k) :: r, cs, h => by
    unfold G6
    by_cases hk : (k == NameKind.free) = true
    · rw [if_pos hk]
      refine Jf ?_
      by_cases hx : x = n
      · subst hx
        exact .inr ⟨_, by rw [List.lookup_cons, beq_self_eq_true]⟩
      · rcases h with h | ⟨c, h⟩
        · rcases List.mem_cons.mp h with e | e
          · cases e; exact absurd rfl hx
          · exact .inl e
        · refine .inr ⟨c, ?_⟩
          rw [List.lookup_cons, show (x == n) = false by simpa using hx]
          exact h
    · rw [if_neg hk]
      refine Jf ?_
      rcases h with h | h
      · rcases List.mem_cons.mp h with e | e
        · cases e; exact absurd rfl hk
        · exact .inl e
      · exact .inr h
theorem Ky {env : Env} {x : Str} : ∀ {names : List (Str × NameKind)}, names.lookup x = some .free ->
    (names.map fun (n, k) => if (k == NameKind.free && env.scope.kind == .function && env.kindOf n == some .cell) then (n, NameKind.cell) else (n, k)).lookup x = some .cell ∨
    (names.map fun (n, k) => if (k == NameKind.free && env.scope.kind == .function && env.kindOf n == some .cell) then (n, NameKind.cell) else (n, k)).lookup x = some .free
  | [], h => by simp at h
  | (n, k) :: r, h => by
    have ih := @Ky env x r
    show List.lookup x ((if (k == NameKind.free && env.scope.kind == .function && env.kindOf n == some .cell) = true then (n, NameKind.cell) else (n, k)) :: _) = _ ∨ List.lookup x ((if (k == NameKind.free && env.scope.kind == .function && env.kindOf n == some .cell) = true then (n, NameKind.cell) else (n, k)) :: _) = _
    cases hx : x == n with
    | true =>
      simp only [List.lookup_cons, hx] at h
      cases h
      by_cases hc : (NameKind.free == NameKind.free && env.scope.kind == .function && env.kindOf n == some .cell) = true
      · rw [if_pos hc]; simp only [List.lookup_cons, hx]; exact .inl trivial
      · rw [if_neg hc]; simp only [List.lookup_cons, hx]; exact .inr trivial
    | false =>
      simp only [List.lookup_cons, hx] at h
      by_cases hc : (k == NameKind.free && env.scope.kind == .function && env.kindOf n == some .cell) = true
      · rw [if_pos hc]; simp only [List.lookup_cons, hx]; exact ih h
      · rw [if_neg hc]; simp only [List.lookup_cons, hx]; exact ih h
theorem MK {env : Env} {scope : Scope} {x : Str} {k' : NameKind} (hk : k' = .cell ∨ k' = .free) (h : (relabel scope env).names.lookup x = some k') : (x, NameKind.free) ∈ scope.names ∨ (x, NameKind.cell) ∈ scope.names := by
 have hm := PySem.mem_of_lookup h
 obtain ⟨⟨n, k⟩, hy, e⟩ := List.mem_map.mp (show (x, k') ∈ scope.names.map _ from hm)
 by_cases hc : (k == NameKind.free && env.scope.kind == .function && env.kindOf n == some .cell) = true
 ·simp only [hc, if_true] at e
  cases e
  have : k = .free := by
   have := ((Bool.and_eq_true _ _).mp hc).1
   exact beq_iff_eq.mp ((Bool.and_eq_true _ _).mp this).1
  subst this
  exact .inl hy
 ·simp only [hc, if_false] at e
  cases e
  rcases hk with rfl | rfl
  ·exact .inr hy
  ·exact .inl hy
theorem CK : ∀ (names : List (Str × NameKind)) (n : Nat) (cs : List (Str × Addr)), cellsFrom n names cs = cellsFrom n names [] ++ cs
  | [], _, _ => rfl
  | (x, k) :: r, n, cs => by
    unfold cellsFrom
    split
    · rw [CK r _ ((x, n) :: cs), CK r _ [(x, n)]]; simp
    · exact CK r n cs
theorem Gu {x : Str} {c : Addr} : ∀ {names : List (Str × NameKind)} {n : Nat}, (x, c) ∈ cellsFrom n names [] -> (x, NameKind.cell) ∈ names
  | [], _, h => nomatch h
  | (y, k) :: r, n, h => by
    unfold cellsFrom at h
    split at h
    · rename_i hk
      rw [CK] at h
      rcases List.mem_append.mp h with z | z
      · exact List.mem_cons_of_mem _ (Gu z)
      · have e := List.mem_singleton.mp z
        cases e
        rw [beq_iff_eq.mp hk]
        exact List.mem_cons_self
    · exact List.mem_cons_of_mem _ (Gu h)
theorem KA {M : Model} {A : Around} {E : Value -> Shared -> Prop} {s : Shared} {scope : Scope} {globals : Addr} {cl : List (Str × Addr)} {qual : Str} {env : Env} {Q : Env -> Shared -> Prop}
  (hQ : ∀ h' : Heap, h'.Ns s.heap.objs.size (fun _ => none) -> (∀ b o, s.heap.get? b = some o -> h'.get? b = some o) -> CellsOk h' (s.heap.objs.size + 1) (cellsFrom (s.heap.objs.size + 1) scope.names []) ->
   Q (newEnv scope s.heap.objs.size globals (cellsFrom (s.heap.objs.size + 1) scope.names cl) qual none .none (some env) builtinsNs) { s with heap := h' }) :
  wpAny M A (newFunctionEnv scope globals cl [] qual none .none (some env)) Q E s := by
 simp only [newFunctionEnv, Option.isSome_some, if_true]
 refine wpAny_bind (wpAny_alloc ?_)
 refine wpAny_bind (wpAny_layCells _ (fun name kind cells => by cases hkc : kind == NameKind.cell <;> simp [hkc]) _ _ _ _ ?_)
 have ok := cellsFrom_ok scope.names (s.heap.push { cls := .type "dict", data := .dict #[] }) (s.heap.objs.size + 1) [] ⟨fun _ _ hm => (nomatch hm), List.Pairwise.nil⟩ (by rw [Heap.size_push]; exact Nat.le_refl _)
 rw [Heap.size_push] at ok
 rw [show ({ s with heap := s.heap.push { cls := .type "dict", data := .dict #[] } } : Shared).heap.objs.size = s.heap.objs.size + 1 from Heap.size_push ..]
 rw [List.forIn_nil]
 refine wpAny_bind (wpAny_pure (wpAny_pure ?_))
 exact hQ _ ((Heap.Ns.new s.heap (.type "dict")).keeps (pushCells_keeps _ _)) (fun b o e => pushCells_keeps _ _ b o (Heap.get?_push_of_some _ e)) ok
end L2
end
section
namespace L2
open PySem PySem.Spec PyProof.Rows
def Rc (N : List Str) (osc scope : Scope) : List Str -> List (Option Nat) -> Bool
 | [], [] => true
 | _ :: r, none :: q => Rc N osc scope r q
 | x :: r, some i :: q => decide (N[i]? = some x) && (decide (osc.names.lookup x = some .cell) || decide (osc.names.lookup x = some .free)) && decide (scope.names.lookup x = some .free) && Rc N osc scope r q
 | _, _ => false
theorem SY {N : List Str} {osc scope : Scope} : ∀ {N' : List Str} {ix : List (Option Nat)}, Rc N osc scope N' ix = true -> ix.length = N'.length
  | [], [], _ => rfl
  | _ :: r, none :: q, h => by
    unfold Rc at h
    simp [SY h]
  | x :: r, some i :: q, h => by
    unfold Rc at h
    have := ((Bool.and_eq_true _ _).mp h).2
    simp [SY this]
  | [], _ :: _, h => by simp [Rc] at h
  | _ :: _, [], h => by simp [Rc] at h
theorem Yc {N : List Str} {osc scope : Scope} : ∀ {N' : List Str} {ix : List (Option Nat)}, Rc N osc scope N' ix = true -> ∀ {j i : Nat} {x : Str}, N'[j]? = some x -> ix[j]? = some (some i) ->
    N[i]? = some x /\ (osc.names.lookup x = some .cell ∨ osc.names.lookup x = some .free) /\ scope.names.lookup x = some .free
  | [], [], _, j, _, _, h, _ => by simp at h
  | _ :: r, none :: q, h, j, i, x, h1, h2 => by
    unfold Rc at h
    cases j with
    | zero => simp at h2
    | succ j => exact Yc h (by simpa using h1) (by simpa using h2)
  | y :: r, some k :: q, h, j, i, x, h1, h2 => by
    unfold Rc at h
    obtain ⟨ha, hr⟩ := (Bool.and_eq_true _ _).mp h
    obtain ⟨ha, h3⟩ := (Bool.and_eq_true _ _).mp ha
    obtain ⟨h4, h5⟩ := (Bool.and_eq_true _ _).mp ha
    cases j with
    | zero =>
      simp at h1 h2
      subst h1 h2
      refine ⟨of_decide_eq_true h4, ?_, of_decide_eq_true h3⟩
      rcases (Bool.or_eq_true _ _).mp h5 with z | z
      · exact .inl (of_decide_eq_true z)
      · exact .inr (of_decide_eq_true z)
    | succ j => exact Yc hr (by simpa using h1) (by simpa using h2)
  | [], _ :: _, h, _, _, _, _, _ => by simp [Rc] at h
  | _ :: _, [], h, _, _, _, _, _ => by simp [Rc] at h
structure Ab (N : List Str) (osc : Scope) (N' : List Str) (ix : List (Option Nat)) (scope : Scope) : Prop where
 kind : scope.kind = .function
 cells : ∀ y ∈ scope.names, y.2 = .cell -> scope.names.lookup y.1 = some .cell
 names : ∀ y ∈ scope.names, y.2 = .local -> scope.names.lookup y.1 = some .local
 free : ∀ y ∈ scope.names, y.2 = .free -> (osc.names.lookup y.1 = some .cell ∨ osc.names.lookup y.1 = some .free)
 ok : Rc N osc scope N' ix = true
def sig (ix : List (Option Nat)) (σ : St) : St := ix.map fun o => o.bind fun i => (σ[i]?).join
def Hc (X : Cx) (N' : List Str) (scope : Scope) (s : Shared) (H : Hp) (fp : List Addr) : Cx where
 prog := X.prog
 w := X.w
 K := X.K
 mg := X.mg
 base := X.base
 A := X.A
 N := N'
 s₀ := s
 H₀ := H
 env := compEnvC scope (cellsFrom (s.heap.objs.size + 1) scope.names (G6 X.env.cells scope.names [])) s.heap.objs.size X.env
 outer := X.stack
 stack := X.stack
 ex := fp
 fn := fun x => decide (scope.names.lookup x = some .cell)
 calm := true
 pn := []
 xe := fun _ _ => False
section
variable {X : Cx} {pins : List (Addr × Obj)} {σ : St} {H : Hp} {s : Shared} {N' : List Str} {ix : List (Option Nat)} {scope : Scope} {fp : List Addr}
theorem Inv.cellsOf (I : Inv X pins σ H s) (S : Ab X.N X.env.scope N' ix scope) : ∀ y ∈ scope.names, y.2 = .free -> ∃ a, X.env.cells.lookup y.1 = some a := fun y hy hk => I.ok.has y.1 (S.free y hy hk)
theorem WG (S : Ab X.N X.env.scope N' ix scope) (hc : X.calm = true) (I : Inv X pins σ H s) (hf : ∀ b ∈ fp, QK X pins H b) (hlt : ∀ b ∈ fp, b < s.heap.objs.size) {h1 : Heap} {m1 : Str -> Option Value} {tk : Nat}
    (hn : h1.Ns s.heap.objs.size m1) (hk : ∀ b o, s.heap.get? b = some o -> h1.get? b = some o) (hC : CellsOk h1 (s.heap.objs.size + 1) (cellsFrom (s.heap.objs.size + 1) scope.names [])) :
    Inv (Hc X N' scope s H fp) [] (sig ix σ) H { s with heap := h1, toks := tk } := by
  have hcl := I.cellsOf S
  have sub : ∀ {x : Str} {c : Addr}, (G6 X.env.cells scope.names []).lookup x = some c -> X.env.cells.lookup x = some c := fun {x c} h => by
    rcases Lc hcl h with z | z
    · simp at z
    · exact z
  have old : ∀ {x : Str} {c : Addr}, X.env.cells.lookup x = some c -> c < s.heap.objs.size := fun {x c} h => by
    obtain ⟨v, oc, ho, _⟩ := I.cell x c h
    exact Heap.lt_size ho
  have look : ∀ {x : Str} {c : Addr}, (cellsFrom (s.heap.objs.size + 1) scope.names (G6 X.env.cells scope.names [])).lookup x = some c -> (x, c) ∈ cellsFrom (s.heap.objs.size + 1) scope.names [] ∨ X.env.cells.lookup x = some c := fun {x c} h => by
    rw [CK, List.lookup_append] at h
    cases e : (cellsFrom (s.heap.objs.size + 1) scope.names []).lookup x with
    | some a => rw [e] at h; cases h; exact .inl (PySem.mem_of_lookup e)
    | none => rw [e] at h; exact .inr (sub h)
  refine ⟨⟨I.ok.mod, S.kind, I.ok.glob, I.ok.blt, Nat.le_refl _, fun x y c h1 h2 => ?_, fun x hx => ?_, fun x c hx h => ?_, fun _ => I.ok.hd hc, I.ok.frames, .inl rfl, fun b hb => ?_, I.bs, Nat.le_trans I.ok.bsz I.sz, fun b o e hb => ?_, fun b hb hs => ?_, I.stack, I.stkFree⟩,
    rfl, I.bare, Un.kept hk, ⟨m1, hn, fun j x v h1 h2 h3 => ?_⟩, fun x c h => ?_, I.hok.fresh (Nat.le_refl _), fun x c h => ?_, fun p hp => absurd (show p ∈ ([] : List (Addr × Obj)) from hp) (by simp), I.hok.kept hk, ?_⟩
  · -- inj
    rcases look h1 with a | a <;> rcases look h2 with b | b
    · exact name_of_addr hC.apart a b
    · exact absurd (Nat.lt_of_lt_of_le (old b) (Nat.le_of_succ_le (hC.empty _ _ a).2)) (Nat.lt_irrefl _)
    · exact absurd (Nat.lt_of_lt_of_le (old a) (Nat.le_of_succ_le (hC.empty _ _ b).2)) (Nat.lt_irrefl _)
    · exact I.ok.inj x y c a b
  · -- has
    have hx' : (relabel scope X.env).names.lookup x = some .cell ∨ (relabel scope X.env).names.lookup x = some .free := hx
    show ∃ c, (cellsFrom (s.heap.objs.size + 1) scope.names (G6 X.env.cells scope.names [])).lookup x = some c
    rw [CK, List.lookup_append]
    cases e : (cellsFrom (s.heap.objs.size + 1) scope.names []).lookup x with
    | some a => exact ⟨a, rfl⟩
    | none =>
      rcases (hx'.elim (MK (.inl rfl)) (MK (.inr rfl))) with z | z
      · exact Jf (.inl z)
      · obtain ⟨c, hc⟩ := LL (n := s.heap.objs.size + 1) (S.cells _ z rfl)
        rw [e] at hc; cases hc
  · -- cab
    obtain ⟨c', hc'⟩ := LL (n := s.heap.objs.size + 1) (of_decide_eq_true hx)
    have h : (cellsFrom (s.heap.objs.size + 1) scope.names (G6 X.env.cells scope.names [])).lookup x = some c := h
    rw [CK, List.lookup_append, hc'] at h
    cases h
    exact Nat.le_of_succ_le (hC.empty _ _ (PySem.mem_of_lookup hc')).2
  · -- exf
    refine ⟨Nat.ne_of_lt (hlt b hb), fun x c h => ?_⟩
    rcases look h with a | a
    · exact fun e => absurd (Nat.lt_of_lt_of_le (e ▸ hlt b hb) (Nat.le_of_succ_le (hC.empty _ _ a).2)) (Nat.lt_irrefl _)
    · exact (hf b hb).2.2.2.2.1 x c a
  · -- noex
    rcases (hf b hb).2.2.2.1 with z | z
    · exact I.ok.noex b o e z
    · exact absurd (Nat.lt_of_lt_of_le (Heap.lt_size (I.ok.bs b o e).1) z) (Nat.lt_irrefl _)
  · -- exfs
    rcases List.mem_cons.mp (I.stkSub b hs) with z | z
    · exact (hf b hb).2.1 z
    · exact (hf b hb).2.2.1 z
  · -- loc
    unfold sig at h2
    rw [List.getElem?_map] at h2
    cases e : ix[j]? with
    | none => rw [e] at h2; cases h2
    | some o =>
      rw [e] at h2
      cases o with
      | none => cases h2
      | some i =>
        have h2' : (σ[i]?).join = some v := by simpa using h2
        have h4 : σ[i]? = some (some v) := by
          cases e4 : σ[i]? with
          | none => rw [e4] at h2'; cases h2'
          | some q => rw [e4] at h2'; exact congrArg some h2'
        obtain ⟨q1, q2, q3⟩ := Yc S.ok h1 e
        obtain ⟨m, _, hl⟩ := I.loc
        obtain ⟨u, r, l⟩ := hl i x v q1 h4 (q2.elim (fun z => .inr (.inl z)) fun z => .inr (.inr z))
        refine ⟨u, r, ?_⟩
        rcases l with ⟨l, _⟩ | ⟨_, c, lc, z⟩
        · have l' : X.env.scope.names.lookup x = some .local := l
          rcases q2 with z | z <;> (rw [z] at l'; cases l')
        · refine .inr ⟨Ky q3, ?_⟩
          obtain ⟨c', hc'⟩ := Jf (cells := X.env.cells) (cs := []) (.inl (PySem.mem_of_lookup q3))
          have ec := sub hc'
          rw [lc] at ec
          cases ec
          have no : (cellsFrom (s.heap.objs.size + 1) scope.names []).lookup x = none := by
            cases e : (cellsFrom (s.heap.objs.size + 1) scope.names []).lookup x with
            | none => rfl
            | some a =>
              have q := S.cells _ (Gu (PySem.mem_of_lookup e)) rfl
              rw [q3] at q; cases q
          refine ⟨c, (by show (cellsFrom (s.heap.objs.size + 1) scope.names (G6 X.env.cells scope.names [])).lookup x = some c; rw [CK, List.lookup_append, no]; exact hc'), ?_⟩
          obtain ⟨oc, ho, hd⟩ := z
          exact ⟨oc, hk _ _ ho, hd⟩
  · rcases look h with a | a
    · exact ⟨_, (hC.empty _ _ a).1⟩
    · obtain ⟨v, oc, ho, hd⟩ := I.cell x c a
      exact ⟨v, oc, hk _ _ ho, hd⟩
  · rcases look h with a | a
    · exact I.hok.fresh (Nat.le_of_succ_le (hC.empty _ _ a).2)
    · exact I.freeC x c a
  · show (sig ix σ).length = N'.length
    unfold sig
    rw [List.length_map]
    exact SY S.ok
end
end L2
end
section
namespace L2
open PySem PySem.Spec PyProof.Rows
def PTs (X : Cx) (ifs : List Expr) (t : TT) : Prop :=
 ∀ (pins : List (Addr × Obj)) (s : Shared) (σ : St) (H : Hp) (Q : Bool -> Hp -> Prop), Inv X pins σ H s -> t σ H Q ->
  wpAny (model X.prog X.w) X.A (forIn ifs true fun c r => if r = true then do let ok ← isTrue c X.env (eval c X.env); pure (ForInStep.yield ok) else pure (ForInStep.yield r)) (TP X pins σ Q) X.xe s
def eO : TT := fun _ H Q => Q true H
theorem Yq {X : Cx} : PTs X [] eO := fun _ _ _ H _ I h => wpAny_tests_nil ⟨H, I, h⟩
theorem Y4 {X : Cx} {c : Expr} {t : TT} (h : PT X c t) : PTs X [c] t := fun pins s σ H Q I q => wpAny_tests_one (h pins s σ H Q I q)
theorem VT {α : Type} {M : Model} {A : Around} {t : Sem α} {Q : α -> Shared -> Prop} {E : Value -> Shared -> Prop} {s : Shared} (h : wpAny M A t Q (fun _ _ => False) s) : wpAny M A t Q E s := wpAny_mono h (fun _ _ q => q) fun _ _ f => f.elim
def ZQ (ix : List (Option Nat)) (g : TG) (tc : TT) (te : TE) (J : It) (σ : St) (H : Hp) (Q : VK) : Prop :=
 ∀ D, H D = none -> ∃ W : Nat -> Nat -> St -> Hp -> List V -> Prop, (∃ m, W 0 m (sig ix σ) (upd H D (.lst [])) []) /\ ∀ i m σ H ys, W i m σ H ys -> H D = some (.lst ys) /\
  ((J.stop i H /\ Q (.ref D) H) ∨ (J.go i H /\ ys.length < sizeLine /\ ∀ x H', J.yld i H x H' -> g x σ H' fun σ2 H2 => tc σ2 H2 fun b H3 =>
   if b = true then te σ2 H3 fun y H4 => H4 D = some (.lst ys) /\ ∃ m', m' < m /\ W (i + 1) m' σ2 (upd H4 D (.lst (ys ++ [y]))) (ys ++ [y]) else ∃ m', m' < m /\ W (i + 1) m' σ2 H3 ys))
def X0 (ix : List (Option Nat)) (wi : TI) (g : TG) (tc : TT) (te : TE) : TE := fun σ H Q => wi σ H fun J H1 => ZQ ix g tc te J σ H1 Q
section
variable {X : Cx} {pins : List (Addr × Obj)} {σ : St} {s₂ : Shared} {N' : List Str} {ix : List (Option Nat)} {scope : Scope} {elt tg iter : Expr} {ifs : List Expr} {pos : Pos} {g : TG} {tc : TT} {te : TE}
def Block (X : Cx) (N' : List Str) (scope : Scope) (tg : Expr) (ifs : List Expr) (elt : Expr) (g : TG) (tc : TT) (te : TE) : Prop :=
 ∀ (s : Shared) (H : Hp) (fp : List Addr), PG (Hc X N' scope s H fp) tg g /\ PTs (Hc X N' scope s H fp) ifs tc /\ PE (Hc X N' scope s H fp) elt te
theorem Ta {X' : Cx} {it : Addr} {fp : List Addr} {tn : Nat -> Heap -> Prop} {J : It} {D : Addr} {Q : VK} {R : Result -> Shared -> Prop} {W : Nat -> Nat -> St -> Hp -> List V -> Prop} {s : Shared} {e : Env} {n : Nat}
    (he : X'.env = e) (hx : X'.xe = fun _ _ => False) (hcm : X'.calm = true) (T : Turn X'.prog X'.w X'.K tg J fp it tn) (hfp : ∀ H : Hp, (∀ b ∈ fp, H b = none) -> ∀ b ∈ fp, QK X' [] H b)
    (hg : PG X' tg g) (ht : PTs X' ifs tc) (hb : PE X' elt te)
    (turn : ∀ i m σ H ys, W i m σ H ys -> H D = some (.lst ys) /\
      ((J.stop i H /\ Q (.ref D) H) ∨ (J.go i H /\ ys.length < sizeLine /\ ∀ x H', J.yld i H x H' -> g x σ H' fun σ2 H2 => tc σ2 H2 fun b H3 =>
        if b = true then te σ2 H3 fun y H4 => H4 D = some (.lst ys) /\ ∃ m', m' < m /\ W (i + 1) m' σ2 (upd H4 D (.lst (ys ++ [y]))) (ys ++ [y]) else ∃ m', m' < m /\ W (i + 1) m' σ2 H3 ys)))
    (hR : ∀ s' σ' H', Inv X' [] σ' H' s' -> Q (.ref D) H' -> R (.ok .next) s')
    (h0 : ∃ i σ' H' ys, Inv X' [] σ' H' s /\ tn i s.heap /\ (∀ b ∈ fp, H' b = none) /\ W i n σ' H' ys) :
    codeAny (model X'.prog X'.w) X'.A (.compLoop (.ListComp elt [⟨tg, iter, ifs, 0⟩] scope pos) 0 (.ref it) (.ref D) e) R s := by
  subst he
  refine codeAny_loop rfl (fun n s => ∃ i σ' H' ys, Inv X' [] σ' H' s /\ tn i s.heap /\ (∀ b ∈ fp, H' b = none) /\ W i n σ' H' ys) (fun n s3 hI => ?_) n h0
  show wpAny _ X'.A ((compTurn (.ListComp elt [⟨tg, iter, ifs, 0⟩] scope pos) 0 (.ref it) (.ref D) X'.env).onRaise (fun x => do noteFrame x X'.env; theTreesLotGoes x)) _ _ s3
  refine wpAny_noted (VT ?_)
  rw [compTurn_list]
  obtain ⟨i, σ3, H3, ys, I3, st3, fr3, w3⟩ := hI
  obtain ⟨hD, alt⟩ := turn i n σ3 H3 ys w3
  rcases alt with ⟨stop, q⟩ | ⟨go, hlen, step⟩
  · refine wpAny_bind (wpAny_standAt (wpAny_bind (thn (T.done X' rfl rfl rfl hcm i [] s3 σ3 H3 _ I3 (hfp H3 fr3) st3 stop) fun r s4 ⟨hr, I4⟩ => ?_)))
    subst hr
    exact wpAny_pure (hR s4 σ3 H3 I4 q)
  · refine wpAny_bind (wpAny_standAt (wpAny_bind (thn (T.item X' rfl rfl rfl hcm i [] s3 σ3 H3 _ I3 (hfp H3 fr3) st3 go) fun r s4 ⟨u, hr, h4⟩ => ?_)))
    subst hr
    refine wpAny_bind (thn h4 fun _ s5 ⟨x, H5, I5, r5, y5, st5, fr5⟩ => ?_)
    have I5' := I5.pinned (hfp H5 fr5) (T.obj _ _ st5)
    have hg' := hg _ s5 σ3 H5 x u _ I5' r5 (step x H5 y5)
    rw [hx] at hg'
    refine wpAny_bind (thn hg' fun _ s6 ⟨σ6, H6, I6, q6⟩ => ?_)
    have ht' := ht _ s6 σ6 H6 _ I6 q6
    rw [hx] at ht'
    refine wpAny_bind (thn ht' fun ok s7 ⟨H7, I7, q7⟩ => ?_)
    have again : ∀ {s8 : Shared} {H8 : Hp} {zs : List V} {m' : Nat}, Inv X' ([] ++ Oq fp s5.heap) σ6 H8 s8 -> m' < n -> W (i + 1) m' σ6 H8 zs -> ∃ m, m < n /\ ∃ i σ' H' ys, Inv X' [] σ' H' s8 /\ tn i s8.heap /\ (∀ b ∈ fp, H' b = none) /\ W i m σ' H' ys := fun {s8 H8 zs m'} I8 hm w8 => by
      refine ⟨m', hm, i + 1, σ6, H8, zs, I8.unpinned, T.keep _ _ _ st5 fun b hb o e => (I8.pin (b, o) (List.mem_append_right _ (List.mem_append_right _ (IG hb e)))).1, fun b hb => ?_, w8⟩
      obtain ⟨o, e, d⟩ := T.obj _ _ st5 b hb
      exact (I8.pin (b, o) (List.mem_append_right _ (List.mem_append_right _ (IG hb e)))).2.1
    cases ok with
    | false =>
      rw [if_neg (by decide)] at q7
      obtain ⟨m', hm, w7⟩ := q7
      exact wpAny_pure ⟨rfl, again I7 hm w7⟩
    | true =>
      rw [if_pos rfl] at q7
      have hb' := hb _ s7 σ6 H7 _ I7 q7
      rw [hx] at hb'
      refine wpAny_bind (wpAny_bind (thn hb' fun v s8 ⟨y, H8, I8, r8, hD8, m', hm, w8⟩ => ?_))
      have ha := Oc (X := X') _ s8 σ6 H8 (.ref D) [y] (.ref D) [v] (fun _ H9 => H9 = upd H8 D (.lst (ys ++ [y]))) I8 rfl (.cons r8 .nil) ⟨D, ys, y, rfl, rfl, hD8, hlen, rfl⟩
      rw [hx] at ha
      refine wpAny_bind (thn ha fun _ s9 ⟨_, H9, I9, _, e9⟩ => ?_)
      subst e9
      exact wpAny_pure (wpAny_pure ⟨rfl, again I9 hm w8⟩)
theorem Qx (hc : X.calm = true) (S : Ab X.N X.env.scope N' ix scope) (hb : Block X N' scope tg ifs elt g tc te) {it : Addr} {fp : List Addr} {tn : Nat -> Heap -> Prop} {J : It} {H₂ : Hp} {Q : VK} {E : Value -> Shared -> Prop}
  {RR : Value -> Addr -> Result -> Shared -> Prop} (I2 : Inv X pins σ H₂ s₂) (T : Turn X.prog X.w X.K tg J fp it tn) (st2 : tn 0 s₂.heap) (f2 : ∀ b ∈ fp, QK X pins H₂ b) (hW : ZQ ix g tc te J σ H₂ Q)
  (hRR : ∀ D C H' s', Inv X pins σ H' s' -> (∃ m, s'.heap.Ns C m) -> QK X pins H' C -> Q (.ref D) H' -> RR (.ref D) C (.ok .next) s') :
  wpAny (model X.prog X.w) X.A (newList []) (fun acc s₃ => wpAny (model X.prog X.w) X.A (newFunctionEnv scope X.env.globals (G6 X.env.cells scope.names []) [] X.env.qual none .none (some X.env)) (fun cenv s₄ =>
   codeAny (model X.prog X.w) X.A (.compStart (.ListComp elt [⟨tg, iter, ifs, 0⟩] scope pos) 0 (.ref it) acc { cenv with scope := relabel scope X.env }) (RR acc cenv.locals) s₄) E s₃) E s₂ := by
 have hD0 : H₂ s₂.heap.objs.size = none := I2.hok.fresh (Nat.le_refl _)
 have hlt2 : ∀ b ∈ fp, b < s₂.heap.objs.size := fun b hb => by
  obtain ⟨o, e, _⟩ := T.obj _ _ st2 b hb
  exact Heap.lt_size e
 refine wpAny_newObj_type (KA (fun h₁ hns₁ hsb₁ hcl₁ => ?_))
 have I3 : Inv X pins σ (upd H₂ s₂.heap.objs.size (.lst [])) { s₂ with heap := s₂.heap.push { cls := .type "list", dict := none, data := .seq ([] : List Value).toArray } } :=
  I2.laid (t' := s₂.toks) (fun b u e => Heap.get?_push_of_some _ e) (Nat.le_refl _) ⟨Nat.zero_le _, [], 0, .nil, Heap.get?_push_size _ rfl⟩
 have f3 : ∀ b ∈ fp, QK X pins (upd H₂ s₂.heap.objs.size (.lst [])) b := fun b hb => ⟨by rw [BF (Nat.ne_of_lt (hlt2 b hb))]; exact (f2 b hb).1, (f2 b hb).2⟩
 have k3 : ∀ b o, s₂.heap.get? b = some o -> (s₂.heap.push { cls := .type "list", dict := none, data := .seq ([] : List Value).toArray }).get? b = some o := fun b o e => Heap.get?_push_of_some _ e
 dsimp only at hns₁ hsb₁ hcl₁ ⊢
 generalize hs3 : ({ s₂ with heap := s₂.heap.push { cls := .type "list", dict := none, data := .seq ([] : List Value).toArray } } : Shared) = s₃ at I3
 have eh : s₂.heap.push { cls := .type "list", dict := none, data := .seq ([] : List Value).toArray } = s₃.heap := by rw [← hs3]
 have et : s₂.toks = s₃.toks := by rw [← hs3]
 have es : ∀ (h : Heap) (t : Nat), ({ s₂ with heap := h, toks := t } : Shared) = { s₃ with heap := h, toks := t } := fun h t => by rw [← hs3]
 rw [eh] at hns₁ hsb₁ hcl₁ k3 ⊢
 have hlt3 : ∀ b ∈ fp, b < s₃.heap.objs.size := fun b hb => by
  obtain ⟨o, e, _⟩ := T.obj _ _ st2 b hb
  exact Heap.lt_size (k3 b o e)
 have k4 : ∀ b o, s₃.heap.get? b = some o -> h₁.get? b = some o := hsb₁
 obtain ⟨W, ⟨m0, w0⟩, turn⟩ := hW _ hD0
 have I4 : ∀ tk, Inv (Hc X N' scope s₃ (upd H₂ s₂.heap.objs.size (.lst [])) fp) [] (sig ix σ) (upd H₂ s₂.heap.objs.size (.lst [])) { s₃ with heap := h₁, toks := tk } := fun tk => WG S hc I3 f3 hlt3 hns₁ k4 hcl₁
 have st4 : tn 0 h₁ := T.keep _ _ _ st2 fun b hb o e => k4 b o (k3 b o e)
 obtain ⟨bg, bt, be⟩ := hb s₃ (upd H₂ s₂.heap.objs.size (.lst [])) fp
 have noX : ∀ (H : Hp), (∀ b ∈ fp, H b = none) -> ∀ b ∈ fp, QK (Hc X N' scope s₃ (upd H₂ s₂.heap.objs.size (.lst [])) fp) [] H b := fun H hn b hb => by
  obtain ⟨_, h2, h3⟩ := f3 b hb
  refine ⟨hn b hb, Nat.ne_of_lt (hlt3 b hb), fun hs => (I4 0).ok.exfs b hb hs, .inl hb, fun x c h => ?_, fun p hp => absurd (show p ∈ ([] : List (Addr × Obj)) from hp) (by simp)⟩
  exact ((I4 0).ok.exf b hb).2 x c h
 have fin : ∀ (s' : Shared) (σ' : St) (H' : Hp), Inv (Hc X N' scope s₃ (upd H₂ s₂.heap.objs.size (.lst [])) fp) [] σ' H' s' -> Q (.ref s₂.heap.objs.size) H' -> RR (.ref s₂.heap.objs.size) s₃.heap.objs.size (.ok .next) s' := fun s' σ' H' I' q => by
  refine hRR _ _ H' s' ?_ (let ⟨m, hn, _⟩ := I'.loc; ⟨m, hn⟩) (I3.fpOk (Nat.le_refl _) I'.free) q
  exact I3.call' I'.os I'.base I'.hok I'.bare fun b hb => ⟨(f3 b hb).2.2.2.1, (f3 b hb).2.1, (f3 b hb).2.2.2.2.1, (f3 b hb).2.2.2.2.2⟩
 have loop : ∀ tk, codeAny (model X.prog X.w) X.A (.compLoop (.ListComp elt [⟨tg, iter, ifs, 0⟩] scope pos) 0 (.ref it) (.ref s₂.heap.objs.size) (compEnvC scope (cellsFrom (s₃.heap.objs.size + 1) scope.names (G6 X.env.cells scope.names [])) s₃.heap.objs.size X.env)) (RR (.ref s₂.heap.objs.size) s₃.heap.objs.size) { s₃ with heap := h₁, toks := tk } := fun tk =>
  Ta (X' := Hc X N' scope s₃ (upd H₂ s₂.heap.objs.size (.lst [])) fp) (D := s₂.heap.objs.size) (Q := Q) (W := W) rfl rfl rfl T noX bg bt be turn fin ⟨0, _, _, _, I4 tk, st4, fun b hb => (f3 b hb).1, w0⟩
 rw [es]
 exact codeAny_compStart_list (loop _) (T.self _ 0 _ _ _ st4 (loop _))
theorem Yg {wi : TI} (hc : X.calm = true) (S : Ab X.N X.env.scope N' ix scope) (hi : PI X tg iter wi) (hb : Block X N' scope tg ifs elt g tc te) (hs : ∀ x, foldedSetIterable iter X.env x = pure x := by intro _; rfl) :
  PE X (.ListComp elt [⟨tg, iter, ifs, 0⟩] scope pos) (X0 ix wi g tc te) := by
 intro pins s σ H Q I h
 rw [eval_ListComp]
 refine wpAny_comprehension_free (use := none) rfl hs (Qd (I.cellsOf S)) S.kind S.names (thn (hi pins s σ H _ I h) fun v s1 h1 => thn h1 fun itv s2 h2 => ?_)
 obtain ⟨it, fp, tn, J, H2, e, I2, T, st2, f2, hW⟩ := h2
 subst e
 refine Qx (RR := fun acc C => compPost (model X.prog X.w) X.A X.xe none (EP X pins σ Q) acc C) hc S hb I2 T st2 f2 hW ?_
 intro D C H' s' I' hm hC q
 obtain ⟨m, hm⟩ := hm
 refine ⟨m, hm, fun h' hs' => ⟨.ref D, H', I'.turned (it := C) (t' := s'.toks) (fun b o hb e => hs'.extBut b o hb e) hC.1 hC.2.1 hC.2.2.2.1 hC.2.2.2.2.1 hC.2.2.2.2.2, rfl, q⟩⟩
end
end L2
end
section
namespace L2
open PySem PySem.Spec PyProof.Rows
section
variable {X : Cx} {N' : List Str} {ix : List (Option Nat)} {scope : Scope} {elt tg iter : Expr} {ifs : List Expr} {pos spos py : Pos} {g : TG} {tc : TT} {te : TE} {wi : TI} {i : Nat} {y : Str}
theorem RM (hc : X.calm = true) (hN : X.N.Nodup) (hi' : X.N[i]? = some y) (hx : X.env.scope.names.lookup y = some .local) (S : Ab X.N X.env.scope N' ix scope) (hi : PI X tg iter wi) (hb : Block X N' scope tg ifs elt g tc te)
  (hsw : swapsWith (.ListComp elt [⟨tg, iter, ifs, 0⟩] scope pos) (some (.Name y py)) spos.line X.env = pure true := by rfl) (hs : ∀ x, foldedSetIterable iter X.env x = pure x := by intro _; rfl) :
  PS X (.Assign [.Name y py] (.ListComp elt [⟨tg, iter, ifs, 0⟩] scope pos) spos) (dC (X0 ix wi g tc te) (Yr i)) := by
 intro pins s σ H D I h
 rw [exec_Assign_Name_used _ _ _ _ hsw]
 refine wpAny_bind (wpAny_standAt (wpAny_bind ?_))
 show wpAny _ X.A (do let _ ← comprehension (.ListComp elt [⟨tg, iter, ifs, 0⟩] scope pos) scope X.env _ (newList []) false (eval iter X.env) (some (assign (.Name y py) X.env))) _ _ s
 refine wpAny_bind (wpAny_mono (wpAny_comprehension_free (use := some (assign (.Name y py) X.env)) (Q := fun _ s' => SP X pins D .next s') rfl hs (Qd (I.cellsOf S)) S.kind S.names
  (thn (hi pins s σ H _ I h) fun v s1 h1 => thn h1 fun itv s2 h2 => ?_)) (fun _ s' hq => wpAny_pure (wpAny_pure hq)) fun _ _ e => e)
 obtain ⟨it, fp, tn, J, H2, e, I2, T, st2, f2, hW⟩ := h2
 subst e
 refine Qx (RR := fun acc C => compPost (model X.prog X.w) X.A X.xe (some (assign (.Name y py) X.env)) (fun _ s' => SP X pins D .next s') acc C) hc S hb I2 T st2 f2 hW ?_
 intro L C H' s' I' hm hC q
 obtain ⟨m, hm⟩ := hm
 show wpAny _ X.A (assign (.Name y py) X.env (.ref L)) _ _ _
 refine wpAny_assign_Name (PF I' hN hi' (.inl hx) (v := .ref L) rfl (fun s'' I'' ⟨a, sb, ha⟩ => ?_) (.inr hx))
 have hCa : C ≠ a := by
  rcases ha with rfl | ha
  ·exact hC.2.1
  ·exact Ne.symm (hC.2.2.2.2.1 y a ha)
 refine ⟨m, hm.sameBut sb hCa, fun h' hs' => ?_⟩
 exact ⟨_, H', I''.turned (it := C) (t' := s''.toks) (fun b o hb e => hs'.extBut b o hb e) hC.1 hC.2.1 hC.2.2.2.1 hC.2.2.2.2.1 hC.2.2.2.2.2, q⟩
end
end L2
end
section
namespace L2
open PySem PySem.Spec PyProof.Rows
section
variable {prog : Program} {w : World} {A : Around} {E : Value -> Shared -> Prop} {s : Shared}
theorem RO {h : Heap} {it t : Addr} {i : Nat} {o : Obj} (ho : h.get? it = some o) (hc : o.cls = .type "tuple_iterator") (hd : o.data = .fields #[.ref t, .int i 0]) {h' : Heap}
  (e : h' = h.update it (fun o => o.mapFields fun a => a.setIfInBounds 1 (rawInt ((i : Int) + 1)))) : h'.IsTupleIter it t (i + 1) := by
 subst e
 have d := Obj.data_mapFields hd fun a => a.setIfInBounds 1 (rawInt ((i : Int) + 1))
 refine ⟨_, Heap.get?_update_self _ ho (Obj.isFreed_of_fields d), ?_, ?_⟩
 ·rw [Obj.cls_mapFields]; exact hc
 ·rw [d]; simp [rawInt]
theorem Ve {it t : Addr} {i : Nat} {items : Array Value} {x : Value} {Q : Value -> Shared -> Prop} (hit : s.heap.IsTupleIter it t i) (ht : s.heap.IsTuple t items) (hx : items[i]? = some x)
  (hQ : ∀ h', h'.IsTupleIter it t (i + 1) -> Heap.SameBut it s.heap h' -> Q x { s with heap := h' }) : wpAny (model prog w) A (Builtin.SmallTypes.nextOf (.ref it)) Q E s := by
 obtain ⟨⟨c, dd, dt, sl⟩, ho, hc, hd⟩ := id hit
 obtain ⟨⟨c2, dd2, dt2, sl2⟩, ho2, hc2, n2, hd2⟩ := id ht
 simp only at hc hd hc2 hd2
 subst hc hd hc2 hd2
 unfold Builtin.SmallTypes.nextOf
 refine wpAny_bind (wpAny_callSpecial?_slot (name := Str.ofString "__next__") hit.typeIs F.slot_tuple_iterator_next (wpAny_call_entry F.slot_tuple_iterator_next hit.typeIs F.entry_tuple_iterator_next ?_ (F.args_tuple_iterator_next_1 _)))
 unfold Builtin.«tuple_iterator.__next__»
 wp_walk using AutoSeq1.wpAny_loadPart' ho, AutoSeq1.wpAny_loadPart' ho2
 have e : items[(i : Int).toNat]? = some x := by rw [Int.toNat_natCast]; exact hx
 rw [e]
 refine wpAny_bind (wpAny_setField ho rfl (by simp) ?_)
 exact wpAny_pure ⟨x, rfl, wpAny_pure (hQ _ (RO ho rfl rfl rfl) (Heap.SameBut.update ..))⟩
theorem Wu {it t : Addr} {i : Nat} {items : Array Value} {Q : Value -> Shared -> Prop} (hh : A.handled = none) (hit : s.heap.IsTupleIter it t i) (ht : s.heap.IsTuple t items) (hx : items[i]? = none)
  (hE : ∀ h' e, Heap.ExtBut it s.heap h' -> (∃ o, h'.get? e = some o /\ o.cls = .type "StopIteration") -> E (.ref e) { s with heap := h' }) : wpAny (model prog w) A (Builtin.SmallTypes.nextOf (.ref it)) Q E s := by
 obtain ⟨⟨c, dd, dt, sl⟩, ho, hc, hd⟩ := id hit
 obtain ⟨⟨c2, dd2, dt2, sl2⟩, ho2, hc2, n2, hd2⟩ := id ht
 simp only at hc hd hc2 hd2
 subst hc hd hc2 hd2
 unfold Builtin.SmallTypes.nextOf
 refine wpAny_bind (wpAny_callSpecial?_slot (name := Str.ofString "__next__") hit.typeIs F.slot_tuple_iterator_next (wpAny_call_entry F.slot_tuple_iterator_next hit.typeIs F.entry_tuple_iterator_next ?_ (F.args_tuple_iterator_next_1 _)))
 unfold Builtin.«tuple_iterator.__next__»
 wp_walk using AutoSeq1.wpAny_loadPart' ho, AutoSeq1.wpAny_loadPart' ho2
 have e : items[(i : Int).toNat]? = none := by rw [Int.toNat_natCast]; exact hx
 rw [e]
 refine wpAny_bind (wpAny_rule (wpAny_bind (wpAny_setField ho rfl (by simp) ?_)))
 have hh1 : A.in1.handled = none := hh
 unfold Builtin.SmallTypes.stopIteration
 simp only [newExc, newTuple, raiseNew]
 wp_walk
 refine hE _ _ ?_ ⟨_, Heap.get?_push_size _ rfl, rfl⟩
 have a := (Heap.SameBut.update (a := it) (h := s.heap) (f := Obj.mapFields fun x => x.setIfInBounds 0 Value.none)).extBut
 exact (a.push _).push _
theorem SW (l : Addr) (items : Array Value) (n : Nat) (dct : Option Addr) (sl : Array (Option Value)) :
  Meets (Builtin.«enumerate.__new__» ⟨[.type "enumerate", .ref l], []⟩) (fun _ R s => s.heap.get? l = some { cls := .type "tuple", dict := dct, data := .seq items n, slots := sl } /\
   R (.ok (.ret (.ref (s.heap.objs.size + 1)))) { s with heap := (s.heap.push { cls := .type "tuple_iterator", data := .fields #[.ref l, .int 0 0] }).push { cls := .type "enumerate", data := .fields #[.none, .bool false, .ref s.heap.objs.size, rawInt 0, .none, .none] } }) :=
 .of_wp fun prog w A R s h => by
  obtain ⟨hp, g, d, tk, os⟩ := s
  obtain ⟨hl, h⟩ := h
  have hsub := sub_enumerate
  have hT : Heap.IsTuple (Shared.heap ⟨hp, g, d, tk, os⟩) l items := ⟨_, hl, rfl, n, rfl⟩
  wp_walk using AutoSeq1.wpAny_loadPart' hl
  refine wpAny_stack_any fun st => wpAny_pure ?_
  split
  ·rename_i c _ _ _ _ _
   cases (c == Value.type "enumerate") <;> (wp_walk using AutoSeq1.wpAny_loadPart' hl, wpAny_pyIter_tuple hT) <;> (refine ⟨_, rfl, ?_⟩; rw [Heap.size_push]; exact h)
  ·wp_walk using AutoSeq1.wpAny_loadPart' hl, wpAny_pyIter_tuple hT
   refine ⟨_, rfl, ?_⟩
   rw [Heap.size_push]
   exact h
theorem Ru {l : Addr} {items : Array Value} {Q : Value -> Shared -> Prop} (hT : s.heap.IsTuple l items)
  (h : ∀ h', IsEnum h' (s.heap.objs.size + 1) s.heap.objs.size 0 .none -> h'.IsTupleIter s.heap.objs.size l 0 -> (∀ b o, s.heap.get? b = some o -> h'.get? b = some o) -> Q (.ref (s.heap.objs.size + 1)) { s with heap := h' }) :
  wpAny (model prog w) A (call (.type "enumerate") [.ref l]) Q E s := by
 obtain ⟨⟨c, dct, dt, sl⟩, hl, hc, n, hd⟩ := hT
 simp only at hc hd
 subst hc hd
 refine callType_new F.called_enumerate (by decide) (F.typeCall_enumerate_1 _) (F.newCall_enumerate_1 _) (fun obj => F.args_object_init_2 obj _) F.entry_enumerate_new (SW l items n dct sl) ⟨hl, ?_⟩
 have z := Heap.get?_push_size (s.heap.push { cls := .type "tuple_iterator", data := .fields #[.ref l, .int 0 0] }) (o := { cls := .type "enumerate", data := .fields #[.none, .bool false, .ref s.heap.objs.size, rawInt 0, .none, .none] }) rfl
 rw [Heap.size_push] at z
 exact ⟨⟨_, z, rfl⟩, h _ z ⟨_, Heap.get?_push_of_some _ (Heap.get?_push_size _ rfl), rfl, rfl⟩ fun b o x => Heap.get?_push_of_some _ (Heap.get?_push_of_some _ x)⟩
end
section
variable {X : Cx}
end
end L2
end
section
namespace L2
open PySem PySem.Spec PyProof.Rows
structure TopD (K : PySem.W.Frag) (w : World) (a : Addr) (kvs : List (Str × V)) : Prop where
 ex : ∃ (es : Array DictEntry) (n : Nat), K.lookup a = some ⟨.type "dict", none, .dict es n, #[]⟩ /\ PySem.W.KeysLit w.params es.toList /\ (a == sysModules) = false /\ ∀ x, bN (kvs.lookup x) (findBy Value.isStrOf es x)
section
variable {X : Cx}
end
end L2
end
section
namespace L2
open PySem PySem.Spec PyProof.Rows
def SIt (h : Heap) (j l : Addr) (i : Nat) (its : Array Value) : Prop := (h.IsListIter j l i /\ h.IsList l its) ∨ (h.IsTupleIter j l i /\ h.IsTuple l its)
section
variable {prog : Program} {w : World} {A : Around} {E : Value -> Shared -> Prop} {s : Shared} {h h' : Heap} {j l : Addr} {i : Nat} {its : Array Value}
theorem SIt.at (q : SIt h j l i its) (k1 : ∀ o, h.get? j = some o -> h'.get? j = some o) (k2 : ∀ o, h.get? l = some o -> h'.get? l = some o) : SIt h' j l i its := by
 rcases q with ⟨a, b⟩ | ⟨a, b⟩
 ·exact .inl ⟨a.at k1, b.at k2⟩
 ·exact .inr ⟨a.at k1, let ⟨o, e, r⟩ := b; ⟨o, k2 o e, r⟩⟩
theorem SIt.but {c : Addr} (q : SIt h j l i its) (sb : Heap.ExtBut c h h') (n1 : j ≠ c) (n2 : l ≠ c) : SIt h' j l i its := q.at (fun o e => sb _ o n1 e) fun o e => sb _ o n2 e
theorem SIt.live (q : SIt h j l i its) : ∃ o, h.get? j = some o /\ ∀ v, o.data ≠ .cell v := by
 rcases q with ⟨⟨o, a, b, c⟩, _⟩ | ⟨⟨o, a, b, c⟩, _⟩
 ·exact ⟨o, a, fun v z => by rw [c] at z; cases z⟩
 ·exact ⟨o, a, fun v z => by rw [c] at z; cases z⟩
theorem SIt.ne (q : SIt h j l i its) : l ≠ j := by
 rcases q with ⟨⟨o, a, b, _⟩, ⟨o2, a2, b2, _⟩⟩ | ⟨⟨o, a, b, _⟩, ⟨o2, a2, b2, _⟩⟩
 ·intro z; subst z; rw [a] at a2; cases a2; rw [b] at b2; injection b2 with q; exact absurd q (by decide)
 ·intro z; subst z; rw [a] at a2; cases a2; rw [b] at b2; injection b2 with q; exact absurd q (by decide)
theorem LC {x : Value} {Q : Value -> Shared -> Prop} (q : SIt s.heap j l i its) (hx : its[i]? = some x) (k : ∀ h', SIt h' j l (i + 1) its -> Heap.SameBut j s.heap h' -> Q x { s with heap := h' }) :
  wpAny (model prog w) A (Builtin.SmallTypes.nextOf (.ref j)) Q E s := by
 have n := q.ne
 rcases q with ⟨a, b⟩ | ⟨a, b⟩
 ·exact wpAny_nextOf_list_item a b hx fun h' a' sb => k h' (.inl ⟨a', b.extBut sb.extBut n⟩) sb
 ·exact Ve a b hx fun h' a' sb => k h' (.inr ⟨a', let ⟨o, e, r⟩ := b; ⟨o, sb.extBut _ o n e, r⟩⟩) sb
theorem LF {Q : Value -> Shared -> Prop} (hh : A.handled = none) (q : SIt s.heap j l i its) (hx : its[i]? = none) (k : ∀ h' e, Heap.ExtBut j s.heap h' -> (∃ o, h'.get? e = some o /\ o.cls = .type "StopIteration") -> E (.ref e) { s with heap := h' }) :
  wpAny (model prog w) A (Builtin.SmallTypes.nextOf (.ref j)) Q E s := by
 rcases q with ⟨a, b⟩ | ⟨a, b⟩
 ·exact wpAny_nextOf_list_end hh a b hx k
 ·exact Wu hh a b hx k
theorem Tq {z ti tt j1 j2 l1 l2 : Addr} {m : Nat} {xs ys : Array Value} {x y u1 u2 : Value} {Q : Value -> Shared -> Prop} (D : ZipApart z ti tt j1 j2 l1 l2)
  (oz : IsZip s.heap z ti tt .none) (oi : IsPair s.heap ti (.ref j1) (.ref j2)) (ot : IsPair s.heap tt u1 u2) (q1 : SIt s.heap j1 l1 m xs) (q2 : SIt s.heap j2 l2 m ys) (ex : xs[m]? = some x) (ey : ys[m]? = some y)
  (k : ∀ h', IsZip h' z ti tt (rawInt s.heap.objs.size) -> IsPair h' tt x y -> SIt h' j1 l1 (m + 1) xs -> SIt h' j2 l2 (m + 1) ys -> IsPair h' s.heap.objs.size x y ->
   (∀ c o, c ≠ z -> c ≠ tt -> c ≠ j1 -> c ≠ j2 -> s.heap.get? c = some o -> h'.get? c = some o) -> Q (.ref s.heap.objs.size) { s with heap := h' }) :
  wpAny (model prog w) A (Builtin.«zip.__next__» ⟨[.ref z], []⟩) (fun fin s' => ∃ v, fin = .done (.ret v) /\ Q v s') E s := by
 show wpAny _ _ (field (.ref z) 2 >>= _) _ _ _
 refine wpAny_bind (wpAny_field oz rfl (x := .bool false) rfl ?_)
 show wpAny _ _ (field (.ref z) 3 >>= _) _ _ _
 refine wpAny_bind (wpAny_field oz rfl (x := .ref ti) rfl (wpAny_bind (wpAny_seqItems oi rfl ?_)))
 show wpAny _ _ (Builtin.SmallTypes.ownedTupleIsFree (.ref z) >>= _) _ _ _
 refine wpAny_bind ?_
 unfold Builtin.SmallTypes.ownedTupleIsFree
 refine wpAny_bind (wpAny_field oz rfl (x := .none) rfl (wpAny_pure ?_))
 simp only [if_true]
 refine wpAny_bind (wpAny_rule (wpAny_bind (wpAny_field oz rfl (x := .ref tt) rfl (wpAny_bind (wpAny_setField_rec oz (by simp) fun g1 oz1 b1 => ?_)))))
 have oz1 : IsZip g1 z ti tt .ellipsis := oz1
 refine wpAny_bind ?_
 simp only [List.zipIdx_cons, List.zipIdx_nil, List.forIn_cons, List.forIn_nil]
 refine wpAny_bind (wpAny_bind (wpAny_onRaise ?_))
 show wpAny _ _ (Builtin.SmallTypes.nextOf (.ref j1) >>= _) _ _ _
 refine wpAny_bind (LC (q1.but b1.extBut D.i1z D.l1z) ex fun g2 q12 b2 => wpAny_pure ?_)
 have ot2 : IsPair g2 tt u1 u2 := b2.extBut _ _ D.TOi1 (b1.extBut _ _ D.TOz ot)
 refine wpAny_bind (wpAny_seqItems ot2 rfl (wpAny_bind (wpAny_updateSeq_pair ot2 fun g3 ot3 b3 => ?_)))
 have ot3 : IsPair g3 tt x u2 := ot3
 refine wpAny_bind (wpAny_letGo (wpAny_pure (wpAny_bind (wpAny_bind (wpAny_onRaise ?_)))))
 show wpAny _ _ (Builtin.SmallTypes.nextOf (.ref j2) >>= _) _ _ _
 refine wpAny_bind (LC (((q2.but b1.extBut D.i2z D.l2z).but b2.extBut D.i12.symm D.l2i1).but b3.extBut D.TOi2.symm D.l2TO) ey fun g4 q24 b4 => wpAny_pure ?_)
 have ot4 : IsPair g4 tt x u2 := b4.extBut _ _ D.TOi2 ot3
 refine wpAny_bind (wpAny_seqItems ot4 rfl (wpAny_bind (wpAny_updateSeq_pair ot4 fun g5 ot5 b5 => ?_)))
 have ot5 : IsPair g5 tt x y := ot5
 refine wpAny_bind (wpAny_letGo (wpAny_pure (wpAny_pure (wpAny_bind (wpAny_seqItems ot5 rfl (wpAny_bind (wpAny_newTuple ?_)))))))
 have sz : g5.objs.size = s.heap.objs.size := by rw [b5.1, b4.1, b3.1, b2.1, b1.1]
 have oz5 : IsZip g5 z ti tt .ellipsis := b5.extBut _ _ D.TOz.symm (b4.extBut _ _ D.i2z.symm (b3.extBut _ _ D.TOz.symm (b2.extBut _ _ D.i1z.symm oz1)))
 have k5 : ∀ c o, c ≠ z -> c ≠ tt -> c ≠ j1 -> c ≠ j2 -> s.heap.get? c = some o -> g5.get? c = some o := fun c o c1 c2 c3 c4 e => b5.extBut _ _ c2 (b4.extBut _ _ c4 (b3.extBut _ _ c2 (b2.extBut _ _ c3 (b1.extBut _ _ c1 e))))
 have q15 : SIt g5 j1 l1 (m + 1) xs := ((q12.but b3.extBut D.TOi1.symm D.l1TO).but b4.extBut D.i12 D.l1i2).but b5.extBut D.TOi1.symm D.l1TO
 have q25 : SIt g5 j2 l2 (m + 1) ys := q24.but b5.extBut D.TOi2.symm D.l2TO
 have zlt : z < g5.objs.size := Heap.lt_size oz5
 show wpAny _ _ (Builtin.SmallTypes.ownedTupleHandOut (.ref z) (.ref g5.objs.size) >>= _) _ _ _
 refine wpAny_bind ?_
 unfold Builtin.SmallTypes.ownedTupleHandOut
 have oz6 : IsZip (g5.push { cls := .type "tuple", data := .seq #[x, y] }) z ti tt .ellipsis := Heap.get?_push_of_some _ oz5
 refine wpAny_bind (wpAny_setField_rec oz6 (by simp) fun g7 oz7 b7 => ?_)
 have oz7 : IsZip g7 z ti tt (rawInt g5.objs.size) := oz7
 refine wpAny_setField_rec oz7 (by simp) fun g8 oz8 b8 => ?_
 have oz8 : IsZip g8 z ti tt (rawInt g5.objs.size) := oz8
 have up : ∀ c o, c ≠ z -> g5.get? c = some o -> g8.get? c = some o := fun c o c1 e => b8.extBut _ _ c1 (b7.extBut _ _ c1 (Heap.get?_push_of_some _ e))
 have op8 : IsPair g8 g5.objs.size x y := b8.extBut _ _ (Nat.ne_of_gt zlt) (b7.extBut _ _ (Nat.ne_of_gt zlt) (Heap.get?_push_size _ rfl))
 rw [sz] at oz8 op8
 refine wpAny_pure ⟨_, rfl, ?_⟩
 show Q (.ref g5.objs.size) _
 rw [sz]
 exact k g8 oz8 (up _ _ D.TOz ot5) (q15.at (fun o e => up _ o D.i1z e) fun o e => up _ o D.l1z e) (q25.at (fun o e => up _ o D.i2z e) fun o e => up _ o D.l2z e) op8 fun c o c1 c2 c3 c4 e => up c o c1 (k5 c o c1 c2 c3 c4 e)
theorem VU {z ti tt j1 j2 l1 l2 : Addr} {m : Nat} {xs ys : Array Value} {u1 u2 : Value} {Q : Fin -> Shared -> Prop} (hh : A.handled = none) (D : ZipApart z ti tt j1 j2 l1 l2)
    (oz : IsZip s.heap z ti tt .none) (oi : IsPair s.heap ti (.ref j1) (.ref j2)) (ot : IsPair s.heap tt u1 u2) (q1 : SIt s.heap j1 l1 m xs) (q2 : SIt s.heap j2 l2 m ys) (en : xs[m]? = none ∨ ys[m]? = none)
    (k : ∀ h' e, (∀ c o, c ≠ z -> c ≠ tt -> c ≠ j1 -> c ≠ j2 -> s.heap.get? c = some o -> h'.get? c = some o) -> (∃ o, h'.get? e = some o /\ o.cls = .type "StopIteration") -> E (.ref e) { s with heap := h' }) :
    wpAny (model prog w) A (Builtin.«zip.__next__» ⟨[.ref z], []⟩) Q E s := by
  show wpAny _ _ (field (.ref z) 2 >>= _) _ _ _
  refine wpAny_bind (wpAny_field oz rfl (x := .bool false) rfl ?_)
  show wpAny _ _ (field (.ref z) 3 >>= _) _ _ _
  refine wpAny_bind (wpAny_field oz rfl (x := .ref ti) rfl (wpAny_bind (wpAny_seqItems oi rfl ?_)))
  show wpAny _ _ (Builtin.SmallTypes.ownedTupleIsFree (.ref z) >>= _) _ _ _
  refine wpAny_bind ?_
  unfold Builtin.SmallTypes.ownedTupleIsFree
  refine wpAny_bind (wpAny_field oz rfl (x := .none) rfl (wpAny_pure ?_))
  simp only [if_true]
  refine wpAny_bind (wpAny_rule (wpAny_bind (wpAny_field oz rfl (x := .ref tt) rfl (wpAny_bind (wpAny_setField_rec oz (by simp) fun g1 oz1 b1 => ?_)))))
  have oz1 : IsZip g1 z ti tt .ellipsis := oz1
  refine wpAny_bind ?_
  simp only [List.zipIdx_cons, List.zipIdx_nil, List.forIn_cons, List.forIn_nil]
  refine wpAny_bind (wpAny_bind (wpAny_onRaise ?_))
  show wpAny _ _ (Builtin.SmallTypes.nextOf (.ref j1) >>= _) _ _ _
  cases ex : xs[m]? with
  | none =>
    refine wpAny_bind (LF hh (q1.but b1.extBut D.i1z D.l1z) ex fun g2 e b2 he => ?_)
    obtain ⟨oe, e1, e2⟩ := he
    have oz2 : IsZip g2 z ti tt .ellipsis := b2 _ _ D.i1z.symm oz1
    have nez : e ≠ z := fun x => by subst x; rw [oz2] at e1; cases e1; simp at e2
    exact wpAny_setField_rec oz2 (by simp) fun g3 _ b3 => k g3 e (fun c o c1 _ c3 _ x => b3.extBut _ _ c1 (b2 _ _ c3 (b1.extBut _ _ c1 x))) ⟨oe, b3.extBut _ _ nez e1, e2⟩
  | some x =>
    have ey : ys[m]? = none := by
      rcases en with z | z
      · rw [ex] at z; cases z
      · exact z
    refine wpAny_bind (LC (q1.but b1.extBut D.i1z D.l1z) ex fun g2 q12 b2 => wpAny_pure ?_)
    have ot2 : IsPair g2 tt u1 u2 := b2.extBut _ _ D.TOi1 (b1.extBut _ _ D.TOz ot)
    refine wpAny_bind (wpAny_seqItems ot2 rfl (wpAny_bind (wpAny_updateSeq_pair ot2 fun g3 ot3 b3 => ?_)))
    refine wpAny_bind (wpAny_letGo (wpAny_pure (wpAny_bind (wpAny_bind (wpAny_onRaise ?_)))))
    show wpAny _ _ (Builtin.SmallTypes.nextOf (.ref j2) >>= _) _ _ _
    refine wpAny_bind (LF hh (((q2.but b1.extBut D.i2z D.l2z).but b2.extBut D.i12.symm D.l2i1).but b3.extBut D.TOi2.symm D.l2TO) ey fun g4 e b4 he => ?_)
    obtain ⟨oe, e1, e2⟩ := he
    have oz4 : IsZip g4 z ti tt .ellipsis := b4 _ _ D.i2z.symm (b3.extBut _ _ D.TOz.symm (b2.extBut _ _ D.i1z.symm oz1))
    have nez : e ≠ z := fun x => by subst x; rw [oz4] at e1; cases e1; simp at e2
    exact wpAny_setField_rec oz4 (by simp) fun g5 _ b5 => k g5 e (fun c o c1 c2 c3 c4 x => b5.extBut _ _ c1 (b4 _ _ c4 (b3.extBut _ _ c2 (b2.extBut _ _ c3 (b1.extBut _ _ c1 x))))) ⟨oe, b5.extBut _ _ nez e1, e2⟩
theorem R0 {z ti tt j1 j2 l1 l2 : Addr} {m : Nat} {xs ys : Array Value} {x y u1 u2 : Value} {Q : Option Value -> Shared -> Prop} (D : ZipApart z ti tt j1 j2 l1 l2)
  (oz : IsZip s.heap z ti tt .none) (oi : IsPair s.heap ti (.ref j1) (.ref j2)) (ot : IsPair s.heap tt u1 u2) (q1 : SIt s.heap j1 l1 m xs) (q2 : SIt s.heap j2 l2 m ys) (ex : xs[m]? = some x) (ey : ys[m]? = some y)
  (k : ∀ h', IsZip h' z ti tt (rawInt s.heap.objs.size) -> IsPair h' tt x y -> SIt h' j1 l1 (m + 1) xs -> SIt h' j2 l2 (m + 1) ys -> IsPair h' s.heap.objs.size x y ->
   (∀ c o, c ≠ z -> c ≠ tt -> c ≠ j1 -> c ≠ j2 -> s.heap.get? c = some o -> h'.get? c = some o) -> Q (some (.ref s.heap.objs.size)) { s with heap := h' }) :
  wpAny (model prog w) A (pyNext (.ref z)) Q E s := by
 have ht : s.TypeIs (.ref z) "zip" := ⟨_, oz, rfl⟩
 unfold pyNext
 exact wpAny_bind (wpAny_attempt (wpAny_callSpecial?_slot (name := Str.ofString "__next__") ht F.slot_zip_next (wpAny_call_entry F.slot_zip_next ht F.entry_zip_next
  (Tq D oz oi ot q1 q2 ex ey fun h' a1 a2 a3 a4 a5 a6 => wpAny_pure (k h' a1 a2 a3 a4 a5 a6)) (F.args_zip_next_1 _))))
theorem Sw {z ti tt j1 j2 l1 l2 : Addr} {m : Nat} {xs ys : Array Value} {u1 u2 : Value} {Q : Option Value -> Shared -> Prop} (hh : A.handled = none) (D : ZipApart z ti tt j1 j2 l1 l2)
  (oz : IsZip s.heap z ti tt .none) (oi : IsPair s.heap ti (.ref j1) (.ref j2)) (ot : IsPair s.heap tt u1 u2) (q1 : SIt s.heap j1 l1 m xs) (q2 : SIt s.heap j2 l2 m ys) (en : xs[m]? = none ∨ ys[m]? = none)
  (k : ∀ h', (∀ c o, c ≠ z -> c ≠ tt -> c ≠ j1 -> c ≠ j2 -> s.heap.get? c = some o -> h'.get? c = some o) -> Q none { s with heap := h' }) : wpAny (model prog w) A (pyNext (.ref z)) Q E s := by
 have ht : s.TypeIs (.ref z) "zip" := ⟨_, oz, rfl⟩
 unfold pyNext
 refine wpAny_bind (wpAny_attempt (wpAny_callSpecial?_slot (name := Str.ofString "__next__") ht F.slot_zip_next (wpAny_call_entry F.slot_zip_next ht F.entry_zip_next
  (VU hh D oz oi ot q1 q2 en fun h' e kp he => ?_) (F.args_zip_next_1 _))))
 obtain ⟨o, e1, e2⟩ := he
 exact wpAny_bind (wpAny_isInstance (T := "StopIteration") (b := true) ⟨o, e1, e2⟩ isSubtype_stop (wpAny_pure (k _ kp)))
end
end L2
end
section
namespace L2
open PySem PySem.Spec PyProof.Rows
def Mm (h : Heap) (b : Bool) (l : Addr) (its : Array Value) : Prop := match b with | true => h.IsTuple l its | false => h.IsList l its
def bE : Bool -> String | true => "tuple_iterator" | false => "list_iterator"
def zh1 (h : Heap) (b : Bool) (l : Addr) : Heap := h.push { cls := .type (bE b), data := .fields #[.ref l, .int 0 0] }
def zh2 (h : Heap) (b c : Bool) (l m : Addr) : Heap := zh1 (zh1 h b l) c m
def zh3 (h : Heap) (b c : Bool) (l m : Addr) : Heap := (zh2 h b c l m).push { cls := .type "tuple", data := .seq #[.ref h.objs.size, .ref (zh1 h b l).objs.size] }
def zh4 (h : Heap) (b c : Bool) (l m : Addr) : Heap := (zh3 h b c l m).push { cls := .type "tuple", data := .seq #[.none, .none] }
def zh5 (h : Heap) (b c : Bool) (l m : Addr) : Heap := (zh4 h b c l m).push { cls := .type "zip", data := .fields #[.none, .bool false, .bool false, .ref (zh2 h b c l m).objs.size, .ref (zh3 h b c l m).objs.size] }
theorem Mm.push {h : Heap} {b : Bool} {l : Addr} {its : Array Value} (q : Mm h b l its) (o : Obj) : Mm (h.push o) b l its := by
 cases b
 ·exact Heap.IsList.push q _
 ·obtain ⟨u, e, r⟩ := (show h.IsTuple l its from q)
  exact ⟨u, Heap.get?_push_of_some _ e, r⟩
theorem VD (b c : Bool) (l m : Addr) (xs ys : Array Value) :
  Meets (Builtin.«zip.__new__» ⟨[.type "zip", .ref l, .ref m], []⟩) (fun _ R s => Mm s.heap b l xs /\ Mm s.heap c m ys /\ R (.ok (.ret (.ref (zh4 s.heap b c l m).objs.size))) { s with heap := zh5 s.heap b c l m }) :=
 .of_wp fun prog w A R s hyp => by
  obtain ⟨hp, gs, dr, tk, os⟩ := s
  obtain ⟨i1, i2, hyp⟩ := hyp
  have hsub := sub_zip
  have i3 : Mm (Shared.heap ⟨zh1 hp b l, gs, dr, tk, os⟩) c m ys := Mm.push i2 _
  cases b <;> cases c
  ·have a1 : Heap.IsList (Shared.heap ⟨hp, gs, dr, tk, os⟩) l xs := i1
   have a2 : Heap.IsList (Shared.heap ⟨hp.push { cls := .type "list_iterator", data := .fields #[.ref l, .int 0 0] }, gs, dr, tk, os⟩) m ys := i3
   wp_walk using wpAny_pyIter_list a1, wpAny_pyIter_list a2
   exact ⟨_, rfl, hyp⟩
  ·have a1 : Heap.IsList (Shared.heap ⟨hp, gs, dr, tk, os⟩) l xs := i1
   have a2 : Heap.IsTuple (Shared.heap ⟨hp.push { cls := .type "list_iterator", data := .fields #[.ref l, .int 0 0] }, gs, dr, tk, os⟩) m ys := i3
   wp_walk using wpAny_pyIter_list a1, wpAny_pyIter_tuple a2
   exact ⟨_, rfl, hyp⟩
  ·have a1 : Heap.IsTuple (Shared.heap ⟨hp, gs, dr, tk, os⟩) l xs := i1
   have a2 : Heap.IsList (Shared.heap ⟨hp.push { cls := .type "tuple_iterator", data := .fields #[.ref l, .int 0 0] }, gs, dr, tk, os⟩) m ys := i3
   wp_walk using wpAny_pyIter_tuple a1, wpAny_pyIter_list a2
   exact ⟨_, rfl, hyp⟩
  ·have a1 : Heap.IsTuple (Shared.heap ⟨hp, gs, dr, tk, os⟩) l xs := i1
   have a2 : Heap.IsTuple (Shared.heap ⟨hp.push { cls := .type "tuple_iterator", data := .fields #[.ref l, .int 0 0] }, gs, dr, tk, os⟩) m ys := i3
   wp_walk using wpAny_pyIter_tuple a1, wpAny_pyIter_tuple a2
   exact ⟨_, rfl, hyp⟩
section
variable {prog : Program} {w : World} {A : Around} {E : Value -> Shared -> Prop} {s : Shared}
theorem XN {h h' : Heap} {b : Bool} {l j : Addr} {its : Array Value} (q : Mm h b l its) (k : ∀ c o, h.get? c = some o -> h'.get? c = some o) (e : h'.get? j = some { cls := .type (bE b), data := .fields #[.ref l, .int 0 0] }) : SIt h' j l 0 its := by
 cases b
 ·exact .inl ⟨⟨_, e, rfl, rfl⟩, (show h.IsList l its from q).at fun o z => k _ o z⟩
 ·exact .inr ⟨⟨_, e, rfl, rfl⟩, let ⟨o, z, r⟩ := (show h.IsTuple l its from q); ⟨o, k _ o z, r⟩⟩
theorem UI {b c : Bool} {l m : Addr} {xs ys : Array Value} {Q : Value -> Shared -> Prop} (i1 : Mm s.heap b l xs) (i2 : Mm s.heap c m ys)
  (k : ∀ h', IsZip h' (s.heap.objs.size + 4) (s.heap.objs.size + 2) (s.heap.objs.size + 3) .none -> IsPair h' (s.heap.objs.size + 2) (.ref s.heap.objs.size) (.ref (s.heap.objs.size + 1)) ->
   IsPair h' (s.heap.objs.size + 3) .none .none -> SIt h' s.heap.objs.size l 0 xs -> SIt h' (s.heap.objs.size + 1) m 0 ys -> (∀ c o, s.heap.get? c = some o -> h'.get? c = some o) -> Q (.ref (s.heap.objs.size + 4)) { s with heap := h' }) :
  wpAny (model prog w) A (call (.type "zip") [.ref l, .ref m]) Q E s := by
 refine callType_new F.called_zip (by decide) (F.typeCall_zip_2 _ _) (F.newCall_zip_2 _ _) (fun obj => F.args_object_init_3 obj _ _) F.entry_zip_new (VD b c l m xs ys) ⟨i1, i2, ?_⟩
 have z1 : (zh1 s.heap b l).objs.size = s.heap.objs.size + 1 := Heap.size_push ..
 have z2 : (zh2 s.heap b c l m).objs.size = s.heap.objs.size + 2 := by unfold zh2 zh1; rw [Heap.size_push]; exact congrArg (· + 1) z1
 have z3 : (zh3 s.heap b c l m).objs.size = s.heap.objs.size + 3 := by unfold zh3; rw [Heap.size_push, z2]
 have z4 : (zh4 s.heap b c l m).objs.size = s.heap.objs.size + 4 := by unfold zh4; rw [Heap.size_push, z3]
 have kp : ∀ d o, s.heap.get? d = some o -> (zh5 s.heap b c l m).get? d = some o := fun d o e => by
  unfold zh5 zh4 zh3 zh2 zh1
  exact Heap.get?_push_of_some _ (Heap.get?_push_of_some _ (Heap.get?_push_of_some _ (Heap.get?_push_of_some _ (Heap.get?_push_of_some _ e))))
 have g5 : (zh5 s.heap b c l m).get? (zh4 s.heap b c l m).objs.size = some _ := Heap.get?_push_size _ rfl
 have g4 : (zh5 s.heap b c l m).get? (zh3 s.heap b c l m).objs.size = some _ := Heap.get?_push_of_some _ (Heap.get?_push_size _ rfl)
 have g3 : (zh5 s.heap b c l m).get? (zh2 s.heap b c l m).objs.size = some _ := Heap.get?_push_of_some _ (Heap.get?_push_of_some _ (Heap.get?_push_size _ rfl))
 have g2 : (zh5 s.heap b c l m).get? (zh1 s.heap b l).objs.size = some _ := Heap.get?_push_of_some _ (Heap.get?_push_of_some _ (Heap.get?_push_of_some _ (Heap.get?_push_size _ rfl)))
 have g1 : (zh5 s.heap b c l m).get? s.heap.objs.size = some _ := Heap.get?_push_of_some _ (Heap.get?_push_of_some _ (Heap.get?_push_of_some _ (Heap.get?_push_of_some _ (Heap.get?_push_size _ rfl))))
 show _ /\ _
 rw [z2, z3, z4] at g5
 rw [z1, z2] at g3
 rw [z3] at g4
 rw [z1] at g2
 rw [z4]
 exact ⟨⟨_, g5, rfl⟩, k _ g5 g3 g4 (XN i1 kp g1) (XN i2 kp g2) kp⟩
end
end L2
end
section
namespace L2
open PySem PySem.Spec PyProof.Rows
def SqB (K : PySem.W.Frag) (H : Hp) (k : Bool) (a : Addr) (xs : List V) : Prop := match k with | true => SqT K H a xs | false => SqL K H a xs
def JIt (h : Heap) (k : Bool) (j l : Addr) (i : Nat) : Prop := match k with | true => h.IsTupleIter j l i | false => h.IsListIter j l i
theorem JIt.at {h h' : Heap} {k : Bool} {j l : Addr} {i : Nat} (q : JIt h k j l i) (e : ∀ o, h.get? j = some o -> h'.get? j = some o) : JIt h' k j l i := by
 cases k
 ·exact Heap.IsListIter.at q e
 ·exact Heap.IsTupleIter.at q e
theorem JIt.sit {h : Heap} {k : Bool} {j l : Addr} {i : Nat} {its : Array Value} (q : JIt h k j l i) (p : Mm h k l its) : SIt h j l i its := by
 cases k
 ·exact .inl ⟨q, p⟩
 ·exact .inr ⟨q, p⟩
theorem SIt.jit {h : Heap} {k : Bool} {j l : Addr} {i : Nat} {its : Array Value} (q : SIt h j l i its) (p : Mm h k l its) : JIt h k j l i := by
 rcases q with ⟨q, r⟩ | ⟨q, r⟩
 ·cases k
  ·exact q
  ·obtain ⟨o, e, c, _⟩ := r; obtain ⟨o', e', c', _⟩ := (show h.IsTuple l its from p)
   rw [e] at e'; cases e'; rw [c] at c'; injection c' with z; exact absurd z (by decide)
 ·cases k
  ·obtain ⟨o, e, c, _⟩ := r; obtain ⟨o', e', c', _⟩ := (show h.IsList l its from p)
   rw [e] at e'; cases e'; rw [c] at c'; injection c' with z; exact absurd z (by decide)
  ·exact q
theorem Inv.sqB {X : Cx} {pins : List (Addr × Obj)} {σ : St} {H : Hp} {s : Shared} {k : Bool} {a : Addr} {xs : List V} (I : Inv X pins σ H s) (h : SqB X.K H k a xs) : ∃ its : List Value, Vals xs its /\ Mm s.heap k a its.toArray := by
 cases k
 ·obtain ⟨its, h1, ⟨o, n, q1, q2, _, q3⟩, h3⟩ := I.list h
  exact ⟨its, h1, o, q1, q2, n, q3⟩
 ·obtain ⟨its, h1, h2, h3⟩ := I.tuple h
  exact ⟨its, h1, h2⟩
theorem Inv.sqB_inj {X : Cx} {pins : List (Addr × Obj)} {σ : St} {H : Hp} {s : Shared} {k : Bool} {a : Addr} {xs ys : List V} (I : Inv X pins σ H s) (h : SqB X.K H k a xs) (g : SqB X.K H k a ys) : xs = ys := by
 cases k
 ·exact I.list_inj h g
 ·exact I.tuple_inj h g
def Itz (K : PySem.W.Frag) (k : Bool) (a : Addr) (m : Bool) (b : Addr) : It :=
  ⟨fun i H => ∃ (xs ys : List V) (x y : V), SqB K H k a xs /\ SqB K H m b ys /\ xs[i]? = some x /\ ys[i]? = some y,
   fun i H v H' => ∃ (p : Addr) (x y : V), H p = none /\ v = .ref p /\ (∀ xs, SqB K H k a xs -> xs[i]? = some x) /\ (∀ ys, SqB K H m b ys -> ys[i]? = some y) /\ H' = upd H p (.tup [x, y]),
   fun i H => ∃ (xs ys : List V), SqB K H k a xs /\ SqB K H m b ys /\ (xs.length ≤ i ∨ ys.length ≤ i)⟩
structure ZSt (h : Heap) (z ti tt j1 j2 : Addr) (k : Bool) (a : Addr) (m : Bool) (b : Addr) (i : Nat) : Prop where
 oz : IsZip h z ti tt .none
 oi : IsPair h ti (.ref j1) (.ref j2)
 ot : ∃ u v, IsPair h tt u v
 q1 : JIt h k j1 a i
 q2 : JIt h m j2 b i
structure ZNe (z ti tt j1 j2 : Addr) : Prop where
 n1 : ti ≠ z
 n2 : tt ≠ z
 n3 : j1 ≠ z
 n4 : j2 ≠ z
 n5 : ti ≠ tt
 n6 : ti ≠ j1
 n7 : ti ≠ j2
 n8 : tt ≠ j1
 n9 : tt ≠ j2
 n10 : j1 ≠ j2
theorem ZNe.apart {z ti tt j1 j2 a b : Addr} (N : ZNe z ti tt j1 j2) (ha : a ∉ [z, tt, j1, j2]) (hb : b ∉ [z, tt, j1, j2]) : ZipApart z ti tt j1 j2 a b := by
 simp only [List.mem_cons, List.not_mem_nil, or_false, not_or] at ha hb
 exact ⟨N.n1, N.n2, N.n3, N.n4, N.n5, N.n6, N.n7, N.n8, N.n9, N.n10, ha.1, ha.2.1, ha.2.2.1, ha.2.2.2, hb.1, hb.2.1, hb.2.2.1, hb.2.2.2⟩
theorem Bo {X : Cx} {pins : List (Addr × Obj)} {σ : St} {H : Hp} {s : Shared} {k : Bool} {a c : Addr} {xs : List V} (I : Inv X pins σ H s) (q : SqB X.K H k a xs) (f : QK X pins H c) : a ≠ c := by
 intro e
 subst e
 have rd : ∀ o, Rd H a o -> False := fun o r => by
  rcases r with r | ⟨_, r⟩ <;> (rw [f.1] at r; cases r)
 have kk : ∀ o, X.K.lookup a = some o -> False := fun o hk => by
  have b := I.ok.mod.kin a o hk
  rcases f.2.2.2.1 with z | z
  ·exact I.ok.noex a o b z
  ·exact absurd (Nat.lt_of_lt_of_le (Heap.lt_size (I.ok.bs a o b).1) z) (Nat.lt_irrefl _)
 cases k
 ·rcases (show SqL X.K H a xs from q) with q | ⟨o, _, _, hk, _⟩
  ·exact rd _ q
  ·exact kk o hk
 ·rcases (show SqT X.K H a xs from q) with q | ⟨o, _, _, hk, _⟩
  ·exact rd _ q
  ·exact kk o hk
theorem Wk {P : Program} {w : World} {K : PySem.W.Frag} {elts : List Expr} {n : Nat} {pos : Pos} (k : Bool) (a : Addr) (m : Bool) (b : Addr) (z ti tt j1 j2 : Addr) (N : ZNe z ti tt j1 j2) :
  Turn P w K (.Tuple elts n pos) (Itz K k a m b) [z, ti, tt, j1, j2] z (fun i h => ZSt h z ti tt j1 j2 k a m b i) where
 mem := by simp
 obj := fun i h st c hc => by
  have jl : ∀ {q : Bool} {j l : Addr}, JIt h q j l i -> ∃ o, h.get? j = some o /\ ∀ v, o.data ≠ .cell v := fun {q j l} x => by
   cases q
   ·obtain ⟨o, e, _, d⟩ := (show h.IsListIter j l i from x)
    exact ⟨o, e, fun v z => by rw [d] at z; cases z⟩
   ·obtain ⟨o, e, _, d⟩ := (show h.IsTupleIter j l i from x)
    exact ⟨o, e, fun v z => by rw [d] at z; cases z⟩
  simp only [List.mem_cons, List.not_mem_nil, or_false] at hc
  rcases hc with rfl | rfl | rfl | rfl | rfl
  ·exact ⟨_, st.oz, fun v z => nomatch z⟩
  ·exact ⟨_, st.oi, fun v z => nomatch z⟩
  ·obtain ⟨u, v, e⟩ := st.ot
   exact ⟨_, e, fun v z => nomatch z⟩
  ·exact jl st.q1
  ·exact jl st.q2
 keep := fun i h h' st kp => ⟨kp z (by simp) _ st.oz, kp ti (by simp) _ st.oi, let ⟨u, v, e⟩ := st.ot; ⟨u, v, kp tt (by simp) _ e⟩, st.q1.at fun o e => kp j1 (by simp) o e, st.q2.at fun o e => kp j2 (by simp) o e⟩
 item := by
  intro X hP hw hK hc i pins s σ H E I hf st hg
  subst hP hw hK
  obtain ⟨xs, ys, x, y, s1, s2, e1, e2⟩ := hg
  obtain ⟨i1, r1, p1⟩ := I.sqB s1
  obtain ⟨i2, r2, p2⟩ := I.sqB s2
  obtain ⟨u1, h1, ru1⟩ := r1.get e1
  obtain ⟨u2, h2, ru2⟩ := r2.get e2
  have fz := hf z (by simp); have fi := hf ti (by simp); have ft := hf tt (by simp); have f1 := hf j1 (by simp); have f2 := hf j2 (by simp)
  have ap := N.apart (a := a) (b := b) (by simp [Bo I s1 fz, Bo I s1 ft, Bo I s1 f1, Bo I s1 f2]) (by simp [Bo I s2 fz, Bo I s2 ft, Bo I s2 f1, Bo I s2 f2])
  obtain ⟨v1, v2, ot⟩ := st.ot
  refine R0 ap st.oz st.oi ot (st.q1.sit p1) (st.q2.sit p2) (x := u1) (y := u2) (by simpa using h1) (by simpa using h2) fun h' oz ot' q1 q2 op kp => ⟨_, rfl, wpAny_letOwnedTupleGo_zip oz fun g oz' sb => ?_⟩
  have lt : ∀ c o, s.heap.get? c = some o -> c ≠ s.heap.objs.size := fun c o q => Nat.ne_of_lt (Heap.lt_size q)
  have nz : z ≠ s.heap.objs.size := lt _ _ st.oz
  have nt : tt ≠ s.heap.objs.size := lt _ _ ot
  have n1 : j1 ≠ s.heap.objs.size := by obtain ⟨o, e, _⟩ := (st.q1.sit p1).live; exact lt _ _ e
  have n2 : j2 ≠ s.heap.objs.size := by obtain ⟨o, e, _⟩ := (st.q2.sit p2).live; exact lt _ _ e
  have kp2 : ∀ c o, c ≠ z -> c ≠ tt -> c ≠ j1 -> c ≠ j2 -> s.heap.get? c = some o -> g.get? c = some o := fun c o c1 c2 c3 c4 q => (sb.2 c c1).trans (kp c o c1 c2 c3 c4 q)
  have fr : H s.heap.objs.size = none := I.hok.fresh (Nat.le_refl _)
  have op2 : g.get? s.heap.objs.size = some { cls := .type "tuple", data := .seq #[u1, u2] } := (sb.2 _ (Ne.symm nz)).trans op
  have ne : ∀ c u, c ∈ [z, ti, tt, j1, j2] -> ∀ d, H d = some u -> d ≠ c := fun c u hc d q e => by rw [e, (hf c hc).1] at q; cases q
  have kpH : ∀ c u, H c = some u -> ∀ o, s.heap.get? c = some o -> g.get? c = some o := fun c u q o e => kp2 c o (ne z u (by simp) c q) (ne tt u (by simp) c q) (ne j1 u (by simp) c q) (ne j2 u (by simp) c q) e
  have ka : ∀ o, s.heap.get? a = some o -> g.get? a = some o := fun o e => kp2 a o (Bo I s1 fz) (Bo I s1 ft) (Bo I s1 f1) (Bo I s1 f2) e
  have kb : ∀ o, s.heap.get? b = some o -> g.get? b = some o := fun o e => kp2 b o (Bo I s2 fz) (Bo I s2 ft) (Bo I s2 f1) (Bo I s2 f2) e
  have sq : ∀ {q : Bool} {d : Addr} {is : Array Value}, Mm s.heap q d is -> (∀ o, s.heap.get? d = some o -> h'.get? d = some o) -> Mm h' q d is := fun {q d is} x kd => by
   cases q
   ·exact (show s.heap.IsList d is from x).at kd
   ·obtain ⟨o, e, r⟩ := (show s.heap.IsTuple d is from x)
    exact ⟨o, kd o e, r⟩
  have ka1 : ∀ o, s.heap.get? a = some o -> h'.get? a = some o := fun o e => kp a o (Bo I s1 fz) (Bo I s1 ft) (Bo I s1 f1) (Bo I s1 f2) e
  have kb1 : ∀ o, s.heap.get? b = some o -> h'.get? b = some o := fun o e => kp b o (Bo I s2 fz) (Bo I s2 ft) (Bo I s2 f1) (Bo I s2 f2) e
  refine ⟨.ref s.heap.objs.size, upd H s.heap.objs.size (.tup [x, y]), ?_, rfl, ⟨_, x, y, fr, rfl, fun zs hz => by rw [I.sqB_inj hz s1]; exact e1, fun zs hz => by rw [I.sqB_inj hz s2]; exact e2, rfl⟩, ⟨oz', (sb.2 _ N.n1).trans (kp ti _ N.n1 N.n5 N.n6 N.n7 st.oi), ⟨_, _, (sb.2 _ N.n2).trans ot'⟩, (q1.jit (sq p1 ka1)).at fun o e => (sb.2 _ N.n3).trans e, (q2.jit (sq p2 kb1)).at fun o e => (sb.2 _ N.n4).trans e⟩, ?_⟩
  ·show Inv X pins σ _ { s with heap := g, gens := s.gens, drawn := s.drawn, toks := s.toks }
   refine I.step (g' := s.gens) (d' := s.drawn) (ch := [z, tt, j1, j2]) ?_ ?_ ?_ ?_ ?_ ?_ ?_ ?_ ?_ ?_ I.bare
   ·intro c hc
    have q : QK X pins H c := hf c (by simp only [List.mem_cons, List.not_mem_nil, or_false] at hc ⊢; rcases hc with z | z | z | z <;> simp [z])
    exact ⟨q.2.2.2.1, q.2.1, q.2.2.2.2.1, q.2.2.2.2.2⟩
   ·exact fun c o _ _ hc q _ => by
     simp only [List.mem_cons, List.not_mem_nil, or_false, not_or] at hc
     exact kp2 c o hc.1 hc.2.1 hc.2.2.1 hc.2.2.2 q
   ·exact fun c o _ _ hc q _ => by
     simp only [List.mem_cons, List.not_mem_nil, or_false, not_or] at hc
     exact ⟨o.slots, kp2 c o hc.1 hc.2.1 hc.2.2.1 hc.2.2.2 q⟩
   ·exact fun c o _ q n => by rw [BF (lt c o q)]; exact n
   ·exact fun c o hc q => by
     simp only [List.mem_cons, List.not_mem_nil, or_false, not_or] at hc
     exact ⟨o, kp2 c o hc.1 hc.2.1 hc.2.2.1 hc.2.2.2 q⟩
   ·exact fun c ys q => by rw [BF (Bi q fr)]; exact q
   ·exact fun c o u q => by rw [BF (Bi q fr)]; exact q
   ·exact fun c ps q => ⟨#[], by rw [BF (Bi q fr), q]; simp⟩
   ·rintro mm ⟨o, es, ep, ho, r⟩
    exact ⟨o, es, ep, kp2 _ o (Ne.symm fz.2.1) (Ne.symm ft.2.1) (Ne.symm f1.2.1) (Ne.symm f2.2.1) ho, r⟩
   ·intro c v q
    by_cases hb : c = s.heap.objs.size
    ·subst hb
     rw [CQ] at q
     cases q
     exact ⟨by show 2 ≤ sizeLine; decide, [u1, u2], .cons ru1 (.cons ru2 .nil), ⟨_, op2, rfl, 0, rfl⟩⟩
    ·rw [BF hb] at q
     refine (I.hok c v q).stay (fun d o hd r => ?_) (fun d r => by rw [BF (Bi r fr)]; exact r) (fun d ys r => by rw [BF (Bi r fr)]; exact r)
     rcases hd with e | e
     ·rw [e] at r ⊢; exact kpH c v q o r
     ·exact kpH d _ e o r
  ·intro c hc
   have q := hf c hc
   have : c ≠ s.heap.objs.size := by
    simp only [List.mem_cons, List.not_mem_nil, or_false] at hc
    rcases hc with e | e | e | e | e
    ·rw [e]; exact nz
    ·rw [e]; exact lt _ _ st.oi
    ·rw [e]; exact nt
    ·rw [e]; exact n1
    ·rw [e]; exact n2
   rw [BF this]; exact q.1
 done := by
  intro X hP hw hK hc i pins s σ H E I hf st hg
  subst hP hw hK
  obtain ⟨xs, ys, s1, s2, e⟩ := hg
  obtain ⟨i1, r1, p1⟩ := I.sqB s1
  obtain ⟨i2, r2, p2⟩ := I.sqB s2
  have l1 := r1.length
  have l2 := r2.length
  have hh : X.A.in1.handled = none := I.ok.hd hc
  have hh0 : X.A.handled = none := I.ok.hd hc
  have fz := hf z (by simp); have fi := hf ti (by simp); have ft := hf tt (by simp); have f1 := hf j1 (by simp); have f2 := hf j2 (by simp)
  have ap := N.apart (a := a) (b := b) (by simp [Bo I s1 fz, Bo I s1 ft, Bo I s1 f1, Bo I s1 f2]) (by simp [Bo I s2 fz, Bo I s2 ft, Bo I s2 f1, Bo I s2 f2])
  obtain ⟨v1, v2, ot⟩ := st.ot
  refine Sw hh0 ap st.oz st.oi ot (st.q1.sit p1) (st.q2.sit p2) (by rcases e with e | e; exact .inl (by simp; omega); exact .inr (by simp; omega)) fun h' kp => ⟨rfl, ?_⟩
  have ne : ∀ c u, c ∈ [z, ti, tt, j1, j2] -> ∀ d, H d = some u -> d ≠ c := fun c u hc d q e => by rw [e, (hf c hc).1] at q; cases q
  show Inv X pins σ _ { s with heap := h', gens := s.gens, drawn := s.drawn, toks := s.toks }
  refine I.step (g' := s.gens) (d' := s.drawn) (ch := [z, tt, j1, j2]) ?_ ?_ ?_ ?_ ?_ ?_ ?_ ?_ ?_ ?_ I.bare
  ·intro c hc
   have q : QK X pins H c := hf c (by simp only [List.mem_cons, List.not_mem_nil, or_false] at hc ⊢; rcases hc with z | z | z | z <;> simp [z])
   exact ⟨q.2.2.2.1, q.2.1, q.2.2.2.2.1, q.2.2.2.2.2⟩
  ·exact fun c o _ _ hc q _ => by
    simp only [List.mem_cons, List.not_mem_nil, or_false, not_or] at hc
    exact kp c o hc.1 hc.2.1 hc.2.2.1 hc.2.2.2 q
  ·exact fun c o _ _ hc q _ => by
    simp only [List.mem_cons, List.not_mem_nil, or_false, not_or] at hc
    exact ⟨o.slots, kp c o hc.1 hc.2.1 hc.2.2.1 hc.2.2.2 q⟩
  ·exact fun c o _ q n => n
  ·exact fun c o hc q => by
    simp only [List.mem_cons, List.not_mem_nil, or_false, not_or] at hc
    exact ⟨o, kp c o hc.1 hc.2.1 hc.2.2.1 hc.2.2.2 q⟩
  ·exact fun c ys q => q
  ·exact fun c o u q => q
  ·exact fun c ps q => ⟨#[], by rw [q]; simp⟩
  ·rintro mm ⟨o, es, ep, ho, r⟩
   exact ⟨o, es, ep, kp _ o (Ne.symm fz.2.1) (Ne.symm ft.2.1) (Ne.symm f1.2.1) (Ne.symm f2.2.1) ho, r⟩
  ·intro c v q
   refine (I.hok c v q).stay (fun d o hd r => ?_) (fun d r => r) (fun d ys r => r)
   rcases hd with e | e
   ·rw [e] at r ⊢; exact kp c o (ne z v (by simp) c q) (ne tt v (by simp) c q) (ne j1 v (by simp) c q) (ne j2 v (by simp) c q) r
   ·exact kp d o (ne z _ (by simp) d e) (ne tt _ (by simp) d e) (ne j1 _ (by simp) d e) (ne j2 _ (by simp) d e) r
 self := fun _ _ _ _ _ st h => wpAny_pyIter_zip st.oz h
end L2
end
section
namespace L2
open PySem PySem.Spec PyProof.Rows
theorem zne (n : Nat) : ZNe (n + 4) (n + 2) (n + 3) n (n + 1) := ⟨fun e => by have : n + 2 = n + 4 := e; omega, fun e => by have : n + 3 = n + 4 := e; omega, fun e => by have : n = n + 4 := e; omega, fun e => by have : n + 1 = n + 4 := e; omega, fun e => by have : n + 2 = n + 3 := e; omega, fun e => by have : n + 2 = n := e; omega, fun e => by have : n + 2 = n + 1 := e; omega, fun e => by have : n + 3 = n := e; omega, fun e => by have : n + 3 = n + 1 := e; omega, fun e => by have : n = n + 1 := e; omega⟩
section
variable {X : Cx}
def iW (K : PySem.W.Frag) (ta : TA) : TI := fun σ H R => ta σ H fun vs H1 => ∃ k a m b, vs = [.ref a, .ref b] /\ (∃ xs, SqB K H1 k a xs) /\ (∃ ys, SqB K H1 m b ys) /\ R (Itz K k a m b) H1
theorem Zn {a b : Expr} {ta : TA} {p pos tp : Pos} {elts : List Expr} {n : Nat} (hg : Gl X "zip") (hm : X.mg "zip" = none) (ha : PA X [a, b] ta) (hs : starEach [a, b] X.env = [(false, eval a X.env), (false, eval b X.env)] := by rfl) (hs2 : starEach [b] X.env = [(false, eval b X.env)] := by rfl) :
  PI X (.Tuple elts n tp) (.Call (.Name "zip" p) [a, b] [] pos) (iW X.K ta) := by
 intro pins s σ H R I h
 refine Call_ (Kv I hg hm boot_zip (PyProof.Rows.callWith_type1 (thn (ha pos pins s σ H _ I h) fun us s1 ⟨vs, H1, I1, r1, q1⟩ => ?_) (by rw [hs, hs2]) (by rw [hs2]; rfl)))
 obtain ⟨k, a', m, b', e, ⟨xs, hq⟩, ⟨ys, hr⟩, q⟩ := q1
 subst e
 obtain ⟨u, v, rfl, ru, rv⟩ := r1.two
 cases (show u = Value.ref a' from ru)
 cases (show v = Value.ref b' from rv)
 obtain ⟨i1, v1, p1⟩ := I1.sqB hq
 obtain ⟨i2, v2, p2⟩ := I1.sqB hr
 refine UI p1 p2 fun h' oz oi ot q1 q2 kp => wpAny_pyIter_zip (s := { s1 with heap := h' }) oz ?_
 have sq : ∀ {q : Bool} {d : Addr} {is : Array Value}, Mm s1.heap q d is -> Mm h' q d is := fun {q d is} x => by
  cases q
  ·exact (show s1.heap.IsList d is from x).at fun o e => kp _ o e
  ·obtain ⟨o, e, r⟩ := (show s1.heap.IsTuple d is from x)
   exact ⟨o, kp _ o e, r⟩
 refine ⟨s1.heap.objs.size + 4, [s1.heap.objs.size + 4, s1.heap.objs.size + 2, s1.heap.objs.size + 3, s1.heap.objs.size, s1.heap.objs.size + 1], _, _, H1, rfl, I1.kept (t' := s1.toks) kp,
  Wk k a' m b' _ _ _ _ _ (zne s1.heap.objs.size), ⟨oz, oi, ⟨_, _, ot⟩, q1.jit (sq p1), q2.jit (sq p2)⟩, fun c hc => ?_, q⟩
 simp only [List.mem_cons, List.not_mem_nil, or_false] at hc
 have : s1.heap.objs.size ≤ c := by rcases hc with rfl | rfl | rfl | rfl | rfl <;> first | exact Nat.le_refl _ | exact Nat.le_add_right _ _
 exact I1.fpOk this (I1.hok.fresh this)
end
end L2
end
section
namespace L2
open PySem PySem.Spec PyProof.Rows
section
variable {prog : Program} {w : World} {A : Around} {E : Value -> Shared -> Prop} {s : Shared}
theorem IsList.at_ext {h h' : Heap} {a : Addr} {items : Array Value} (p : h.IsList a items) (k : ∀ o, h.get? a = some o -> h'.get? a = some o) : h'.IsList a items := by
 obtain ⟨o, ho, r⟩ := p
 exact ⟨o, k o ho, r⟩
theorem Ou {it t : Addr} {items : Array Value} (hne : t ≠ it) : ∀ (n i : Nat) (s : Shared) (Q : List Value -> Shared -> Prop), s.heap.IsListIter it t i -> s.heap.IsList t items -> i + n ≤ items.size ->
    (∀ h', h'.IsListIter it t (i + n) -> Heap.SameBut it s.heap h' -> Q ((items.toList.drop i).take n) { s with heap := h' }) -> wpAny (model prog w) A (draw (.ref it) n) Q E s
  | 0, i, s, Q, hit, _, _, hQ => by
    show wpAny _ _ (pure []) Q E s
    exact wpAny_pure (by simpa using hQ s.heap hit (Heap.SameBut.refl ..))
  | n + 1, i, s, Q, hit, ht, hle, hQ => by
    have hlt : i < items.size := by omega
    show wpAny _ _ (pyNext (.ref it) >>= _) Q E s
    refine wpAny_bind (wpAny_pyNext_list_item hit ht (x := items[i]) (by simp [hlt]) fun h1 hit1 hs1 => ?_)
    refine wpAny_bind (wpAny_holding (Ou hne n (i + 1) _ _ hit1 (IsList.at_ext ht fun o e => hs1.extBut t o hne e) (by omega) fun h2 hit2 hs2 => wpAny_pure ?_))
    have hd : items.toList.drop i = items[i] :: items.toList.drop (i + 1) := by simp [List.drop_eq_getElem_cons, hlt]
    have := hQ h2 (by rw [show i + (n + 1) = i + 1 + n by omega]; exact hit2) (hs1.trans hs2)
    rw [hd, List.take_succ_cons] at this
    exact this
theorem K5 {t : Addr} {items : Array Value} {Q : List Value -> Shared -> Prop} (hh : A.handled = none) (ht : s.heap.IsList t items) (hty : s.TypeIs (.ref t) "list")
  (hQ : ∀ h', Heap.ExtBut s.heap.objs.size s.heap h' -> Q items.toList { s with heap := h' }) : wpAny (model prog w) A (unpackItems (.ref t) items.size none) Q E s := by
 have hlt : t ≠ s.heap.objs.size := by obtain ⟨o, ho, _⟩ := ht; exact Nat.ne_of_lt (Heap.lt_size ho)
 unfold unpackItems
 refine wpAny_bind ?_
 ·unfold notIterableAtAll
  refine wpAny_bind (wpAny_specialOf hty F.slot_list_iter.lookup ?_)
  refine wpAny_pure ?_
  simp only [Bool.false_eq_true, if_false]
  refine wpAny_bind (wpAny_holding (wpAny_pyIter_list ht ?_))
  refine wpAny_bind (wpAny_holding (Ou hlt items.size 0 _ _ ⟨_, Heap.get?_push_size _ rfl, rfl, rfl⟩ (IsList.at_ext ht fun o e => Heap.get?_push_of_some _ e) (by omega) fun h1 hit1 hs1 => ?_))
  have hall : List.take items.size (List.drop 0 items.toList) = items.toList := by
   rw [List.drop_zero]; exact List.take_of_length_le (by simp)
  rw [hall]
  rw [if_neg (by simp)]
  have ht1 : h1.IsList t items := IsList.at_ext (IsList.at_ext ht fun o e => Heap.get?_push_of_some _ e) fun o e => hs1.extBut t o hlt e
  refine wpAny_bind (wpAny_holding (wpAny_pyNext_list_end hh hit1 ht1 (by simp) fun h2 he2 => ?_))
  simp only [Option.isSome_none, Bool.false_eq_true, if_false]
  refine wpAny_pure (hQ h2 fun b o hb e => he2 b o hb (hs1.extBut b o hb (Heap.get?_push_of_some _ e)))
theorem J7 {env : Env} {elts : List Expr} {x1} {pos : Pos} {t : Addr} {items : Array Value} {Q : Unit -> Shared -> Prop} (hh : A.handled = none) (ht : s.heap.IsList t items) (hty : s.TypeIs (.ref t) "list")
  (hn : (assignEach elts env).length = items.size) (hstar : (assignEach elts env).findIdx? (·.1) = none)
  (h : ∀ h', Heap.ExtBut s.heap.objs.size s.heap h' -> wpAny (model prog w) A (assignInOrder ((assignEach elts env).map (·.2)) items.toList) Q E { s with heap := h' }) :
  wpAny (model prog w) A (assign (.Tuple elts x1 pos) env (.ref t)) Q E s := by
 rw [PyProof.Rows.assign_Tuple]
 refine wpAny_bind (wpAny_standAt ?_)
 unfold unpack
 rw [hn, hstar]
 exact wpAny_bind (wpAny_holding (K5 hh ht hty h))
end
section
variable {X : Cx} {pos : Pos}
def gn (K : PySem.W.Frag) (n : Nat) (t : TGs) : TG := fun v σ H Q => ∃ a xs, v = .ref a /\ (SqT K H a xs ∨ H a = some (.lst xs)) /\ xs.length = n /\ t xs σ H Q
theorem aY {es : List Expr} {k : Nat} {t : TGs} {n : Nat} (hc : X.calm = true) (h : PGs X es t)
  (hn : (assignEach es X.env).length = n := by rfl) (hst : (assignEach es X.env).findIdx? (·.1) = none := by rfl) : PG X (.Tuple es k pos) (gn X.K n t) := by
 intro pins s σ H v u Q I r hw
 obtain ⟨a, xs, e1, hq, hl, hw⟩ := hw
 rcases hq with hq | hq
 ·exact bI hc h hn hst pins s σ H v u Q I r ⟨a, xs, e1, hq, hl, hw⟩
 ·subst e1
  cases r
  obtain ⟨its, rv, p, hz⟩ := I.list (SqL.of hq)
  obtain ⟨z, its2, m, rv2, _, e⟩ := I.lstM hq
  refine J7 (I.ok.hd hc) p.isList ⟨_, e, rfl⟩ (by simp [hn, ← hl, rv.length]) hst fun h' hx => ?_
  have I1 : Inv X pins σ H { s with heap := h' } := I.kept (t' := s.toks) fun b o e => hx b o (Nat.ne_of_lt (Heap.lt_size e)) e
  exact h pins _ σ H xs _ Q I1 (by simpa using rv) hw
end
end L2
end
section
namespace L2
open PySem PySem.Spec PyProof.Rows
theorem JIt.live {h : Heap} {k : Bool} {j l : Addr} {i : Nat} (q : JIt h k j l i) : ∃ o, h.get? j = some o /\ ∀ v, o.data ≠ .cell v := by
 cases k with
 | true => obtain ⟨o, e, c, d⟩ := q; exact ⟨o, e, fun v z => by rw [d] at z; cases z⟩
 | false => obtain ⟨o, e, c, d⟩ := q; exact ⟨o, e, fun v z => by rw [d] at z; cases z⟩
theorem Mm.mono {h h' : Heap} {k : Bool} {l : Addr} {its : Array Value} (q : Mm h k l its) (e : ∀ o, h.get? l = some o -> h'.get? l = some o) : Mm h' k l its := by
 cases k with
 | true => obtain ⟨o, ho, r⟩ := q; exact ⟨o, e o ho, r⟩
 | false => obtain ⟨o, ho, r⟩ := q; exact ⟨o, e o ho, r⟩
theorem TN {prog : Program} {w : World} {A : Around} (hh : A.handled = none) (it t : Addr) (hne : t ≠ it) (items : Array Value) :
  Draws prog w A it [it, t] items.size (fun i v => items[i]? = some v) (fun i h => SIt h it t i items) where
 live := fun _ _ st => let ⟨o, ho, _⟩ := st.live; ⟨o, ho⟩
 frame := fun _ _ _ st hk => st.at (fun o e => hk it (by simp) o e) fun o e => hk t (by simp) o e
 item := fun i s Q E hi st hQ => LC st (x := items[i]) (by simp [hi]) fun h' a b => hQ _ h' s.toks (by simp [hi]) a b
 done := fun s Q E st hE => LF hh st (by simp) hE
def ItE (K : PySem.W.Frag) (kk : Bool) (a : Addr) : It :=
 ⟨fun i H => ∃ xs x, SqB K H kk a xs /\ xs[i]? = some x, fun i H x H' => ∃ p y, H p = none /\ x = .ref p /\ (∀ xs, SqB K H kk a xs -> xs[i]? = some y) /\ H' = upd H p (.tup [.int i, y]), fun i H => ∃ xs, SqB K H kk a xs /\ xs.length ≤ i⟩
theorem Rn {P : Program} {w : World} {K : PySem.W.Frag} {elts : List Expr} {k : Nat} {pos : Pos} (kk : Bool) (a e it : Addr) (hei : e ≠ it) : Turn P w K (.Tuple elts k pos) (ItE K kk a) [e, it] e (fun i h => (∃ old, IsEnum h e it i old) /\ JIt h kk it a i) where
  mem := by simp
  obj := fun i h st b hb => by
    obtain ⟨⟨old, h1⟩, st2⟩ := st
    obtain ⟨o, h2, h4⟩ := st2.live
    simp only [List.mem_cons, List.not_mem_nil, or_false] at hb
    rcases hb with rfl | rfl
    · exact ⟨_, h1, fun v z => nomatch z⟩
    · exact ⟨o, h2, h4⟩
  keep := fun i h h' st k => by
    obtain ⟨⟨old, h1⟩, h2⟩ := st
    exact ⟨⟨old, k e (by simp) _ h1⟩, h2.at fun o q => k it (by simp) o q⟩
  item := by
    intro X hP hw hK hc i pins s σ H E I hf st hg
    subst hP hw hK
    obtain ⟨xs, x, hq, hx⟩ := hg
    obtain ⟨its, rv, p⟩ := I.sqB hq
    obtain ⟨u, hu, ru⟩ := rv.get hx
    obtain ⟨⟨old, h1⟩, h2⟩ := st
    obtain ⟨oi, hi1, hi2⟩ := h2.live
    have hea : a ≠ e := Bo I hq (hf e (by simp))
    have hia : a ≠ it := Bo I hq (hf it (by simp))
    have hil : i < its.toArray.size := by
      have := (List.getElem?_eq_some_iff.mp hu).1
      simpa using this
    have hh : X.A.in1.handled = none := I.ok.hd hc
    have D := TN (prog := X.prog) (w := X.w) hh it a hia its.toArray
    refine wpAny_pyNext_enum_itemD D h1 (h2.sit p) hil hei (by simp [hei, Ne.symm hea]) ?_
    intro y h' tk hy out st' tup size kept
    have ey : y = u := by
      have : its[i]? = some y := by simpa using hy
      rw [hu] at this
      exact (Option.some.inj this).symm
    subst ey
    refine ⟨_, rfl, wpAny_letOwnedTupleGo_enum out fun h'' en sb => ?_⟩
    have hfe := hf e (by simp)
    have hfi := hf it (by simp)
    have lt : ∀ b o, s.heap.get? b = some o -> b ≠ s.heap.objs.size := fun b o q => Nat.ne_of_lt (Heap.lt_size q)
    have kept2 : ∀ b o, b ≠ e -> b ≠ it -> s.heap.get? b = some o -> h''.get? b = some o := fun b o b1 b2 q => (sb.2 b b1).trans (kept b o b1 b2 q)
    have fr : H s.heap.objs.size = none := I.hok.fresh (Nat.le_refl _)
    have tup2 : h''.get? s.heap.objs.size = some { cls := .type "tuple", data := .seq #[.int i tk, y] } := (sb.2 _ (Ne.symm (lt e _ h1))).trans tup
    have ne1 : ∀ b u, H b = some u -> b ≠ e := fun b u q z => by rw [z, hfe.1] at q; cases q
    have ne2 : ∀ b u, H b = some u -> b ≠ it := fun b u q z => by rw [z, hfi.1] at q; cases q
    refine ⟨.ref s.heap.objs.size, upd H s.heap.objs.size (.tup [.int i, x]), ?_, rfl, ⟨_, x, fr, rfl, fun ys hys => by rw [I.sqB_inj hys hq]; exact hx, rfl⟩, ⟨⟨y, en⟩, ?_⟩, ?_⟩
    · show Inv X pins σ _ { s with heap := h'', gens := s.gens, drawn := s.drawn, toks := tk + 1 }
      refine I.step (g' := s.gens) (d' := s.drawn) (ch := [e, it]) ?_ ?_ ?_ ?_ ?_ ?_ ?_ ?_ ?_ ?_ I.bare
      · intro b hb
        simp only [List.mem_cons, List.not_mem_nil, or_false] at hb
        rcases hb with rfl | rfl
        · exact ⟨hfe.2.2.2.1, hfe.2.1, hfe.2.2.2.2.1, hfe.2.2.2.2.2⟩
        · exact ⟨hfi.2.2.2.1, hfi.2.1, hfi.2.2.2.2.1, hfi.2.2.2.2.2⟩
      · exact fun b o _ _ hc q _ => kept2 b o (fun z => hc (by simp [z])) (fun z => hc (by simp [z])) q
      · exact fun b o _ _ hc q _ => ⟨o.slots, kept2 b o (fun z => hc (by simp [z])) (fun z => hc (by simp [z])) q⟩
      · exact fun b o _ q n => by rw [BF (lt b o q)]; exact n
      · exact fun b o hc q => ⟨o, kept2 b o (fun z => hc (by simp [z])) (fun z => hc (by simp [z])) q⟩
      · exact fun b ys q => by rw [BF (Bi q fr)]; exact q
      · exact fun b o u q => by rw [BF (Bi q fr)]; exact q
      · exact fun b ps q => ⟨#[], by rw [BF (Bi q fr), q]; simp⟩
      · rintro m ⟨o, es, ep, ho, r⟩
        exact ⟨o, es, ep, kept2 _ o (Ne.symm hfe.2.1) (Ne.symm hfi.2.1) ho, r⟩
      · intro b v q
        by_cases hb : b = s.heap.objs.size
        · subst hb
          rw [CQ] at q
          cases q
          exact ⟨by show 2 ≤ sizeLine; decide, [.int i tk, y], .cons ⟨tk, rfl⟩ (.cons ru .nil), ⟨_, tup2, rfl, 0, rfl⟩⟩
        · rw [BF hb] at q
          refine (I.hok b v q).stay (fun c z hc r => kept2 c z ?_ ?_ r) (fun c r => by rw [BF (Bi r fr)]; exact r) (fun c ys r => by rw [BF (Bi r fr)]; exact r)
          · rcases hc with z | z
            · rw [z]; exact ne1 b v q
            · exact ne1 c _ z
          · rcases hc with z | z
            · rw [z]; exact ne2 b v q
            · exact ne2 c _ z
    · have pa : Mm h'' kk a its.toArray := p.mono fun o q => kept2 a o hea hia q
      exact (st'.at (fun o q => (sb.2 it (Ne.symm hei)).trans q) fun o q => (sb.2 a hea).trans q).jit pa
    · intro b hb
      simp only [List.mem_cons, List.not_mem_nil, or_false] at hb
      rcases hb with rfl | rfl
      · rw [BF (lt b _ h1)]; exact hfe.1
      · rw [BF (lt b _ hi1)]; exact hfi.1
  done := by
    intro X hP hw hK hc i pins s σ H E I hf st hg
    subst hP hw hK
    obtain ⟨xs, hq, hx⟩ := hg
    obtain ⟨its, rv, p⟩ := I.sqB hq
    obtain ⟨⟨old, h1⟩, h2⟩ := st
    have hl := rv.length
    have hh : X.A.in1.handled = none := I.ok.hd hc
    obtain ⟨f0, f1, f2, f3, f4, f5⟩ := hf it (by simp)
    have D : Draws X.prog X.w X.A.in1 it [it, a] i (fun _ _ => True) (fun j h => j = i /\ SIt h it a i its.toArray) :=
      { live := fun _ _ st => let ⟨o, ho, _⟩ := st.2.live; ⟨o, ho⟩
        frame := fun _ _ _ st hk => ⟨st.1, st.2.at (fun o e => hk it (by simp) o e) fun o e => hk a (by simp) o e⟩
        item := fun j s Q E hj st _ => absurd st.1 (Nat.ne_of_lt hj)
        done := fun s Q E st hE => LF hh st.2 (by simp; omega) hE }
    exact wpAny_pyNext_enum_endD D h1 ⟨rfl, h2.sit p⟩ fun h' eb => ⟨rfl, I.turned (t' := s.toks) (fun b o hb q => eb b o hb q) f0 f1 f3 f4 f5⟩
  self := fun _ _ _ _ _ st h => by
    obtain ⟨⟨old, h1⟩, _⟩ := st
    exact wpAny_pyIter_enum h1 h
section
variable {X : Cx}
def Zl (K : PySem.W.Frag) (ta : TA) : TI := fun σ H R => ta σ H fun vs H1 => ∃ kk a, vs = [.ref a] /\ (∃ xs, SqB K H1 kk a xs) /\ R (ItE K kk a) H1
theorem VS {a : Expr} {ta : TA} {p pos tp : Pos} {elts : List Expr} {k : Nat} (hg : Gl X "enumerate") (hm : X.mg "enumerate" = none) (ha : PA X [a] ta) (hs : starEach [a] X.env = [(false, eval a X.env)] := by rfl) :
  PI X (.Tuple elts k tp) (.Call (.Name "enumerate" p) [a] [] pos) (Zl X.K ta) := by
 intro pins s σ H R I h
 refine Call_ (Kv I hg hm boot_enumerate (callWith_type1 (thn (ha pos pins s σ H _ I h) fun us s1 ⟨vs, H1, I1, r1, q1⟩ => ?_) hs rfl))
 obtain ⟨kk, b, e, ⟨xs, hq⟩, q⟩ := q1
 subst e
 obtain ⟨u, rfl, ru⟩ := r1.one
 cases (show u = Value.ref b from ru)
 obtain ⟨its, rv, pt⟩ := I1.sqB hq
 have fin : ∀ h' : Heap, IsEnum h' (s1.heap.objs.size + 1) s1.heap.objs.size 0 .none -> JIt h' kk s1.heap.objs.size b 0 -> (∀ b o, s1.heap.get? b = some o -> h'.get? b = some o) -> wpAny (model X.prog X.w) X.A (pyIter (.ref (s1.heap.objs.size + 1))) (PIE X pins σ (.Tuple elts k tp) R) X.xe { s1 with heap := h' } := fun h' en it kp => by
  refine wpAny_pyIter_enum (s := { s1 with heap := h' }) en ?_
  refine ⟨s1.heap.objs.size + 1, [s1.heap.objs.size + 1, s1.heap.objs.size], _, _, H1, rfl, I1.kept (t' := s1.toks) kp, Rn kk b (s1.heap.objs.size + 1) s1.heap.objs.size (Nat.succ_ne_self _), ⟨⟨_, en⟩, it⟩, fun c hc => ?_, q⟩
  simp only [List.mem_cons, List.not_mem_nil, or_false] at hc
  rcases hc with rfl | rfl
  ·exact I1.fpOk (by omega) (I1.hok.fresh (by omega))
  ·exact I1.fpOk (Nat.le_refl _) (I1.hok.fresh (Nat.le_refl _))
 cases kk with
 | true => exact Ru (show s1.heap.IsTuple b its.toArray from pt) fun h' en it kp => fin h' en it kp
 | false => exact call_enumerate_list (show s1.heap.IsList b its.toArray from pt) fun h' en it _ kp => fin h' en it kp
end
end L2
end
section
namespace St
open PySem PySem.Spec L2 PyProof.Rows
inductive Kd where
 | non | bl | int | str | tup | lst | dct
 deriving DecidableEq
def Kd.ty : Kd -> String
 | .non => "NoneType" | .bl => "bool" | .int => "int" | .str => "str" | .tup => "tuple" | .lst => "list" | .dct => "dict"
def Kd.isA : Kd -> String -> Bool
 | .bl, "bool" => true | .bl, "int" => true | .int, "int" => true | .str, "str" => true | .tup, "tuple" => true | .lst, "list" => true | .dct, "dict" => true
 | _, _ => false
section
variable {K : PySem.W.Frag}
theorem Yh (k : Kd) : PySem.W.kitOne K (.type k.ty) (.type "int") = some (k.isA "int") := by
 cases k <;> first | rfl | (unfold PySem.W.kitOne; rfl)
theorem VV (k : Kd) : PySem.W.kitOne K (.type k.ty) (.type "bool") = some (k.isA "bool") := by
 cases k <;> rfl
theorem kit_tuple (k : Kd) : PySem.W.kitOne K (.type k.ty) (.type "tuple") = some (k.isA "tuple") := by
 cases k <;> rfl
theorem YB (k : Kd) : PySem.W.kitOne K (.type k.ty) (.type "str") = some (k.isA "str") := by
 cases k <;> rfl
end
structure Dfn (P : Program) (w : World) (K : PySem.W.Frag) (mg : Str -> Option Value) (base : Heap) (x : Str) (k : Nat) (ps : List Str) (sp : Sp) : Prop where
 ex : ∃ f fd, mg x = some (.ref f) /\ PySem.W.keepIn K (.ref f) = true /\ Binds K fd ps [] /\ PU P w K mg base CX0 k f fd ps sp
structure Src (K : PySem.W.Frag) (mg : Str -> Option Value) (x : Str) (st : Stmt) : Prop where
 ex : ∃ f fd, Fun K x x st f fd /\ mg x = some (.ref f)
theorem dg {X : Cx} {k : Nat} {x : Str} {ps : List Str} {sp : Sp} {e : Expr} {es : List Expr} {t : TA} {p pos : Pos} (d : Dfn X.prog X.w X.K X.mg X.base x k ps sp) (hr : NL k X.A) (hg : Gl X x) (ha : PA X (e :: es) t)
  (hdb : (x == ("__debug__" : Str)) = false := by decide) (he : starEach (e :: es) X.env = (false, eval e X.env) :: starEach es X.env := by rfl) (hpl : (backTo pos (starEach es X.env)).any (·.1) = false := by rfl) :
  PE X (.Call (.Name x p) (e :: es) [] pos) (YC sp [] E0 t) := by
 obtain ⟨f, fd, a, b, c, F⟩ := d.ex
 exact YZ F hr hg a b c .nil fN ha hdb he hpl
section
variable {X : Cx}
theorem Xw {n : Nat} (h : n < 2 ^ 8000) : n.log2 < 9000 := by
 by_cases h0 : n = 0
 ·subst h0; decide
 ·exact Nat.lt_trans ((Nat.log2_lt h0).mpr h) (by decide)
theorem V2 : OpR X (binaryOp .FloorDiv) (rI (fun _ j => 0 < j /\ j.natAbs < 2 ^ 8000) fun i j => .int (i / j)) := opI fun i j _ _ _ _ _ hc q => by
 have h1 : (0 : Int) < j := hc.1
 exact floordiv_int (by omega) (by rw [Int.fdiv_eq_ediv_of_nonneg i (by omega)]; exact q) (.inl (PyProof.noPylong_of_log2 (Xw hc.2)))
theorem Ri {prog : Program} {w : World} {A : Around} (hh : A.handled = none) {a it : Addr} (hne : a ≠ it) {vs : List Value} : Walks prog w A it [it, a] [it] vs.length (fun i v => vs[i]? = some v) (fun i h => h.IsListIter it a i /\ h.IsList a vs.toArray) where
 sub := fun b hb => by simp at hb; simp [hb]
 frame := fun i h h' st k => ⟨st.1.at fun o e => k it (by simp) o e, by
  obtain ⟨o, ho, r⟩ := st.2
  exact ⟨o, k a (by simp) o ho, r⟩⟩
 item := fun i s Q E hi st hQ => by
  refine wpAny_pyNext_list_item st.1 st.2 (x := vs[i]) (by simp [hi]) fun h' st' sb => ?_
  refine hQ _ h' s.toks (by simp [hi]) ⟨st', ?_⟩ fun b o hb e => (sb.2 b (by simpa using hb)).trans e
  obtain ⟨o, ho, r⟩ := st.2
  exact ⟨o, (sb.2 a hne).trans ho, r⟩
 done := fun s Q E st hQ => wpAny_pyNext_list_end hh st.1 st.2 (by simp) fun h' eb => hQ h' s.toks fun b o hb e => eb b o (by simpa using hb) e
 self := fun i s Q E st hQ => wpAny_pyIter_listiter st.1 hQ
theorem WX {ns : List Int} {j : Nat} (h : j < ns.length) : (ns.take (j + 1)).sum = (ns.take j).sum + ns.getD j 0 := by
 have e : ns.getD j 0 = ns[j] := by simp [List.getD_eq_getElem?_getD, List.getElem?_eq_getElem h]
 rw [List.take_succ, List.getElem?_eq_getElem h, List.sum_append, e]
 show _ + (ns[j] + 0) = _
 omega
theorem MC {ns : List Int} : ∀ {j : Nat}, j ≤ ns.length -> preSum (fun i => ns.getD i 0) j = (ns.take j).sum
  | 0, _ => by simp [preSum]
  | j + 1, h => by
    rw [preSum, MC (by omega), WX (by omega)]
theorem UR {ns : List Int} (h : ∀ n ∈ ns, 0 ≤ n /\ n ≤ 1000000) : 0 ≤ ns.sum /\ ns.sum ≤ 1000000 * ns.length := by
  induction ns with
  | nil => simp
  | cons a l ih =>
    have h1 := h a (by simp)
    have h2 := ih fun n hn => h n (by simp [hn])
    rw [List.sum_cons, List.length_cons]
    have : ((l.length + 1 : Nat) : Int) = (l.length : Int) + 1 := by omega
    omega
end
section
variable {prog : Program} {w : World} {A : Around} {E : Value -> Shared -> Prop} {s : Shared}
theorem Jx {t sl : Addr} {items : Array Value} {vl vu : Value} {lo hi : Option Int} {Q : Value -> Shared -> Prop} (ht : IsTup s.heap t items) (hs : s.heap.IsSliceOf sl vl vu .none) (pl : IsPart vl lo) (pu : IsPart vu hi)
  (hw : HT.sIx items.size 0 lo = 0 /\ HT.sIx items.size items.size hi = items.size)
  (h : Q (.ref t) s) : wpAny (model prog w) A (getItem (.ref t) (.ref sl)) Q E s := by
 obtain ⟨os, hos, hcs, hds⟩ := id hs
 have hTs : s.TypeIs (.ref sl) "slice" := ⟨os, hos, hcs⟩
 unfold getItem
 try with_reducible refine wpAny_holding ?_
 first | refine wpAny_bind (wpAny_pure ?_) | skip
 refine wpAny_bind (wpAny_sequenceKey ht.typeIs (by decide) ?_)
 refine wpAny_bind (wpAny_callSpecial?_slot (name := Str.ofString "__getitem__") ht.typeIs PyProof.Rows.slot_tuple_getitem
  (wpAny_call_entry PyProof.Rows.slot_tuple_getitem ht.typeIs entry_tuple_getitem ?_ (args_tuple_getitem _ _)))
 show wpAny _ _ (Builtin.Tuple.tupleItemsOf (.ref t) >>= _) _ _ s
 refine wpAny_bind (tupleItemsOf_ ht ?_)
 refine wpAny_bind (wpAny_typeOf hTs ?_)
 rw [if_pos (by decide)]
 refine wpAny_bind (HT.HI hs pl pu ?_)
 show wpAny _ _ (if (((HT.sIx items.size 0 lo : Nat) : Int) == 0 && (1 : Int) == 1 && (HT.sIx items.size items.size hi - HT.sIx items.size 0 lo) == items.size) = true then _ else _) _ _ s
 rw [if_pos (by rw [hw.1, hw.2]; simp)]
 unfold Builtin.Tuple.tupleIsExact
 refine wpAny_bind (wpAny_bind (wpAny_typeOf ht.typeIs (wpAny_pure ?_)))
 rw [if_pos (by decide)]
 exact wpAny_bind (wpAny_rule (wpAny_pure ⟨_, rfl, wpAny_pure h⟩))
end
section
variable {X : Cx}
def iF (K : PySem.W.Frag) : V -> Option Int -> Option Int -> Hp -> VK -> Prop := fun x lo hi H Q => ∃ a xs, x = .ref a /\ SqT K H a xs /\ HT.sIx xs.length 0 lo = 0 /\ HT.sIx xs.length xs.length hi = xs.length /\ Q x H
theorem aG : SlR X (iF X.K) := by
 intro pins s σ H x v vl vu lo hi sl Q I rx hs pl pu h
 obtain ⟨a, xs, rfl, hx, h1, h2, q⟩ := h
 cases rx
 obtain ⟨its, r, ht, hz⟩ := I.tuple hx
 have hlen : its.toArray.size = xs.length := by rw [List.size_toArray]; exact r.length.symm
 refine ⟨"tuple", _, PyProof.Rows.slot_tuple_getitem.lookup, ht.typeIs, ?_⟩
 exact Jx ht hs pl pu (by rw [hlen]; exact ⟨h1, h2⟩) ⟨.ref a, H, I, rfl, q⟩
def c8 (K : PySem.W.Frag) : R2 := fun x y H Q => ∃ a b ys, x = .ref a /\ y = .ref b /\ SqT K H a [] /\ SqT K H b ys /\ Q (.ref b) H
theorem Yb : OpR X (binaryOp .Add) (c8 X.K) := by
 intro pins s σ H x y v u Q I rx ry h
 obtain ⟨a, b, ys, rfl, rfl, ha, hb, q⟩ := h
 cases rx
 cases ry
 obtain ⟨its, r1, p1, _⟩ := I.tuple ha
 obtain ⟨its2, r2, p2, _⟩ := I.tuple hb
 have e0 : its = [] := r1.nil_iff.mpr rfl
 subst e0
 obtain ⟨⟨cls, dd, data, sl⟩, ho, hc, n, hd⟩ := id p1
 obtain ⟨⟨cls2, dd2, data2, sl2⟩, ho2, hc2, n2, hd2⟩ := id p2
 simp only at hc hd hc2 hd2
 subst hc hd hc2 hd2
 exact concat_meets ⟨_, ho, rfl⟩ ⟨_, ho2, rfl⟩ noFill_tuple_add seq_tuple_add PySem.F.slot_tuple_add PySem.F.entry_tuple_add (PySem.F.args_tuple_add_2 _ _)
   (tuple_addW0 a b #[] its2.toArray n n2 dd dd2 sl sl2 rfl) ⟨ho, ho2, ⟨.ref b, H, I, rfl, q⟩⟩
end
end St
end
section
namespace Mi
open PySem PySem.Spec L2
inductive D where
 | non | bl (b : Bool) | int (i : Int) | str (x : Str) | ty (n : String) | tup (ds : List D) | lst (ds : List D) | dct (kvs : List (Key × D)) | scr (ns : List Int) | ref (n : Nat)
inductive Wv where
 | val (d : D) | own (ds : List D)
inductive Cl where
 | lst (ds : List D) | dct (kvs : List (Key × D))
abbrev Sto := List Cl
structure Ms where
 cel : List Addr
 tmp : List Addr
def Ms.mem (M : Ms) (a : Addr) : Prop := a ∈ M.cel ∨ a ∈ M.tmp
def Ms.no : Ms := ⟨[], []⟩
theorem Ms.no_mem {a : Addr} : ¬ Ms.no.mem a := fun z => z.elim (fun z => by cases z) fun z => by cases z
def KL (K : PySem.W.Frag) (a : Addr) (xs : List V) : Prop := ∃ (o : Obj) (its : Array Value) (n : Nat), K.lookup a = some o /\ o.cls = .type "list" /\ o.dict = none /\ o.data = .seq its n /\ its.size ≤ sizeLine /\ Vals xs its.toList
mutual
inductive EM (K : PySem.W.Frag) (M : Ms) (H : Hp) : V -> D -> Prop
 | non : EM K M H .non .non
 | bl (b : Bool) : EM K M H (.bl b) (.bl b)
 | int (i : Int) : EM K M H (.int i) (.int i)
 | str (x : Str) : EM K M H (.str x) (.str x)
 | ty (n : String) : EM K M H (.ty n) (.ty n)
 | tup {a : Addr} {xs : List V} {ds : List D} (h : SqT K H a xs) (r : Ax K M H xs ds) : EM K M H (.ref a) (.tup ds)
 | lst {a : Addr} {xs : List V} {ds : List D} (h : H a = some (.lst xs)) (n : ¬ M.mem a) (r : Ax K M H xs ds) : EM K M H (.ref a) (.lst ds)
 | scr {a : Addr} {ns : List Int} (h : (Rd H a (.lst (ns.map V.int)) /\ ¬ M.mem a) ∨ KL K a (ns.map V.int)) : EM K M H (.ref a) (.scr ns)
 | dct {a : Addr} {kvs : List (Key × V)} {es : List (Key × D)} (h : H a = some (.dK kvs)) (n : ¬ M.mem a) (r : Mh K M H kvs es) : EM K M H (.ref a) (.dct es)
 | ref {a : Addr} {n : Nat} (h : M.cel[n]? = some a) : EM K M H (.ref a) (.ref n)
inductive Ax (K : PySem.W.Frag) (M : Ms) (H : Hp) : List V -> List D -> Prop
 | nil : Ax K M H [] []
 | cons {v : V} {d : D} {vs : List V} {ds : List D} (h : EM K M H v d) (t : Ax K M H vs ds) : Ax K M H (v :: vs) (d :: ds)
inductive Mh (K : PySem.W.Frag) (M : Ms) (H : Hp) : List (Key × V) -> List (Key × D) -> Prop
 | nil : Mh K M H [] []
 | cons {k : Key} {v : V} {d : D} {vs : List (Key × V)} {ds : List (Key × D)} (h : EM K M H v d) (t : Mh K M H vs ds) : Mh K M H ((k, v) :: vs) ((k, d) :: ds)
end
def MOk (M : Ms) (H : Hp) : Prop := ∀ a, M.mem a -> (∃ xs, H a = some (.lst xs)) ∨ ∃ kvs, H a = some (.dK kvs)
structure Sp1 (M : Ms) (H : Hp) (M' : Ms) (H' : Hp) : Prop where
 mo : MOk M H
 pre : M.cel <+: M'.cel
 fresh : ∀ a, M'.mem a -> M.mem a ∨ H a = none
 keep : ∀ a o, H a = some o -> ¬ M.mem a -> H' a = some o
structure Gr (M : Ms) (H : Hp) (M' : Ms) (H' : Hp) : Prop where
 mo : MOk M H
 pre : M.cel <+: M'.cel
 tmp : M'.tmp = M.tmp
 fresh : ∀ a, a ∈ M'.cel -> a ∈ M.cel ∨ H a = none
 keep : ∀ a o, H a = some o -> a ∉ M.cel -> H' a = some o
 some : ∀ a, H a ≠ none -> H' a ≠ none
section
variable {K : PySem.W.Frag} {M M' M2 : Ms} {H H' H2 : Hp}
theorem MOk.some (mo : MOk M H) {a : Addr} (h : M.mem a) : H a ≠ none := fun z => by
 rcases mo a h with ⟨xs, e⟩ | ⟨xs, e⟩ <;> (rw [e] at z; cases z)
theorem Gr.st (g : Gr M H M' H') : Sp1 M H M' H' := ⟨g.mo, g.pre, fun a z => z.elim (fun z => (g.fresh a z).imp .inl id) fun z => .inl (.inr (by rw [← g.tmp]; exact z)), fun a o e n => g.keep a o e fun z => n (.inl z)⟩
theorem Gr.refl (mo : MOk M H) : Gr M H M H := ⟨mo, List.prefix_rfl, rfl, fun _ z => .inl z, fun _ _ e _ => e, fun _ e => e⟩
theorem Gr.none (g : Gr M H M' H') {a : Addr} (h : H' a = none) : H a = none := by
 cases e : H a with
 | none => rfl
 | some o => exact absurd h (g.some a (by rw [e]; intro z; cases z))
theorem Gr.trans (h : Gr M H M' H') (g : Gr M' H' M2 H2) : Gr M H M2 H2 :=
 ⟨h.mo, h.pre.trans g.pre, g.tmp.trans h.tmp, fun a z => (g.fresh a z).elim (h.fresh a) fun z => .inr (h.none z), fun a o e n => g.keep a o (h.keep a o e n) (fun z => by
  rcases h.fresh a z with z | z
  ·exact n z
  ·rw [e] at z; cases z), fun a e => g.some a (h.some a e)⟩
theorem Gr.grow (mo : MOk M H) (k : ∀ a o, H a = Option.some o -> H' a = Option.some o) : Gr M H M H' :=
 ⟨mo, List.prefix_rfl, rfl, fun _ z => .inl z, fun b u eb _ => k b u eb, fun b eb z => by
  cases h : H b with
  | none => exact eb h
  | some o => rw [k b o h] at z; cases z⟩
theorem OX {α : Type} {xs ys : List α} (h : xs <+: ys) {n : Nat} {a : α} (e : xs[n]? = Option.some a) : ys[n]? = Option.some a := by
 obtain ⟨zs, rfl⟩ := h
 rw [List.getElem?_append_left (List.getElem?_eq_some_iff.mp e).1]
 exact e
theorem Vg {a : Addr} {xs : List V} (h : SqT K H a xs) (k : ∀ b o, H b = Option.some o -> (∀ ys, o ≠ .lst ys) -> (∀ ys, o ≠ .dK ys) -> H' b = Option.some o) : SqT K H' a xs := by
 rcases h with h | h
 ·rcases h with h | ⟨o, h⟩
  ·exact .inl (.inl (k _ _ h (fun ys z => by cases z) fun ys z => by cases z))
  ·exact .inl (.inr ⟨o, k _ _ h (fun ys z => by cases z) fun ys z => by cases z⟩)
 ·exact .inr h
theorem Sp1.sqT (g : Sp1 M H M' H') {a : Addr} {xs : List V} (h : SqT K H a xs) : SqT K H' a xs := Vg h fun b o e n1 n2 => g.keep b o e fun z => by
 rcases g.mo b z with ⟨ys, q⟩ | ⟨ys, q⟩
 ·exact n1 ys (Option.some.inj (e.symm.trans q))
 ·exact n2 ys (Option.some.inj (e.symm.trans q))
theorem Sp1.nm (g : Sp1 M H M' H') {a : Addr} {o : HO} (e : H a = Option.some o) (n : ¬ M.mem a) : ¬ M'.mem a := fun z => by
 rcases g.fresh _ z with z | z
 ·exact n z
 ·rw [z] at e; cases e
mutual
theorem EM.step (g : Sp1 M H M' H') : ∀ {v : V} {d : D}, EM K M H v d -> EM K M' H' v d
  | _, _, .non => .non
  | _, _, .bl b => .bl b
  | _, _, .int b => .int b
  | _, _, .str b => .str b
  | _, _, .ty b => .ty b
  | _, _, .tup h r => .tup (g.sqT h) (Ax.step g r)
  | _, _, .lst (a := a) (xs := xs) h n r => .lst (g.keep _ _ h n) (g.nm h n) (Ax.step g r)
  | _, _, .scr (a := a) (ns := ns) h => by
    rcases h with ⟨h, n⟩ | h
    · rcases h with h | ⟨o, h⟩
      · exact .scr (.inl ⟨.inl (g.keep _ _ h n), g.nm h n⟩)
      · exact .scr (.inl ⟨.inr ⟨o, g.keep _ _ h n⟩, g.nm h n⟩)
    · exact .scr (.inr h)
  | _, _, .dct (a := a) h n r => .dct (g.keep _ _ h n) (g.nm h n) (Mh.step g r)
  | _, _, .ref h => .ref (OX g.pre h)
theorem Ax.step (g : Sp1 M H M' H') : ∀ {v : List V} {d : List D}, Ax K M H v d -> Ax K M' H' v d
 | _, _, .nil => .nil
 | _, _, .cons h t => .cons (EM.step g h) (Ax.step g t)
theorem Mh.step (g : Sp1 M H M' H') : ∀ {v : List (Key × V)} {d : List (Key × D)}, Mh K M H v d -> Mh K M' H' v d
 | _, _, .nil => .nil
 | _, _, .cons h t => .cons (EM.step g h) (Mh.step g t)
end
theorem Ax.length : ∀ {v : List V} {d : List D}, Ax K M H v d -> v.length = d.length
 | _, _, .nil => rfl
 | _, _, .cons _ t => by simp [Ax.length t]
theorem Ax.get : ∀ {v : List V} {d : List D} {i : Nat} {y : D}, Ax K M H v d -> d[i]? = Option.some y -> ∃ x, v[i]? = Option.some x /\ EM K M H x y
  | _, _, i, y, .nil, e => by simp at e
  | _, _, 0, y, .cons h t, e => by simp at e; subst e; exact ⟨_, rfl, h⟩
  | _, _, i + 1, y, .cons h t, e => by
    obtain ⟨x, h1, h2⟩ := Ax.get (i := i) t (by simpa using e)
    exact ⟨x, by simpa using h1, h2⟩
theorem Ax.append : ∀ {v v' : List V} {d d' : List D}, Ax K M H v d -> Ax K M H v' d' -> Ax K M H (v ++ v') (d ++ d')
 | _, _, _, _, .nil, s => s
 | _, _, _, _, .cons h t, s => .cons h (Ax.append t s)
theorem Ax.take : ∀ {v : List V} {d : List D} (n : Nat), Ax K M H v d -> Ax K M H (v.take n) (d.take n)
 | _, _, 0, _ => .nil
 | _, _, _ + 1, .nil => .nil
 | _, _, n + 1, .cons h t => .cons h (Ax.take n t)
theorem Ax.drop : ∀ {v : List V} {d : List D} (n : Nat), Ax K M H v d -> Ax K M H (v.drop n) (d.drop n)
 | _, _, 0, r => r
 | _, _, _ + 1, .nil => .nil
 | _, _, n + 1, .cons _ t => Ax.drop n t
theorem Ax.set {x : V} {y : D} (r : EM K M H x y) : ∀ {v : List V} {d : List D} (i : Nat), Ax K M H v d -> Ax K M H (v.set i x) (d.set i y)
 | _, _, _, .nil => .nil
 | _, _, 0, .cons _ t => .cons r t
 | _, _, i + 1, .cons q t => .cons q (Ax.set r i t)
end
abbrev En := List (Option D)
abbrev Sg := List (Option V)
structure EnR (K : PySem.W.Frag) (M : Ms) (E : En) (σ : Sg) (H : Hp) : Prop where
 len : E.length = σ.length
 val : ∀ (i : Nat) (d : D), E[i]? = some (some d) -> ∃ v, σ[i]? = some (some v) /\ EM K M H v d
def eB (K : PySem.W.Frag) (M : Ms) (H : Hp) (a : Addr) : Cl -> Prop
 | .lst ds => ∃ xs, H a = some (.lst xs) /\ Ax K M H xs ds
 | .dct es => ∃ kvs, H a = some (.dK kvs) /\ Mh K M H kvs es
structure StR (K : PySem.W.Frag) (M : Ms) (S : Sto) (H : Hp) : Prop where
 mo : MOk M H
 nd : M.cel.Nodup
 nt : ∀ a ∈ M.tmp, a ∉ M.cel
 len : M.cel.length = S.length
 cell : ∀ (n : Nat) (a : Addr) (c : Cl), M.cel[n]? = some a -> S[n]? = some c -> eB K M H a c
section
variable {K : PySem.W.Frag} {M M' M2 : Ms} {H H' H2 : Hp} {E : En} {σ : Sg} {S : Sto}
theorem EnR.step (r : EnR K M E σ H) (g : Sp1 M H M' H') : EnR K M' E σ H' := ⟨r.len, fun i d e => by
 obtain ⟨v, h1, h2⟩ := r.val i d e
 exact ⟨v, h1, h2.step g⟩⟩
theorem StR.grow (r : StR K M S H) (k : ∀ a o, H a = some o -> H' a = some o) : StR K M S H' := by
 have g : Sp1 M H M H' := ⟨r.mo, List.prefix_rfl, fun _ z => .inl z, fun a o e _ => k a o e⟩
 refine ⟨fun a z => (r.mo a z).imp (fun ⟨xs, e⟩ => ⟨xs, k _ _ e⟩) fun ⟨xs, e⟩ => ⟨xs, k _ _ e⟩, r.nd, r.nt, r.len, fun n a c h1 h2 => ?_⟩
 have q := r.cell n a c h1 h2
 cases c with
 | lst ds => obtain ⟨xs, e, rr⟩ := q; exact ⟨xs, k _ _ e, rr.step g⟩
 | dct ds => obtain ⟨xs, e, rr⟩ := q; exact ⟨xs, k _ _ e, rr.step g⟩
theorem StR.chg (r : StR K M S H) {n : Nat} {a : Addr} {ds es : List D} {ys : List V} (h1 : M.cel[n]? = some a) (h2 : S[n]? = some (.lst ds)) (hy : Ax K M H ys es) : StR K M (S.set n (.lst es)) (upd H a (.lst ys)) /\ Gr M H M (upd H a (.lst ys)) := by
 have ha : a ∈ M.cel := List.mem_of_getElem? h1
 have hl : n < S.length := (List.getElem?_eq_some_iff.mp h2).1
 have g : Gr M H M (upd H a (.lst ys)) := ⟨r.mo, List.prefix_rfl, rfl, fun _ z => .inl z, fun b o eb nb => by rw [BF (fun z => nb (by rw [z]; exact ha))]; exact eb, fun b eb => by
  by_cases h : b = a
  ·subst h; rw [CQ]; intro z; cases z
  ·rw [BF h]; exact eb⟩
 refine ⟨⟨fun b z => ?_, r.nd, r.nt, by rw [List.length_set]; exact r.len, fun m b c e1 e2 => ?_⟩, g⟩
 ·by_cases h : b = a
  ·subst h; exact .inl ⟨ys, CQ⟩
  ·rw [BF h]; exact r.mo b z
 ·by_cases h : n = m
  ·subst h
   rw [h1] at e1; cases e1
   rw [List.getElem?_set_self hl] at e2; cases e2
   exact ⟨ys, CQ, hy.step g.st⟩
  ·rw [List.getElem?_set_ne h] at e2
   have hb : b ≠ a := fun z => by
    subst z
    exact h ((List.getElem?_inj (List.getElem?_eq_some_iff.mp h1).1 r.nd).mp (h1.trans e1.symm))
   have q := r.cell m b c e1 e2
   cases c with
   | lst fs => obtain ⟨xs, e, rr⟩ := q; exact ⟨xs, by rw [BF hb]; exact e, rr.step g.st⟩
   | dct fs => obtain ⟨xs, e, rr⟩ := q; exact ⟨xs, by rw [BF hb]; exact e, rr.step g.st⟩
theorem StR.cel_new (r : StR K M S H) {a : Addr} {xs : List V} {ds : List D} (e : H a = none) (k : ∀ b o, H b = some o -> H' b = some o) (ea : H' a = some (.lst xs)) (rr : Ax K M H xs ds) : StR K ⟨M.cel ++ [a], M.tmp⟩ (S ++ [.lst ds]) H' /\ Gr M H ⟨M.cel ++ [a], M.tmp⟩ H' := by
  have g : Gr M H ⟨M.cel ++ [a], M.tmp⟩ H' := ⟨r.mo, List.prefix_append _ _, rfl, fun b z => by
    rcases List.mem_append.mp z with z | z
    · exact .inl z
    · simp at z; subst z; exact .inr e, fun b o eb _ => k b o eb, fun b eb z => by
    cases h : H b with
    | none => exact eb h
    | some o => rw [k b o h] at z; cases z⟩
  have na : ¬ M.mem a := fun z => r.mo.some z e
  refine ⟨⟨fun b z => ?_, ?_, fun b hb z => ?_, by simp [r.len], fun m b c e1 e2 => ?_⟩, g⟩
  · have z' : M.mem b ∨ b = a := by
      rcases z with z | z
      · rcases List.mem_append.mp z with z | z
        · exact .inl (.inl z)
        · simp at z; exact .inr z
      · exact .inl (.inr z)
    rcases z' with z | z
    · exact (r.mo b z).imp (fun ⟨xs, e⟩ => ⟨xs, k _ _ e⟩) fun ⟨xs, e⟩ => ⟨xs, k _ _ e⟩
    · subst z; exact .inl ⟨xs, ea⟩
  · rw [List.nodup_append]
    refine ⟨r.nd, by simp, fun x hx y hy => ?_⟩
    simp at hy; subst hy
    exact fun z => na (.inl (by rw [← z]; exact hx))
  · rcases List.mem_append.mp z with z | z
    · exact r.nt b hb z
    · simp at z; subst z; exact na (.inr hb)
  · by_cases h : m < S.length
    · rw [List.getElem?_append_left (by rw [r.len]; exact h)] at e1
      rw [List.getElem?_append_left h] at e2
      have q := r.cell m b c e1 e2
      cases c with
      | lst fs => obtain ⟨xs, e, rr⟩ := q; exact ⟨xs, k _ _ e, rr.step g.st⟩
      | dct fs => obtain ⟨xs, e, rr⟩ := q; exact ⟨xs, k _ _ e, rr.step g.st⟩
    · have hm : m = S.length := by
        have := (List.getElem?_eq_some_iff.mp e2).1
        simp at this; omega
      subst hm
      rw [List.getElem?_append_right (by rw [r.len]; exact Nat.le_refl _)] at e1
      rw [List.getElem?_append_right (Nat.le_refl _)] at e2
      rw [r.len] at e1
      simp at e1 e2
      subst e1 e2
      exact ⟨xs, ea, rr.step g.st⟩
end
abbrev Ev := En -> Sto -> Option (D × Sto)
def tD (K : PySem.W.Frag) (f : Ev) : TE := fun σ H Q => ∃ M E S d S', f E S = some (d, S') /\ EnR K M E σ H /\ StR K M S H /\ ∀ v H' M', Gr M H M' H' -> StR K M' S' H' -> EM K M' H' v d -> Q v H'
structure DE (X : Cx) (e : Expr) (f : Ev) : Prop where
 pe : PE X e (tD X.K f)
theorem CN {X : Cx} {e : Expr} {t t' : TE} (h : PE X e t) (m : ∀ σ H Q, t' σ H Q -> t σ H Q) : PE X e t' := fun pins s σ H Q I q => h pins s σ H Q I (m _ _ _ q)
theorem Sl {X : Cx} {e : Expr} {t t' : TT} (h : PT X e t) (m : ∀ σ H Q, t' σ H Q -> t σ H Q) : PT X e t' := fun pins s σ H Q I q => h pins s σ H Q I (m _ _ _ q)
theorem Ir {K : PySem.W.Frag} {f : Ev} {σ : Sg} {H : Hp} {Q Q' : VK} (h : tD K f σ H Q) (m : ∀ v H', Q v H' -> Q' v H') : tD K f σ H Q' := by
 obtain ⟨M, E, S, d, S', e, r, st, q⟩ := h
 exact ⟨M, E, S, d, S', e, r, st, fun v H' M' g s r => m _ _ (q v H' M' g s r)⟩
theorem Bg {α β : Type} {o : Option α} {k : α -> Option β} {y : β} (e : o.bind k = some y) : ∃ x, o = some x /\ k x = some y := by
 cases o with
 | none => cases e
 | some x => exact ⟨x, rfl, e⟩
theorem Mc {α β : Type} {o : Option α} {k : α -> β} {y : β} (e : o.map k = some y) : ∃ x, o = some x /\ k x = y := by
 cases o with
 | none => cases e
 | some x => cases e; exact ⟨x, rfl, rfl⟩
def fz : Wv -> D
 | .val d => d
 | .own ds => .lst ds
def at? (E : En) (i : Nat) : Option D := (E[i]?).join
theorem at?_some {E : En} {i : Nat} {w : D} (h : at? E i = some w) : E[i]? = some (some w) := by
 unfold at? at h
 cases e : E[i]? with
 | none => rw [e] at h; cases h
 | some q => rw [e] at h; exact congrArg some h
def evs : List Ev -> En -> Sto -> Option (List D × Sto)
 | [], _, S => some ([], S)
 | f :: fs, E, S => (f E S).bind fun r => (evs fs E r.2).map fun q => (r.1 :: q.1, q.2)
def tDs (K : PySem.W.Frag) : List Ev -> TA
 | [] => gO
 | f :: fs => Zz (tD K f) (tDs K fs)
structure DEs (X : Cx) (es : List Expr) (fs : List Ev) : Prop where
 pe : PA X es (tDs X.K fs)
theorem AE {X : Cx} : DEs X [] [] := ⟨TY⟩
theorem AA {X : Cx} {e : Expr} {es : List Expr} {f : Ev} {fs : List Ev} (h : DE X e f) (t : DEs X es fs) (hs : starEach (e :: es) X.env = (false, eval e X.env) :: starEach es X.env := by rfl) : DEs X (e :: es) (f :: fs) := ⟨OD h.pe t.pe hs⟩
section
variable {K : PySem.W.Frag} {M M' : Ms} {E : En} {S : Sto} {σ : Sg} {H H' : Hp}
theorem Il : ∀ {fs : List Ev} {M : Ms} {S : Sto} {ds : List D} {S' : Sto} {H : Hp} {Q : List V -> Hp -> Prop}, evs fs E S = some (ds, S') -> EnR K M E σ H -> StR K M S H -> (∀ vs H' M', Gr M H M' H' -> StR K M' S' H' -> Ax K M' H' vs ds -> Q vs H') -> tDs K fs σ H Q
  | [], M, S, ds, S', H, Q, e, r, st, q => by
    cases e
    exact q [] H M (.refl st.mo) st .nil
  | f :: fs, M, S, ds, S', H, Q, e, r, st, q => by
    obtain ⟨⟨d, S1⟩, e1, e⟩ := Bg e
    obtain ⟨⟨es, S2⟩, e2, e⟩ := Mc e
    cases e
    refine ⟨M, E, S, d, S1, e1, r, st, fun v H1 M1 g1 st1 d1 => ?_⟩
    exact Il e2 (r.step g1.st) st1 fun vs H2 M2 g2 st2 d2 => q _ _ M2 (g1.trans g2) st2 (.cons (d1.step g2.st) d2)
theorem P7 : ∀ {fs : List Ev} {S : Sto} {ds : List D} {S' : Sto}, evs fs E S = some (ds, S') -> ds.length = fs.length
  | [], _, _, _, e => by cases e; rfl
  | f :: fs, S, ds, S', e => by
    obtain ⟨⟨d, S1⟩, e1, e⟩ := Bg e
    obtain ⟨⟨es, S2⟩, e2, e⟩ := Mc e
    cases e
    simp [P7 e2]
def Sh (K : PySem.W.Frag) (M : Ms) (H : Hp) (v : V) : Wv -> Prop
 | .val d => EM K M H v d
 | .own ds => ∃ a xs, v = .ref a /\ H a = some (.lst xs) /\ Ax K M H xs ds
inductive Shs (K : PySem.W.Frag) (M : Ms) (H : Hp) : List V -> List Wv -> Prop
 | nil : Shs K M H [] []
 | cons {v : V} {w : Wv} {vs : List V} {ws : List Wv} (h : Sh K M H v w) (t : Shs K M H vs ws) : Shs K M H (v :: vs) (w :: ws)
def dr (S : Sto) : D -> Wv
  | .ref n => match S[n]? with
    | some (.lst ds) => .own ds
    | _ => .val (.ref n)
  | d => .val d
theorem Yd (st : StR K M S H) {v : V} {d : D} (h : EM K M H v d) : Sh K M H v (dr S d) := by
  cases h with
  | ref h =>
    rename_i a n
    show Sh K M H (.ref a) (match S[n]? with | some (.lst ds) => .own ds | _ => .val (.ref n))
    split
    · rename_i ds e
      obtain ⟨xs, h1, h2⟩ := st.cell n a _ h e
      exact ⟨a, xs, rfl, h1, h2⟩
    · exact .ref h
  | non => exact .non
  | bl b => exact .bl b
  | int b => exact .int b
  | str b => exact .str b
  | ty b => exact .ty b
  | tup h r => exact .tup h r
  | lst h n r => exact .lst h n r
  | scr h => exact .scr h
  | dct h n r => exact .dct h n r
theorem XG (st : StR K M S H) : ∀ {vs : List V} {ds : List D}, Ax K M H vs ds -> Shs K M H vs (ds.map (dr S))
 | _, _, .nil => .nil
 | _, _, .cons h t => .cons (Yd st h) (XG st t)
def NwR (K : PySem.W.Frag) (M : Ms) (H H' : Hp) (v : V) : Wv -> Prop
 | .val d => EM K M H' v d
 | .own ds => ∃ a xs, v = .ref a /\ H a = none /\ H' a = some (.lst xs) /\ Ax K M H xs ds
structure Nw (K : PySem.W.Frag) (M : Ms) (H H' : Hp) (v : V) (w : Wv) : Prop where
 grow : ∀ a o, H a = some o -> H' a = some o
 rel : NwR K M H H' v w
theorem Nw.same {v : V} {d : D} (mo : MOk M H) (h : EM K M H v d) : Nw K M H H v (.val d) := ⟨fun _ _ e => e, h⟩
theorem IQ {a : Addr} {o : HO} (e : H a = none) : ∀ b u, H b = some u -> upd H a o b = some u := fun b u eb => by rw [BF (fun z => by subst z; rw [e] at eb; cases eb)]; exact eb
theorem Nw.lst {a : Addr} {xs : List V} {ds : List D} (mo : MOk M H) (e : H a = none) (h : Ax K M H xs ds) : Nw K M H (upd H a (.lst xs)) (.ref a) (.own ds) := ⟨IQ e, a, xs, rfl, e, CQ, h⟩
theorem Nw.tup {a : Addr} {xs : List V} {ds : List D} (mo : MOk M H) (e : H a = none) (h : Ax K M H xs ds) : Nw K M H (upd H a (.tup xs)) (.ref a) (.val (.tup ds)) := ⟨IQ e, .tup (.of CQ) (h.step (Gr.grow mo (IQ e)).st)⟩
def fin : Bool -> Wv -> Sto -> Option (D × Sto)
 | _, .val d, S => some (d, S)
 | false, .own ds, S => some (.lst ds, S)
 | true, .own ds, S => some (.ref S.length, S ++ [.lst ds])
theorem Nw.fin {c : Bool} {v : V} {w : Wv} {d : D} {S' : Sto} (n : Nw K M H H' v w) (st : StR K M S H) (e : fin c w S = some (d, S')) : ∃ M', Gr M H M' H' /\ StR K M' S' H' /\ EM K M' H' v d := by
  cases w with
  | val d' =>
    cases e
    exact ⟨M, .grow st.mo n.grow, st.grow n.grow, n.rel⟩
  | own ds =>
    obtain ⟨a, xs, rfl, h1, h2, h3⟩ := n.rel
    cases c with
    | false =>
      cases e
      exact ⟨M, .grow st.mo n.grow, st.grow n.grow, .lst h2 (fun z => st.mo.some z h1) (h3.step (Gr.grow st.mo n.grow).st)⟩
    | true =>
      cases e
      obtain ⟨s1, g1⟩ := st.cel_new h1 n.grow h2 h3
      refine ⟨_, g1, s1, .ref ?_⟩
      rw [← st.len]
      exact List.getElem?_concat_length
abbrev Op1 := Wv -> Option Wv
abbrev Op2 := Wv -> Wv -> Option Wv
abbrev OpN := List Wv -> Option Wv
def rOp (K : PySem.W.Frag) (op : Op2) : R2 := fun x y H Q => ∃ M w1 w2 r, op w1 w2 = some r /\ MOk M H /\ Sh K M H x w1 /\ Sh K M H y w2 /\ ∀ v H', Nw K M H H' v r -> Q v H'
def rUn (K : PySem.W.Frag) (op : Op1) : V -> Hp -> VK -> Prop := fun x H Q => ∃ M w r, op w = some r /\ MOk M H /\ Sh K M H x w /\ ∀ v H', Nw K M H H' v r -> Q v H'
def rN (K : PySem.W.Frag) (op : OpN) : List V -> Hp -> VK -> Prop := fun xs H Q => ∃ M ws r, op ws = some r /\ MOk M H /\ Shs K M H xs ws /\ ∀ v H', Nw K M H H' v r -> Q v H'
def QQ (c : Bool) (op : OpN) (fs : List Ev) : Ev := fun E S => (evs fs E S).bind fun r => (op (r.1.map (dr r.2))).bind fun w => fin c w r.2
abbrev eOp := QQ false
abbrev ZK := QQ true
def o1 (op : Op1) : OpN | [a] => op a | _ => none
def o2 (op : Op2) : OpN | [a, b] => op a b | _ => none
theorem NX {c : Bool} {op : OpN} {fs : List Ev} {Q : VK} {d : D} {S' : Sto} (e : QQ c op fs E S = some (d, S')) (r : EnR K M E σ H) (st : StR K M S H) (h : ∀ v H' M', Gr M H M' H' -> StR K M' S' H' -> EM K M' H' v d -> Q v H') : tDs K fs σ H fun vs H1 => rN K op vs H1 Q := by
 obtain ⟨⟨ds, S1⟩, e1, e⟩ := Bg e
 obtain ⟨w, e2, e⟩ := Bg e
 refine Il e1 r st fun vs H1 M1 g1 st1 d1 => ⟨M1, _, w, e2, st1.mo, XG st1 d1, fun v H2 n => ?_⟩
 obtain ⟨M2, g2, st2, d2⟩ := n.fin st1 e
 exact h v H2 M2 (g1.trans g2) st2 d2
end
theorem Z6 {K : PySem.W.Frag} {f : Op2} {x y : V} {H : Hp} {Q : VK} (h : rN K (o2 f) [x, y] H Q) : rOp K f x y H Q := by
  obtain ⟨M, ws, r, e, mo, s, q⟩ := h
  cases s with
  | cons h1 s =>
    cases s with
    | cons h2 s =>
      cases s
      exact ⟨M, _, _, r, e, mo, h1, h2, q⟩
theorem aT {K : PySem.W.Frag} {f : Op1} {x : V} {H : Hp} {Q : VK} (h : rN K (o1 f) [x] H Q) : rUn K f x H Q := by
  obtain ⟨M, ws, r, e, mo, s, q⟩ := h
  cases s with
  | cons h1 s =>
    cases s
    exact ⟨M, _, r, e, mo, h1, q⟩
theorem Qr {K : PySem.W.Frag} {c : Bool} {f : Op2} {fa fb : Ev} {σ : Sg} {H : Hp} {Q : VK} (h : tD K (QQ c (o2 f) [fa, fb]) σ H Q) : tOp (rOp K f) (tD K fa) (tD K fb) σ H Q := by
 obtain ⟨M, E, S, d, S', e, r, st, q⟩ := h
 have z : tD K fa σ H fun x H1 => tD K fb σ H1 fun y H2 => rN K (o2 f) [x, y] H2 Q := NX (Q := Q) e r st q
 exact Ir z fun x H1 z1 => Ir z1 fun y H2 z2 => Z6 z2
theorem az {K : PySem.W.Frag} {c : Bool} {f : Op1} {fa : Ev} {σ : Sg} {H : Hp} {Q : VK} (h : tD K (QQ c (o1 f) [fa]) σ H Q) : tUn (rUn K f) (tD K fa) σ H Q := by
 obtain ⟨M, E, S, d, S', e, r, st, q⟩ := h
 have z : tD K fa σ H fun x H1 => rN K (o1 f) [x] H1 Q := NX (Q := Q) e r st q
 exact Ir z fun x H1 z1 => aT z1
section
variable {X : Cx} {a b e : Expr} {es : List Expr} {fa fb : Ev} {fs : List Ev} {pos p : Pos} {c : Bool}
theorem Ah {op : Operator} {f : Op2} (ho : OpR X (binaryOp op) (rOp X.K f)) (ha : DE X a fa) (hb : DE X b fb) : DE X (.BinOp a op b pos) (QQ c (o2 f) [fa, fb]) := ⟨CN (dJ ho ha.pe hb.pe) fun _ _ _ h => Qr h⟩
theorem Hf {op : CmpOp} {f : Op2} (ho : OpR X (compareOp op) (rOp X.K f)) (ha : DE X a fa) (hb : DE X b fb) (hm : behindInMarks op b = false := by rfl) : DE X (.Compare a [op] [b] pos) (QQ c (o2 f) [fa, fb]) := ⟨CN (Yt ho ha.pe hb.pe hm) fun _ _ _ h => Qr h⟩
theorem Tt {op : UnaryOp} {f : Op1} (ho : UnR X (unaryOp op) (rUn X.K f)) (ha : DE X a fa) : DE X (.UnaryOp op a pos) (QQ c (o1 f) [fa]) := ⟨CN (dP ho ha.pe) fun _ _ _ h => az h⟩
theorem AL {f : Op2} (hr : IxR X (rOp X.K f)) (ha : DE X a fa) (hb : DE X b fb) (hs : Sy b := by exact fun _ _ => rfl) : DE X (.Subscript a b pos) (QQ c (o2 f) [fa, fb]) := ⟨CN (eZ hr ha.pe hb.pe hs) fun _ _ _ h => Qr h⟩
theorem A7 {id : String} {x : Str} {f : OpN} (hc : FH X (.builtin id) (rN X.K f)) (hg : Gl X x) (hm : X.mg x = none) (hv : bootBuiltins x = some (.builtin id)) (ha : DEs X (e :: es) fs) (hn : x ≠ "__name__" := by decide) (hdb : (x == ("__debug__" : Str)) = false := by decide)
  (he : starEach (e :: es) X.env = (false, eval e X.env) :: starEach es X.env := by rfl) (hpl : (backTo pos (starEach es X.env)).any (·.1) = false := by rfl) : DE X (.Call (.Name x p) (e :: es) [] pos) (QQ c f fs) := ⟨
 CN (Wd hc hg hm hv ha.pe hn hdb he hpl) fun _ _ _ h => by
  obtain ⟨M, E, S, d, S', e, r, st, q⟩ := h
  exact NX e r st q⟩
theorem BE {T : String} {x : Str} {f : OpN} (hc : FH X (.type T) (rN X.K f)) (hg : Gl X x) (hm : X.mg x = none) (hv : bootBuiltins x = some (.type T)) (ha : DEs X (e :: es) fs) (hn : x ≠ "__name__" := by decide) (hdb : (x == ("__debug__" : Str)) = false := by decide)
  (he : starEach (e :: es) X.env = (false, eval e X.env) :: starEach es X.env := by rfl) (hpl : (backTo pos (starEach es X.env)).any (·.1) = false := by rfl) : DE X (.Call (.Name x p) (e :: es) [] pos) (QQ c f fs) := ⟨
 CN (Uc hc hg hm hv ha.pe hn hdb he hpl) fun _ _ _ h => by
  obtain ⟨M, E, S, d, S', e, r, st, q⟩ := h
  exact NX e r st q⟩
def eC (d : D) : Ev := fun _ S => some (d, S)
theorem Pk {v : V} {d : D} (h : PE X e (tC v)) (r : ∀ K M H, EM K M H v d) : DE X e (eC d) := ⟨CN h fun σ H Q z => by
 obtain ⟨M, E, S, w, S', e, rr, st, q⟩ := z
 cases e
 exact q _ _ M (.refl st.mo) st (r _ _ _)⟩
theorem AF {i : Int} {j : Nat} : DE X (.Constant (.int i) j pos) (eC (.int i)) := Pk aB fun _ _ _ => .int _
theorem QO {i : Bool} {j : Nat} : DE X (.Constant (.bool i) j pos) (eC (.bl i)) := Pk fQ fun _ _ _ => .bl _
theorem BL {i : Str} {j : Nat} : DE X (.Constant (.str i) j pos) (eC (.str i)) := Pk bF fun _ _ _ => .str _
theorem XD {j : Nat} : DE X (.Constant .none j pos) (eC .non) := Pk ZO fun _ _ _ => .non
def eV (i : Nat) : Ev := fun E S => (at? E i).map fun d => (d, S)
theorem AB (i : Nat) {x : Str} (hN : X.N[i]? = some x := by rfl) (hv : Vis X.env.scope x := by first | exact Or.inl rfl | exact Or.inr (Or.inl rfl) | exact Or.inr (Or.inr rfl)) (hd : (x == ("__debug__" : Str)) = false := by decide)
  (hcd : (x == ("__classdict__" : Str)) = false := by decide) : DE X (.Name x pos) (eV i) := ⟨CN (aS hN hv hd hcd) fun σ H Q z => by
 obtain ⟨M, E, S, d, S', e, r, st, q⟩ := z
 obtain ⟨d', e1, e⟩ := Mc e
 cases e
 obtain ⟨v, hv, rd⟩ := r.val i d (at?_some e1)
 exact ⟨v, hv, q v H M (.refl st.mo) st rd⟩⟩
end
theorem G9 : fillsNumberSlot (.type "tuple") "mul" = pure false :=
 fillsNumberSlot_seq (id := "tuple.__mul__") (r := some (.builtin "tuple.__rmul__")) F.slot_tuple_mul.lookup (by decide +kernel) F.slot_tuple_rmul.lookup (by decide +kernel)
theorem Kb : seqRepeat? (.type "tuple") = pure (some (.builtin "tuple.__mul__")) := by
 unfold seqRepeat?
 rw [seqSlot_of (T := "tuple") (name := "__mul__") (id := "tuple.__mul__") F.slot_tuple_mul.lookup (by decide +kernel), seqSlot_of (T := "tuple") (name := "__rmul__") (id := "tuple.__rmul__") F.slot_tuple_rmul.lookup (by decide +kernel)]
 rfl
theorem Ik (a : Int) (t : Tok) (l : Addr) (items : Array Value) (n : Nat) (dd : Option Addr) (sl : Array (Option Value)) :
  Meets (Builtin.«int.__rmul__» ⟨[.int a t, .ref l], []⟩) (fun _ R s => s.heap.get? l = some { cls := .type "tuple", dict := dd, data := .seq items n, slots := sl } /\ R (.ok (.ret Value.notImplemented)) s) :=
 .of_wp fun prog w A R s h => by obtain ⟨hp, g, d, tk, os⟩ := s; obtain ⟨hl, h⟩ := h; wp_walk; exact ⟨_, rfl, h⟩
theorem PB (its : List Value) (m : Nat) : List.foldl (fun x1 x2 => x1 ++ x2) #[] (List.replicate m its.toArray) = (List.replicate m its).flatten.toArray := by
 have := foldl_rep its m []
 rw [List.nil_append] at this
 exact this
theorem X5 {X : Cx} : OpR X (binaryOp .Mult) (fun x y H Q => ∃ a xs k, x = .ref a /\ y = .int k /\ SqT X.K H a xs /\ xs ≠ [] /\ 1 ≤ k /\ xs.length * k.toNat ≤ sizeLine /\ (k = 1 -> Q (.ref a) H) /\ (k ≠ 1 -> ∀ p, H p = none -> Q (.ref p) (upd H p (.tup (List.replicate k.toNat xs).flatten)))) := by
  intro pins s σ H x y v u Q I rx ry h
  obtain ⟨a, xs, k, rfl, rfl, hx, hne, hk, hz, q1, q2⟩ := h
  cases rx
  obtain ⟨t, rfl⟩ := ry
  obtain ⟨its, r, ⟨⟨c, dd, data, sl⟩, ho, hc, n, hd⟩, hzz⟩ := I.tuple hx
  simp only at hc hd
  subst hc hd
  have hl := r.length
  have hsz : its.toArray.size = xs.length := by rw [List.size_toArray]; exact hl.symm
  have hpos : 0 < xs.length := List.length_pos_iff.mpr hne
  have hkl : k.toNat ≤ sizeLine := Nat.le_trans (Nat.le_mul_of_pos_left _ hpos) hz
  have hk63 : k < 2 ^ 63 := by
    have : (sizeLine : Nat) < 2 ^ 63 := by decide
    omega
  refine wpAny_binaryOp_repeat_ref (T := "tuple") (U := "int") (by decide) ⟨_, ho, rfl⟩ (fun s' => typeIs_int s' k t) G9 F.fills_int_mul F.slot_int_rmul Kb F.slot_int_index.lookup
    (call_meets F.slot_int_rmul (typeIs_int s k t) F.entry_int_rmul (F.args_int_rmul_2 _ _) (Ik k t a its.toArray n dd sl) ⟨ho, rfl, ⟨_, ho, rfl⟩, ?_⟩)
  refine wpAny_call_entry F.slot_tuple_mul ⟨_, ho, rfl⟩ F.entry_tuple_mul ?_ (F.args_tuple_mul_2 _ _)
  unfold Builtin.«tuple.__mul__»
  wp_walk using AutoSeq1.wpAny_loadPart' ho
  rw [if_neg (show ¬ (decide (k < -2 ^ 63) || decide (k ≥ 2 ^ 63)) = true by
    rw [Bool.or_eq_true]
    rintro (z | z)
    · have := of_decide_eq_true z; omega
    · have := of_decide_eq_true z; omega)]
  wp_walk using AutoSeq1.wpAny_loadPart' ho
  by_cases h1 : k = 1
  · subst h1
    rw [if_pos (show (its.toArray.isEmpty || (1 : Int) == 1) = true by simp)]
    wp_walk using AutoSeq1.wpAny_loadPart' ho
    exact ⟨_, rfl, .ref a, H, I, rfl, q1 rfl⟩
  · have hemp : its.toArray.isEmpty = false := by
      cases its with
      | nil => rw [List.length_nil] at hl; omega
      | cons b bs => rfl
    rw [if_neg (show ¬ (its.toArray.isEmpty || k == 1) = true by rw [hemp]; simpa using h1)]
    wp_walk using AutoSeq1.wpAny_loadPart' ho
    have hmul : ((its.toArray.size : Int) * k) = ((xs.length * k.toNat : Nat) : Int) := by
      rw [hsz, Int.natCast_mul]
      congr 1
      omega
    rw [if_neg (show ¬ (decide (k ≤ 0) || its.toArray.isEmpty) = true by
      rw [hemp, Bool.or_false]
      intro z
      have := of_decide_eq_true z
      omega)]
    wp_walk
    rw [if_neg (show ¬ ((its.toArray.size : Int) * k > (2 ^ 63 - 1) / 8) by
      rw [hmul]
      have : (sizeLine : Nat) ≤ (2 ^ 63 - 1) / 8 := by decide
      omega)]
    wp_walk
    rw [if_neg (show ¬ Builtin.Tuple.tupleTooMany ((its.toArray.size : Int) * k) = true by
      unfold Builtin.Tuple.tupleTooMany
      rw [hmul]
      intro z
      have := of_decide_eq_true z
      omega)]
    rw [PB]
    wp_walk
    have hlen : (List.replicate k.toNat its).flatten.length ≤ sizeLine := by rw [len_rep, Nat.mul_comm, ← hl]; exact hz
    rw [if_neg (show ¬ ((List.replicate k.toNat its).flatten.toArray.size > sizeLine) by rw [List.size_toArray]; omega)]
    wp_walk
    refine ⟨_, rfl, .ref _, _, I.laid (o := .tup (List.replicate k.toNat xs).flatten) (t' := s.toks) (fun b ob q => Heap.get?_push_of_some _ q) (Nat.le_refl _) ?_, rfl, q2 h1 _ (I.hok.fresh (Nat.le_refl _))⟩
    exact ⟨by rw [len_rep, Nat.mul_comm]; exact hz, _, r.rep k.toNat, PyProof.Rows.IsTup.new _ _⟩
mutual
def D.py : D -> PyData
 | .non => .none | .bl b => .bool b | .int i => .int i | .str x => .str x | .ty _ => .none
 | .tup ds => .tuple (D.pys ds) | .lst ds => .list (D.pys ds) | .dct _ => .none | .scr _ => .none | .ref _ => .none
def D.pys : List D -> List PyData
 | [] => []
 | d :: ds => D.py d :: D.pys ds
end
mutual
def D.lay : D -> Bool
 | .non => true | .bl _ => true | .int _ => true | .str x => PySem.PyData.strOk x | .ty _ => false | .dct _ => false | .scr _ => false | .ref _ => false
 | .tup ds => D.lays ds | .lst ds => D.lays ds
def D.lays : List D -> Bool
 | [] => true
 | d :: ds => D.lay d && D.lays ds
end
mutual
theorem KI : ∀ {d : D}, d.lay = true -> d.py.canLay0 = true
 | .non, _ => rfl
 | .bl _, _ => rfl
 | .int _, _ => rfl
 | .str x, h => h
 | .ty _, h => Bool.noConfusion h
 | .dct _, h => Bool.noConfusion h
 | .scr _, h => Bool.noConfusion h
 | .ref _, h => Bool.noConfusion h
 | .tup ds, h => by show PyData.canLayAll0 (D.pys ds) = true; exact Nm h
 | .lst ds, h => by show PyData.canLayAll0 (D.pys ds) = true; exact Nm h
theorem Nm : ∀ {ds : List D}, D.lays ds = true -> PyData.canLayAll0 (D.pys ds) = true
  | [], _ => rfl
  | d :: ds, h => by
    have h' : (D.lay d && D.lays ds) = true := h
    rw [Bool.and_eq_true] at h'
    show (PyData.canLay0 d.py && PyData.canLayAll0 (D.pys ds)) = true
    rw [KI h'.1, Nm h'.2]; rfl
end
section
variable {X : Cx} {pins : List (Addr × Obj)} {σ : Sg} {H : Hp} {s : Shared} {M : Ms}
theorem LV (I : Inv X pins σ H s) {a : Addr} {xs : List V} (h : Rd H a (.lst xs)) : ∃ its : List Value, Vals xs its /\ ∃ o n, s.heap.get? a = some o /\ o.cls = .type "list" /\ o.data = .seq its.toArray n := by
 obtain ⟨z, its, n, r, e⟩ := h.ok I.hok
 exact ⟨its, r, _, n, e, rfl, rfl⟩
mutual
theorem EM.reads (I : Inv X pins σ H s) : ∀ {v : V} {d : D} {u : Value}, EM X.K M H v d -> RelV v u -> d.lay = true -> ∃ as, Reads s.heap u d.py as
  | _, _, _, .non, r, _ => by cases r; exact ⟨_, .none⟩
  | _, _, _, .bl b, r, _ => by cases r; exact ⟨_, .bool b⟩
  | _, _, _, .int b, r, _ => by obtain ⟨t, rfl⟩ := r; exact ⟨_, .int b t⟩
  | _, _, _, .str b, r, _ => by obtain ⟨t, rfl⟩ := r; exact ⟨_, .str b t⟩
  | _, _, _, .ty _, _, h => Bool.noConfusion h
  | _, _, _, .dct _ _ _, _, h => Bool.noConfusion h
  | _, _, _, .ref _, _, h => Bool.noConfusion h
  | _, _, _, .scr _, _, h => Bool.noConfusion h
  | _, _, _, .tup h rs, r, hl => by
    cases r
    obtain ⟨its, rv, ⟨o, e, hc, n, hd⟩, _⟩ := I.tuple h
    obtain ⟨as, ra⟩ := Ax.reads I rs rv hl
    exact ⟨as, .tuple e hc hd ra⟩
  | _, _, _, .lst h _ rs, r, hl => by
    cases r
    obtain ⟨its, rv, o, n, e, hc, hd⟩ := LV I (.inl h)
    obtain ⟨as, ra⟩ := Ax.reads I rs rv hl
    exact ⟨_, .list e hc hd ra⟩
theorem Ax.reads (I : Inv X pins σ H s) : ∀ {vs : List V} {ds : List D} {us : List Value}, Ax X.K M H vs ds -> Vals vs us -> D.lays ds = true -> ∃ as, ReadsAll s.heap us (D.pys ds) as
  | _, _, _, .nil, r, _ => by cases r; exact ⟨_, .nil⟩
  | _, _, _, .cons (d := d) (ds := ds) h t, r, hl => by
    cases r with
    | cons r1 r2 =>
      have hl' : (D.lay d && D.lays ds) = true := hl
      rw [Bool.and_eq_true] at hl'
      obtain ⟨as, ra⟩ := EM.reads I h r1 hl'.1
      obtain ⟨bs, rb⟩ := Ax.reads I t r2 hl'.2
      exact ⟨_, .cons ra rb⟩
end
end
def deq (a b : D) : Bool := PyData.eqv a.py b.py
def Dd (a b : D) : Bool := a.lay && b.lay && decide (min a.py.depth b.py.depth ≤ 60)
def wEq : Op2 := fun a b => if Dd (fz a) (fz b) = true then some (.val (.bl (deq (fz a) (fz b)))) else none
def wNe : Op2 := fun a b => if Dd (fz a) (fz b) = true then some (.val (.bl (!deq (fz a) (fz b)))) else none
section
variable {X : Cx}
theorem Sh.reads {pins : List (Addr × Obj)} {σ : Sg} {H : Hp} {s : Shared} {M : Ms} {v : V} {u : Value} {w : Wv} (h : Sh X.K M H v w) (I : Inv X pins σ H s) (r : RelV v u) (hl : (fz w).lay = true) : ∃ as, Reads s.heap u (fz w).py as := by
  cases w with
  | val d => exact EM.reads I h r hl
  | own ds =>
    obtain ⟨a, xs, rfl, h1, h2⟩ := h
    cases r
    obtain ⟨its, rv, o, n, e, hc, hd⟩ := LV I (.inl h1)
    obtain ⟨as, ra⟩ := Ax.reads I h2 rv hl
    exact ⟨_, .list e hc hd ra⟩
theorem Bt (hu : X.A.units + 100 < cLine) : OpR X (compareOp .Eq) (rOp X.K wEq) := by
 intro pins s σ H x y v u Q I rx ry h
 obtain ⟨M, w1, w2, r, e, mo, s1, s2, q⟩ := h
 unfold wEq at e
 split at e
 ·rename_i hk
  unfold Dd at hk
  rw [Bool.and_eq_true, Bool.and_eq_true] at hk
  cases e
  obtain ⟨as, ra⟩ := s1.reads I rx hk.1.1
  obtain ⟨bs, rb⟩ := s2.reads I ry hk.1.2
  have hd := of_decide_eq_true hk.2
  exact SeqAt.compareEq_reads ra rb (KI hk.1.1) (KI hk.1.2) (by omega) ⟨.bl _, H, I, rfl, q _ _ (.same mo (.bl _))⟩
 ·cases e
theorem GY (hu : X.A.units + 100 < cLine) : OpR X (compareOp .NotEq) (rOp X.K wNe) := by
 intro pins s σ H x y v u Q I rx ry h
 obtain ⟨M, w1, w2, r, e, mo, s1, s2, q⟩ := h
 unfold wNe at e
 split at e
 ·rename_i hk
  unfold Dd at hk
  rw [Bool.and_eq_true, Bool.and_eq_true] at hk
  cases e
  obtain ⟨as, ra⟩ := s1.reads I rx hk.1.1
  obtain ⟨bs, rb⟩ := s2.reads I ry hk.1.2
  have hd := of_decide_eq_true hk.2
  exact SeqAt.compareNe_reads ra rb (KI hk.1.1) (KI hk.1.2) (by omega) ⟨.bl _, H, I, rfl, q _ _ (.same mo (.bl _))⟩
 ·cases e
def wI2 (f : Int -> Int -> Option D) : Op2
 | .val (.int i), .val (.int j) => (f i j).map .val
 | _, _ => none
theorem QW {g : Value -> Value -> Sem Value} {C : Int -> Int -> Prop} {h : Int -> Int -> V} {f : Int -> Int -> Option D} (o : OpR X g (rI C h)) (hf : ∀ i j d, f i j = some d -> C i j /\ ∀ K M H, EM K M H (h i j) d) : OpR X g (rOp X.K (wI2 f)) := by
  intro pins s σ H x y v u Q I rx ry hh
  obtain ⟨M, w1, w2, r, e, mo, s1, s2, q⟩ := hh
  unfold wI2 at e
  split at e
  · cases s1
    cases s2
    rename_i i j
    cases e1 : f i j with
    | none => rw [e1] at e; cases e
    | some d =>
      rw [e1] at e
      cases e
      obtain ⟨c, rd⟩ := hf i j d e1
      exact o pins s σ H _ _ v u Q I rx ry ⟨i, j, rfl, rfl, c, q _ _ (.same mo (rd _ _ _))⟩
  · cases e
theorem L0 {g : Value -> Value -> Sem Value} {h : Int -> Int -> V} {f : Int -> Int -> Option D} (o : OpR X g (rI0 h)) (hf : ∀ i j d, f i j = some d -> ∀ K M H, EM K M H (h i j) d) : OpR X g (rOp X.K (wI2 f)) := by
  intro pins s σ H x y v u Q I rx ry hh
  obtain ⟨M, w1, w2, r, e, mo, s1, s2, q⟩ := hh
  unfold wI2 at e
  split at e
  · cases s1
    cases s2
    rename_i i j
    cases e1 : f i j with
    | none => rw [e1] at e; cases e
    | some d =>
      rw [e1] at e
      cases e
      exact o pins s σ H _ _ v u Q I rx ry ⟨i, j, rfl, rfl, q _ _ (.same mo (hf i j d e1 _ _ _))⟩
  · cases e
def QI : Op2 := wI2 fun i j => some (.int (i - j))
def XR : Nat := 2 ^ 60000
def F6 : Nat := 2 ^ 8000
def Dp (i j : Int) : Bool := decide (i.natAbs < 2 ^ 64) || (decide (j.natAbs < 2 ^ 64) || (decide (i.natAbs < XR) && decide (j.natAbs < XR)))
theorem Yj : OpR X (binaryOp .Mult) (rI (fun i j => Dp i j = true) fun i j => .int (i * j)) := by
 intro pins s σ H x y v u Q I rx ry h
 obtain ⟨i, j, rfl, rfl, hk, q⟩ := h
 unfold Dp at hk
 rw [Bool.or_eq_true, Bool.or_eq_true, Bool.and_eq_true] at hk
 rcases hk with hk | hk | hk
 ·have := of_decide_eq_true hk
  exact W8 pins s σ H _ _ v u Q I rx ry ⟨i, j, rfl, rfl, .inl ⟨by omega, by omega⟩, q⟩
 ·have := of_decide_eq_true hk
  exact W8 pins s σ H _ _ v u Q I rx ry ⟨i, j, rfl, rfl, .inr ⟨by omega, by omega⟩, q⟩
 ·have h1 : i.natAbs < 2 ^ 60000 := of_decide_eq_true hk.1
  have h2 : j.natAbs < 2 ^ 60000 := of_decide_eq_true hk.2
  obtain ⟨t1, rfl⟩ := rx
  obtain ⟨t2, rfl⟩ := ry
  exact PyProof.Rows.mul_int ⟨.int _, H, I.tok _, ⟨_, rfl⟩, q⟩ (PyProof.Rows.mulOk_of_bits (m := 60000) (n := 60000) (PySem.intBits_le_iff.mpr h1) (PySem.intBits_le_iff.mpr h2) (by decide))
def Zh : Op2 := wI2 fun i j => if Dp i j = true then some (.int (i * j)) else none
def Nq : Op2 := wI2 fun i j => if (decide (0 < j) && decide (j.natAbs < F6)) = true then some (.int (i / j)) else none
def Pt : Op2 := wI2 fun i j => if 0 < j then some (.int (i % j)) else none
def cM : Op2 := wI2 fun i j => if (decide (0 ≤ j) && decide (j ≤ 1000) && decide (i.natAbs < 2 ^ 64)) = true then some (.int (i ^ j.toNat)) else none
def wLt : Op2 := wI2 fun i j => some (.bl (decide (i < j)))
def wLe : Op2 := wI2 fun i j => some (.bl (decide (i ≤ j)))
def wGt : Op2 := wI2 fun i j => some (.bl (decide (j < i)))
def wGe : Op2 := wI2 fun i j => some (.bl (decide (j ≤ i)))
theorem FV : OpR X (binaryOp .Sub) (rOp X.K QI) := L0 ae fun i j d e K M H => by cases e; exact .int _
theorem Y7 : OpR X (binaryOp .Mult) (rOp X.K Zh) := QW Yj fun i j d e => by
 split at e
 ·rename_i hk
  cases e
  exact ⟨hk, fun _ _ _ => .int _⟩
 ·cases e
theorem Gq : OpR X (binaryOp .FloorDiv) (rOp X.K Nq) := QW St.V2 fun i j d e => by
 split at e
 ·rename_i hk
  rw [Bool.and_eq_true] at hk
  cases e
  exact ⟨⟨of_decide_eq_true hk.1, of_decide_eq_true hk.2⟩, fun _ _ _ => .int _⟩
 ·cases e
theorem GG : OpR X (binaryOp .Mod) (rOp X.K Pt) := QW Za fun i j d e => by
 split at e
 ·rename_i hk
  cases e
  exact ⟨hk, fun _ _ _ => .int _⟩
 ·cases e
theorem Ua : OpR X (binaryOp .Pow) (rOp X.K cM) := QW Z5 fun i j d e => by
 split at e
 ·rename_i hk
  rw [Bool.and_eq_true, Bool.and_eq_true] at hk
  cases e
  have := of_decide_eq_true hk.1.2
  exact ⟨⟨of_decide_eq_true hk.1.1, by omega, of_decide_eq_true hk.2⟩, fun _ _ _ => .int _⟩
 ·cases e
theorem NH : OpR X (compareOp .Lt) (rOp X.K wLt) := L0 eH fun i j d e K M H => by cases e; exact .bl _
theorem aA : OpR X (compareOp .LtE) (rOp X.K wLe) := L0 eU fun i j d e K M H => by cases e; exact .bl _
theorem PZ : OpR X (compareOp .Gt) (rOp X.K wGt) := L0 dj fun i j d e K M H => by cases e; exact .bl _
theorem UH : OpR X (compareOp .GtE) (rOp X.K wGe) := L0 fJ fun i j d e K M H => by cases e; exact .bl _
def asL : Wv -> Option (List D)
 | .own ds => some ds
 | .val (.lst ds) => some ds
 | _ => none
def asT : Wv -> Option (List D)
 | .val (.tup ds) => some ds
 | _ => none
def asC : Wv -> Option (List D)
 | .val (.scr ns) => some (ns.map .int)
 | _ => none
def asS (w : Wv) : Option (List D) := (asL w).or ((asT w).or (asC w))
section
variable {K : PySem.W.Frag} {M : Ms} {H : Hp} {v : V} {w : Wv} {ds : List D}
theorem Sh.l (h : Sh K M H v w) (e : asL w = some ds) : ∃ a xs, v = .ref a /\ H a = some (.lst xs) /\ Ax K M H xs ds := by
  cases w with
  | own es => cases e; obtain ⟨a, xs, rfl, h1, h2⟩ := h; exact ⟨a, xs, rfl, h1, h2⟩
  | val d =>
    cases d <;> first | (cases e; done) | skip
    cases e
    cases h with
    | lst h n r => exact ⟨_, _, rfl, h, r⟩
theorem Sh.t (h : Sh K M H v w) (e : asT w = some ds) : ∃ a xs, v = .ref a /\ SqT K H a xs /\ Ax K M H xs ds := by
  cases w with
  | own es => cases e
  | val d =>
    cases d <;> first | (cases e; done) | skip
    cases e
    cases h with
    | tup h r => exact ⟨_, _, rfl, h, r⟩
theorem K8 : ∀ {ns : List Int}, Ax K M H (ns.map V.int) (ns.map D.int)
 | [] => .nil
 | n :: ns => .cons (.int n) K8
theorem Sh.c (h : Sh K M H v w) (e : asC w = some ds) : ∃ a xs, v = .ref a /\ SqL K H a xs /\ Ax K M H xs ds := by
  cases w with
  | own es => cases e
  | val d =>
    cases d <;> first | (cases e; done) | skip
    cases e
    cases h with
    | scr h =>
      refine ⟨_, _, rfl, ?_, K8⟩
      rcases h with h | h
      · exact .inl h.1
      · exact .inr h
theorem Sh.s (h : Sh K M H v w) (e : asS w = some ds) : ∃ a xs, v = .ref a /\ (SqL K H a xs ∨ SqT K H a xs) /\ Ax K M H xs ds := by
  unfold asS at e
  cases e1 : asL w with
  | some es =>
    rw [e1] at e
    cases e
    obtain ⟨a, xs, h1, h2, h3⟩ := h.l e1
    exact ⟨a, xs, h1, .inl (.of h2), h3⟩
  | none =>
    rw [e1] at e
    cases e2 : asT w with
    | some es =>
      rw [e2] at e
      cases e
      obtain ⟨a, xs, h1, h2, h3⟩ := h.t e2
      exact ⟨a, xs, h1, .inr h2, h3⟩
    | none =>
      rw [e2] at e
      obtain ⟨a, xs, h1, h2, h3⟩ := h.c e
      exact ⟨a, xs, h1, .inl h2, h3⟩
end
def Jm : Op1 := fun w => match w with
 | .val (.str z) => if z.length ≤ sizeLine then some (.val (.int z.length)) else none
 | _ => (asS w).map fun ds => .val (.int ds.length)
theorem CM : FH X (.builtin "len") (rN X.K (o1 Jm)) := by
  intro pins s σ H xs us Q I r h
  obtain ⟨M, ws, w, e, mo, sh, q⟩ := h
  cases sh with
  | nil => cases e
  | cons h1 t =>
    cases t with
    | cons h2 t => cases e
    | nil =>
      rename_i v w1
      have e' : Jm w1 = some w := e
      unfold Jm at e'
      split at e'
      · split at e'
        · rename_i z hz
          cases e'
          cases h1
          exact Ol pins s σ H _ us Q I r ⟨z, rfl, hz, q _ _ (.same mo (.int _))⟩
        · cases e'
      · cases e1 : asS w1 with
        | none => rw [e1] at e'; cases e'
        | some ds =>
          rw [e1] at e'
          cases e'
          obtain ⟨a, ys, rfl, h3, h4⟩ := h1.s e1
          refine PR pins s σ H _ us Q I r ⟨a, ys, rfl, h3, q _ _ ?_⟩
          rw [h4.length]
          exact .same mo (.int _)
def wIx : Op2 := fun a b => match a, b with
 | a, .val (.int i) => (asS a).bind fun ds => (atI ds i).map .val
 | _, _ => none
theorem Yy {K : PySem.W.Frag} {M : Ms} {H : Hp} {xs : List V} {ds : List D} {i : Int} {d : D} (h : Ax K M H xs ds) (e : atI ds i = some d) : ∃ x, atI xs i = some x /\ EM K M H x d := by
  unfold atI at e ⊢
  rw [h.length]
  cases e1 : ixN ds.length i with
  | none => rw [e1] at e; cases e
  | some j =>
    rw [e1] at e
    exact h.get e
theorem AZ : IxR X (rOp X.K wIx) := by
  intro value slice pins s σ H x y v u Q I rx ry h hs
  obtain ⟨M, w1, w2, r, e, mo, s1, s2, q⟩ := h
  unfold wIx at e
  split at e
  · rename_i i
    cases e1 : asS w1 with
    | none => rw [e1] at e; cases e
    | some ds =>
      rw [e1] at e
      simp only [Option.bind_some] at e
      cases e2 : atI ds i with
      | none => rw [e2] at e; cases e
      | some d =>
        rw [e2] at e
        cases e
        cases s2
        obtain ⟨a, ys, rfl, h3, h4⟩ := s1.s e1
        obtain ⟨z, h5, h6⟩ := Yy h4 e2
        rcases h3 with h3 | h3
        · exact X6 value slice pins s σ H _ _ v u Q I rx ry ⟨a, ys, i, z, rfl, rfl, h3, h5, q _ _ (.same mo h6)⟩ hs
        · exact Ze value slice pins s σ H _ _ v u Q I rx ry ⟨a, ys, i, z, rfl, rfl, h3, h5, q _ _ (.same mo h6)⟩ hs
  · cases e
end
section
variable {X : Cx}
def Dq : Op2 := fun a b => match a, b with
 | .val (.int i), .val (.int j) => some (.val (.int (i + j)))
 | .val (.str x), .val (.str y) => if x.length + y.length ≤ sizeLine then some (.val (.str (x ++ y))) else none
 | .val (.tup xs), .val (.tup ys) => if xs.length + ys.length ≤ sizeLine then some (.val (.tup (xs ++ ys))) else none
 | a, b => (asL a).bind fun xs => (asL b).bind fun ys => if xs.length + ys.length ≤ sizeLine then some (.own (xs ++ ys)) else none
theorem As : OpR X (binaryOp .Add) (rOp X.K Dq) := by
  intro pins s σ H x y v u Q I rx ry h
  obtain ⟨M, w1, w2, r, e, mo, s1, s2, q⟩ := h
  unfold Dq at e
  split at e
  · cases e
    cases s1; cases s2
    exact aF pins s σ H _ _ v u Q I rx ry ⟨_, _, rfl, rfl, q _ _ (.same mo (.int _))⟩
  · split at e
    · cases e
      cases s1; cases s2
      exact RV pins s σ H _ _ v u Q I rx ry ⟨_, _, rfl, rfl, by assumption, q _ _ (.same mo (.str _))⟩
    · cases e
  · split at e
    · rename_i xs ys hz
      cases e
      cases s1 with
      | tup h1 r1 =>
        cases s2 with
        | tup h2 r2 =>
          rename_i a xs' b ys'
          have l1 := r1.length
          have l2 := r2.length
          by_cases hx : xs' = []
          · subst hx
            cases r1
            refine St.Yb pins s σ H _ _ v u Q I rx ry ⟨_, _, _, rfl, rfl, h1, h2, q _ _ (.same mo ?_)⟩
            exact .tup h2 r2
          · refine YG pins s σ H _ _ v u Q I rx ry ⟨_, _, _, _, rfl, rfl, h1, h2, hx, by omega, fun z => ?_, fun _ p hp => q _ _ (.tup mo hp (r1.append r2))⟩
            subst z
            cases r2
            rw [List.append_nil] at q
            exact q _ _ (.same mo (.tup h1 r1))
    · cases e
  · cases e1 : asL w1 with
    | none => rw [e1] at e; cases e
    | some xs =>
      rw [e1] at e
      cases e2 : asL w2 with
      | none => rw [e2] at e; cases e
      | some ys =>
        rw [e2] at e
        simp only [Option.bind_some] at e
        split at e
        · rename_i hz
          cases e
          obtain ⟨a, xs', rfl, h1, r1⟩ := s1.l e1
          obtain ⟨b, ys', rfl, h2, r2⟩ := s2.l e2
          have l1 := r1.length
          have l2 := r2.length
          exact aR pins s σ H _ _ v u Q I rx ry ⟨a, b, xs', ys', rfl, rfl, h1, h2, by omega, fun p hp => q _ _ (.lst mo hp (r1.append r2))⟩
        · cases e
def cE : Op2 := fun a b => match a, b with
 | .val (.int i), .val (.int j) => if Dp i j = true then some (.val (.int (i * j))) else none
 | .val (.tup xs), .val (.int k) => if (!xs.isEmpty && decide (1 ≤ k) && decide (xs.length * k.toNat ≤ sizeLine)) = true then some (.val (.tup (List.replicate k.toNat xs).flatten)) else none
 | a, .val (.int k) => (asL a).bind fun xs => if (decide (k < 2 ^ 63) && decide (-(2 ^ 63) ≤ k) && decide (xs.length * k.toNat ≤ sizeLine)) = true then some (.own (List.replicate k.toNat xs).flatten) else none
 | _, _ => none
theorem Ax.rep {K : PySem.W.Frag} {M : Ms} {H : Hp} {xs : List V} {ds : List D} (h : Ax K M H xs ds) : ∀ n : Nat, Ax K M H (List.replicate n xs).flatten (List.replicate n ds).flatten
  | 0 => .nil
  | n + 1 => by
    rw [List.replicate_succ, List.replicate_succ, List.flatten_cons, List.flatten_cons]
    exact h.append (Ax.rep h n)
theorem UC : OpR X (binaryOp .Mult) (rOp X.K cE) := by
  intro pins s σ H x y v u Q I rx ry h
  obtain ⟨M, w1, w2, r, e, mo, s1, s2, q⟩ := h
  unfold cE at e
  split at e
  · rename_i i j
    refine Y7 pins s σ H x y v u Q I rx ry ⟨M, _, _, r, ?_, mo, s1, s2, q⟩
    unfold Zh wI2
    show Option.map Wv.val (if Dp i j = true then some (D.int (i * j)) else none) = some r
    split at e
    · rename_i hk
      rw [if_pos hk]
      exact e
    · cases e
  · rename_i xs k
    split at e
    · rename_i hk
      rw [Bool.and_eq_true, Bool.and_eq_true] at hk
      cases e
      cases s2
      cases s1 with
      | @tup a ys _ h1 r1 =>
        have l1 := r1.length
        have z := of_decide_eq_true hk.2
        have hk1 := of_decide_eq_true hk.1.2
        have hne : ys ≠ [] := fun zz => by
          subst zz
          cases r1
          exact absurd hk.1.1 (by decide)
        refine X5 pins s σ H _ _ v u Q I rx ry ⟨a, ys, k, rfl, rfl, h1, hne, hk1, by rw [l1]; exact z, fun e1 => ?_, fun _ p hp => q _ _ (.tup mo hp (r1.rep _))⟩
        subst e1
        have : (List.replicate (1 : Int).toNat xs).flatten = xs := by simp
        rw [this] at q
        exact q _ _ (.same mo (.tup h1 r1))
    · cases e
  · rename_i k hn hn2
    cases e1 : asL w1 with
    | none => rw [e1] at e; cases e
    | some xs =>
      rw [e1] at e
      simp only [Option.bind_some] at e
      split at e
      · rename_i hk
        rw [Bool.and_eq_true, Bool.and_eq_true] at hk
        cases e
        cases s2
        obtain ⟨a, xs', rfl, h1, r1⟩ := s1.l e1
        have l1 := r1.length
        have z := of_decide_eq_true hk.2
        exact aa pins s σ H _ _ v u Q I rx ry ⟨a, k, xs', rfl, rfl, h1, of_decide_eq_true hk.1.2, of_decide_eq_true hk.1.1, by rw [l1]; exact z, fun p hp => q _ _ (.lst mo hp (r1.rep _))⟩
      · cases e
  · cases e
def Xu : Op1
 | .val (.int i) => some (.val (.int (-i)))
 | _ => none
theorem Ls : UnR X (unaryOp .USub) (rUn X.K Xu) := by
 intro pins s σ H x v Q I rx h
 obtain ⟨M, w, r, e, mo, s1, q⟩ := h
 unfold Xu at e
 split at e
 ·cases e
  cases s1
  exact Zv pins s σ H _ v Q I rx ⟨_, rfl, q _ _ (.same mo (.int _))⟩
 ·cases e
def Io : D -> Bool
 | .non => true | .bl _ => true | .int _ => true | .str _ => true
 | _ => false
theorem Sh.flat {K : PySem.W.Frag} {M : Ms} {H : Hp} {v : V} {w : Wv} (h : Sh K M H v w) (f : Io (fz w) = true) : EM K M H v (fz w) := by
 cases w with
 | val d => exact h
 | own ds => cases f
def inD (x : D) (xs : List D) : Bool := xs.any fun y => deq y x
theorem Qf {K : PySem.W.Frag} {M : Ms} {H : Hp} {v : V} {d : D} (h : EM K M H v d) (f : Io d = true) : Mq v = true := by
 cases h <;> first | rfl | cases f
theorem Ym {K : PySem.W.Frag} {M : Ms} {H : Hp} {v u : V} {d e : D} (h : EM K M H v d) (g : EM K M H u e) (f : Io d = true) (f' : Io e = true) : eqV v u = deq d e := by
 cases h <;> first | (cases f; done) | skip
 all_goals (cases g <;> first | (cases f'; done) | rfl)
theorem Od {K : PySem.W.Frag} {M : Ms} {H : Hp} : ∀ {vs : List V} {ds : List D}, Ax K M H vs ds -> ds.all Io = true -> vs.all Mq = true
  | _, _, .nil, _ => rfl
  | _, _, .cons h t, f => by
    rw [List.all_cons, Bool.and_eq_true] at f ⊢
    exact ⟨Qf h f.1, Od t f.2⟩
theorem SN {K : PySem.W.Frag} {M : Ms} {H : Hp} {u : V} {e : D} (g : EM K M H u e) (f' : Io e = true) : ∀ {vs : List V} {ds : List D}, Ax K M H vs ds -> ds.all Io = true -> inV u vs = inD e ds
  | _, _, .nil, _ => rfl
  | _, _, .cons h t, f => by
    rw [List.all_cons, Bool.and_eq_true] at f
    have ih := SN g f' t f.2
    unfold inV inD at ih ⊢
    rw [List.any_cons, List.any_cons, ih, Ym h g f.1 f']
def wIn (neg : Bool) : Op2 := fun a b => (asS b).bind fun ds => if (Io (fz a) && ds.all Io) = true then some (.val (.bl (if neg then !inD (fz a) ds else inD (fz a) ds))) else none
theorem Xd {M : Ms} {H : Hp} {x y : V} {w1 w2 r : Wv} {neg : Bool} {Q : VK} (e : wIn neg w1 w2 = some r) (mo : MOk M H) (s1 : Sh X.K M H x w1) (s2 : Sh X.K M H y w2) (q : ∀ v H', Nw X.K M H H' v r -> Q v H') : rIn X.K neg x y H Q := by
  unfold wIn at e
  cases e1 : asS w2 with
  | none => rw [e1] at e; cases e
  | some ds =>
    rw [e1] at e
    simp only [Option.bind_some] at e
    split at e
    · rename_i hk
      rw [Bool.and_eq_true] at hk
      cases e
      obtain ⟨a, xs, rfl, h3, h4⟩ := s2.s e1
      have g1 := s1.flat hk.1
      refine ⟨a, xs, rfl, h3, Qf g1 hk.1, Od h4 hk.2, ?_⟩
      rw [SN g1 hk.1 h4 hk.2]
      exact q _ _ (.same mo (.bl _))
    · cases e
theorem Ln : OpR X (compareOp .In) (rOp X.K (wIn false)) := by
 intro pins s σ H x y v u Q I rx ry h
 obtain ⟨M, w1, w2, r, e, mo, s1, s2, q⟩ := h
 exact Ti pins s σ H _ _ v u Q I rx ry (Xd e mo s1 s2 q)
theorem L6 : OpR X (compareOp .NotIn) (rOp X.K (wIn true)) := by
 intro pins s σ H x y v u Q I rx ry h
 obtain ⟨M, w1, w2, r, e, mo, s1, s2, q⟩ := h
 exact Oy pins s σ H _ _ v u Q I rx ry (Xd e mo s1 s2 q)
def isN : Wv -> Bool
 | .val .non => true
 | _ => false
def bZ (neg : Bool) : Op2 := fun a b => match b with
 | .val .non => some (.val (.bl (if neg then !isN a else isN a)))
 | _ => none
theorem Yv {K : PySem.W.Frag} {M : Ms} {H : Hp} {x : V} {w : Wv} (s : Sh K M H x w) : decide (x = .non) = isN w := by
 cases w with
 | own ds => obtain ⟨a, xs, rfl, _⟩ := s; rfl
 | val d => cases s <;> rfl
theorem W6 : OpR X (compareOp .IsNot) (rOp X.K (bZ true)) := by
 intro pins s σ H x y v u Q I rx ry h
 obtain ⟨M, w1, w2, r, e, mo, s1, s2, q⟩ := h
 unfold bZ at e
 split at e
 ·cases e
  cases s2
  refine Y3 pins s σ H _ _ v u Q I rx ry ⟨rfl, ?_⟩
  rw [Yv s1]
  exact q _ _ (.same mo (.bl _))
 ·cases e
theorem J3 {K : PySem.W.Frag} {M : Ms} {H : Hp} {xs : List V} {ws : List Wv} {f : Op1} {r : Wv} (h : Shs K M H xs ws) (e : o1 f ws = some r) : ∃ v w, xs = [v] /\ ws = [w] /\ Sh K M H v w /\ f w = some r := by
  cases h with
  | nil => cases e
  | cons h1 t =>
    cases t with
    | cons h2 t => cases e
    | nil => exact ⟨_, _, rfl, rfl, h1, e⟩
theorem QS {K : PySem.W.Frag} {M : Ms} {H : Hp} {xs : List V} {ws : List Wv} {f : Op2} {r : Wv} (h : Shs K M H xs ws) (e : o2 f ws = some r) : ∃ v w v' w', xs = [v, v'] /\ ws = [w, w'] /\ Sh K M H v w /\ Sh K M H v' w' /\ f w w' = some r := by
  cases h with
  | nil => cases e
  | cons h1 t =>
    cases t with
    | nil => cases e
    | cons h2 t =>
      cases t with
      | cons h3 t => cases e
      | nil => exact ⟨_, _, _, _, rfl, rfl, h1, h2, e⟩
def ZI : Op1
 | .val (.int i) => some (.val (.int (if i < 0 then -i else i)))
 | _ => none
theorem MN : FH X (.builtin "abs") (rN X.K (o1 ZI)) := by
 intro pins s σ H xs us Q I r h
 obtain ⟨M, ws, w, e, mo, sh, q⟩ := h
 obtain ⟨v, w1, rfl, rfl, s1, e1⟩ := J3 sh e
 unfold ZI at e1
 split at e1
 ·cases e1
  cases s1
  exact Wj pins s σ H _ us Q I r ⟨_, rfl, q _ _ (.same mo (.int _))⟩
 ·cases e1
def bh : Op2 := wI2 fun i j => some (.int (if j > i then j else i))
def ZM : Op2 := wI2 fun i j => some (.int (if j < i then j else i))
theorem Q6 {f : Int -> Int -> Option D} {a b r : Wv} (e : wI2 f a b = some r) : ∃ i j d, a = .val (.int i) /\ b = .val (.int j) /\ f i j = some d /\ r = .val d := by
 unfold wI2 at e
 split at e
 ·rename_i i j
  cases e1 : f i j with
  | none => rw [e1] at e; cases e
  | some d => rw [e1] at e; cases e; exact ⟨i, j, d, rfl, rfl, e1, rfl⟩
 ·cases e
theorem UT (hc : X.calm = true) : FH X (.builtin "max") (rN X.K (o2 bh)) := by
 intro pins s σ H xs us Q I r h
 obtain ⟨M, ws, w, e, mo, sh, q⟩ := h
 obtain ⟨v, w1, v', w2, rfl, rfl, s1, s2, e1⟩ := QS sh e
 obtain ⟨i, j, d, rfl, rfl, e2, rfl⟩ := Q6 e1
 cases e2; cases s1; cases s2
 exact UE hc pins s σ H _ us Q I r ⟨_, _, rfl, q _ _ (.same mo (.int _))⟩
theorem O2 (hc : X.calm = true) : FH X (.builtin "min") (rN X.K (o2 ZM)) := by
 intro pins s σ H xs us Q I r h
 obtain ⟨M, ws, w, e, mo, sh, q⟩ := h
 obtain ⟨v, w1, v', w2, rfl, rfl, s1, s2, e1⟩ := QS sh e
 obtain ⟨i, j, d, rfl, rfl, e2, rfl⟩ := Q6 e1
 cases e2; cases s1; cases s2
 exact SO hc pins s σ H _ us Q I r ⟨_, _, rfl, q _ _ (.same mo (.int _))⟩
def Dm : Op1 := fun w => (asS w).map fun ds => .val (.tup ds)
theorem BG : FH X (.type "tuple") (rN X.K (o1 Dm)) := by
  intro pins s σ H xs us Q I r h
  obtain ⟨M, ws, w, e, mo, sh, q⟩ := h
  obtain ⟨v, w1, rfl, rfl, s1, e1⟩ := J3 sh e
  unfold Dm at e1
  cases e2 : asS w1 with
  | none => rw [e2] at e1; cases e1
  | some ds =>
    rw [e2] at e1
    cases e1
    obtain ⟨a, ys, rfl, h3, h4⟩ := s1.s e2
    refine OT pins s σ H _ us Q I r ⟨a, ys, rfl, ?_⟩
    rcases h3 with h3 | h3
    · exact .inl ⟨h3, fun l hl => q _ _ (.tup mo hl h4)⟩
    · exact .inr ⟨h3, q _ _ (.same mo (.tup h3 h4))⟩
def Pl : Op1 := fun w => (asS w).map fun ds => .own ds
theorem KC : FH X (.type "list") (rN X.K (o1 Pl)) := by
  intro pins s σ H xs us Q I r h
  obtain ⟨M, ws, w, e, mo, sh, q⟩ := h
  obtain ⟨v, w1, rfl, rfl, s1, e1⟩ := J3 sh e
  unfold Pl at e1
  cases e2 : asS w1 with
  | none => rw [e2] at e1; cases e1
  | some ds =>
    rw [e2] at e1
    cases e1
    obtain ⟨a, ys, rfl, h3, h4⟩ := s1.s e2
    exact Ot pins s σ H _ us Q I r ⟨a, ys, rfl, h3, fun l hl => q _ _ (.lst mo hl h4)⟩
def Ye : Op1
 | .val (.int i) => some (.val (.int i))
 | .val (.bl b) => some (.val (.int (if b then 1 else 0)))
 | _ => none
theorem Ly : FH X (.type "int") (rN X.K (o1 Ye)) := by
 intro pins s σ H xs us Q I r h
 obtain ⟨M, ws, w, e, mo, sh, q⟩ := h
 obtain ⟨v, w1, rfl, rfl, s1, e1⟩ := J3 sh e
 unfold Ye at e1
 split at e1
 ·cases e1; cases s1
  exact Oa pins s σ H _ us Q I r (.inl ⟨_, rfl, q _ _ (.same mo (.int _))⟩)
 ·cases e1; cases s1
  exact Oa pins s σ H _ us Q I r (.inr ⟨_, rfl, q _ _ (.same mo (.int _))⟩)
 ·cases e1
def kdW : Wv -> Option St.Kd
 | .own _ => some .lst
 | .val .non => some .non | .val (.bl _) => some .bl | .val (.int _) => some .int | .val (.str _) => some .str | .val (.lst _) => some .lst | .val (.dct _) => some .dct | .val (.tup _) => some .tup
 | .val (.ty _) => none | .val (.scr _) => none | .val (.ref _) => none
end
section
variable {X : Cx}
theorem WZ {K : PySem.W.Frag} (k : St.Kd) : PySem.W.kitOne K (.type k.ty) (.type "list") = some (k.isA "list") := by
 cases k <;> rfl
def R8 (T : String) : Bool := T == "int" || T == "bool" || T == "tuple" || T == "str" || T == "list"
theorem ZP {K : PySem.W.Frag} {T : String} (h : R8 T = true) (k : St.Kd) : PySem.W.kitOne K (.type k.ty) (.type T) = some (k.isA T) := by
 unfold R8 at h
 simp only [Bool.or_eq_true, beq_iff_eq] at h
 rcases h with (((rfl | rfl) | rfl) | rfl) | rfl
 ·exact St.Yh k
 ·exact St.VV k
 ·exact St.kit_tuple k
 ·exact St.YB k
 ·exact WZ k
def aO : Op2 := fun a t => match t with
 | .val (.ty T) => if R8 T = true then (kdW a).map fun k => .val (.bl (k.isA T)) else none
 | _ => none
theorem O5 : FH X (.builtin "isinstance") (rN X.K (o2 aO)) := by
  intro pins s σ H xs us Q I r h
  obtain ⟨M, ws, w, e, mo, sh, q⟩ := h
  obtain ⟨v, w1, v', w2, rfl, rfl, s1, s2, e1⟩ := QS sh e
  unfold aO at e1
  split at e1
  · rename_i T
    split at e1
    · rename_i hT
      cases e2 : kdW w1 with
      | none => rw [e2] at e1; cases e1
      | some k =>
        rw [e2] at e1
        cases e1
        cases s2
        obtain ⟨u1, u2, rfl, r1, r2⟩ := r.two
        cases (show u2 = Value.type T from r2)
        have fin : ∀ tk, EP X pins σ Q (.bool (k.isA T)) { s with toks := tk } := fun tk => ⟨.bl _, H, I.tok tk, rfl, q _ _ (.same mo (.bl _))⟩
        have kk := ZP (K := X.K) hT k
        cases w1 with
        | own ds =>
          cases e2
          obtain ⟨a, ys, rfl, h1, _⟩ := s1
          exact Fd I r1 (.lst h1) kk fin
        | val d =>
          have s1' : EM X.K M H v d := s1
          cases s1' with
          | non => cases e2; exact Fd I r1 .non kk fin
          | bl b => cases e2; exact Fd I r1 (.bl b) kk fin
          | int b => cases e2; exact Fd I r1 (.int b) kk fin
          | str b => cases e2; exact Fd I r1 (.str b) kk fin
          | ty b => cases e2
          | scr h => cases e2
          | lst h n rr => cases e2; exact Fd I r1 (.lst h) kk fin
          | dct h n rr => cases e2; exact Fd I r1 (.dK h) kk fin
          | ref h => cases e2
          | tup h rr =>
            cases e2
            rename_i a ys ds
            cases (show u1 = Value.ref a from r1)
            obtain ⟨its, _, ⟨o, h1, h2, _⟩, _⟩ := I.tuple h
            exact PySem.W.kia_one PySem.W.kitx_tuple I.kIn ⟨o, h1, h2⟩ kk (fun z => nomatch z) fin
    · cases e1
  · cases e1
def DF (fs : List Ev) : Ev := fun E S => (evs fs E S).bind fun r => if r.1.length ≤ sizeLine then some (.tup r.1, r.2) else none
def VF (c : Bool) (fs : List Ev) : Ev := fun E S => (evs fs E S).bind fun r => if r.1.length ≤ sizeLine then fin c (.own r.1) r.2 else none
abbrev JF := VF false
abbrev K3 := VF true
theorem BJ {es : List Expr} {fs : List Ev} {k : Nat} {pos : Pos} (h : DEs X es fs) : DE X (.Tuple es k pos) (DF fs) := ⟨CN (Zj h.pe) fun σ H Q z => by
 obtain ⟨M, E, S, d, S', e, r, st, q⟩ := z
 obtain ⟨⟨ds, S1⟩, e1, e⟩ := Bg e
 dsimp only at e
 split at e
 ·cases e
  refine Il e1 r st fun vs H1 M1 g1 st1 d1 => ⟨by rw [d1.length]; assumption, fun p hp => ?_⟩
  have n := Nw.tup st1.mo hp d1
  exact q _ _ M1 (g1.trans (.grow st1.mo n.grow)) (st1.grow n.grow) n.rel
 ·cases e⟩
theorem B6 {c : Bool} {es : List Expr} {fs : List Ev} {pos : Pos} (h : DEs X es fs) : DE X (.List es pos) (VF c fs) := ⟨CN (aJ h.pe) fun σ H Q z => by
 obtain ⟨M, E, S, d, S', e, r, st, q⟩ := z
 obtain ⟨⟨ds, S1⟩, e1, e⟩ := Bg e
 dsimp only at e
 split at e
 ·refine Il e1 r st fun vs H1 M1 g1 st1 d1 => ⟨by rw [d1.length]; assumption, fun p hp => ?_⟩
  obtain ⟨M2, g2, st2, d2⟩ := (Nw.lst st1.mo hp d1).fin st1 e
  exact q _ _ M2 (g1.trans g2) st2 d2
 ·cases e⟩
def LG (f g : Ev) : Ev := fun E S => (f E S).bind fun r => match r.1 with
 | .bl true => g E r.2
 | .bl false => some (.bl false, r.2)
 | _ => none
def eOr (f g : Ev) : Ev := fun E S => (f E S).bind fun r => match r.1 with
 | .bl false => g E r.2
 | .bl true => some (.bl true, r.2)
 | _ => none
def WR (f : Ev) : Ev := fun E S => (f E S).bind fun r => match r.1 with
 | .bl b => some (.bl (!b), r.2)
 | _ => none
def eIf (c f g : Ev) : Ev := fun E S => (c E S).bind fun r => match r.1 with
 | .bl true => f E r.2
 | .bl false => g E r.2
 | _ => none
theorem RC {K : PySem.W.Frag} {M : Ms} {H : Hp} {v : V} {b : Bool} (h : EM K M H v (.bl b)) : v = .bl b := by cases h; rfl
variable {a b c : Expr} {rest : List Expr} {f g h : Ev} {pos : Pos}
theorem Ko {op : BoolOp} (h : DE X a f) : DE X (.BoolOp op [a] pos) f := ⟨aM h.pe⟩
theorem Jk (ha : DE X a f) (hb : DE X (.BoolOp .And (b :: rest) pos) g) : DE X (.BoolOp .And (a :: b :: rest) pos) (LG f g) := ⟨CN (Z2 ha.pe hb.pe) fun σ H Q z => by
 obtain ⟨M, E, S, d, S', e, r, st, q⟩ := z
 obtain ⟨⟨d1, S1⟩, e1, e⟩ := Bg e
 dsimp only at e
 refine ⟨M, E, S, d1, S1, e1, r, st, fun v H1 M1 g1 st1 r1 => ?_⟩
 split at e
 ·cases RC r1
  refine ⟨_, rfl, ?_⟩
  refine YE ?_
  exact ⟨M1, E, S1, d, S', e, r.step g1.st, st1, fun v H2 M2 g2 st2 r2 => q _ _ M2 (g1.trans g2) st2 r2⟩
 ·cases e
  cases RC r1
  refine ⟨_, rfl, ?_⟩
  refine X7 ?_
  exact q _ _ M1 g1 st1 r1
 ·cases e⟩
theorem aQ (ha : DE X a f) : DE X (.UnaryOp .Not a pos) (WR f) := ⟨CN (au ha.pe) fun σ H Q z => by
 obtain ⟨M, E, S, d, S', e, r, st, q⟩ := z
 obtain ⟨⟨d1, S1⟩, e1, e⟩ := Bg e
 dsimp only at e
 split at e
 ·cases e
  refine ⟨M, E, S, _, _, e1, r, st, fun v H1 M1 g1 st1 r1 => ?_⟩
  cases RC r1
  exact ⟨_, rfl, q _ _ M1 g1 st1 (.bl _)⟩
 ·cases e⟩
def tDT (K : PySem.W.Frag) (f : Ev) : TT := fun σ H Q => ∃ M E S b S', f E S = some (.bl b, S') /\ EnR K M E σ H /\ StR K M S H /\ ∀ H' M', Gr M H M' H' -> StR K M' S' H' -> Q b H'
structure DT (X : Cx) (e : Expr) (f : Ev) : Prop where
 pe : PT X e (tDT X.K f)
structure DW (X : Cx) (e : Expr) (f : Ev) : Prop where
 pe : PW X e (tDT X.K f)
theorem DW.dt (h : DW X a f) : DT X a f := ⟨PW.pt h.pe⟩
theorem ax {t : TE} (h : PT X a (aV t)) (m : ∀ σ H Q, tD X.K f σ H Q -> t σ H Q) : DT X a f := ⟨Sl h fun σ H Q z => by
 obtain ⟨M, E, S, b, S', e, r, st, q⟩ := z
 refine m _ _ _ ⟨M, E, S, _, S', e, r, st, fun v H1 M1 g1 st1 r1 => ?_⟩
 cases RC r1
 exact ⟨_, rfl, q _ M1 g1 st1⟩⟩
theorem Qv (h : DE X a f) (he : ∀ whole, isTrue a X.env whole = (do let v ← whole; standAt a.pos; holding [v] (truthy v)) := by intro _; rfl) : DT X a f := ax (t := tD X.K f) (Zx h.pe he) fun _ _ _ z => z
theorem Ao {fa fb : Ev} {op : CmpOp} {f : Op2} (ho : OpR X (compareOp op) (rOp X.K f)) (ha : DE X a fa) (hb : DE X b fb) (hm : behindInMarks op b = false := by rfl) : DT X (.Compare a [op] [b] pos) (eOp (o2 f) [fa, fb]) :=
 ax (Xy ho ha.pe hb.pe hm) fun _ _ _ h => Qr h
theorem Q2 (ha : DT X a f) : DT X (.UnaryOp .Not a pos) (WR f) := ⟨Sl (ab ha.pe) fun σ H Q z => by
 obtain ⟨M, E, S, b, S', e, r, st, q⟩ := z
 obtain ⟨⟨w1, S1⟩, e1, e⟩ := Bg e
 dsimp only at e
 split at e
 ·cases e
  exact ⟨M, E, S, _, _, e1, r, st, q⟩
 ·cases e⟩
theorem ML (ha : DT X a f) : DW X (.BoolOp .And [a] pos) f := ⟨YS ha.pe⟩
theorem T8 (ha : DT X a f) : DW X (.BoolOp .Or [a] pos) f := ⟨aP ha.pe⟩
theorem Te {e : Expr} {t t' : TT} (h : PW X e t) (m : ∀ σ H Q, t' σ H Q -> t σ H Q) : PW X e t' := fun wh pins s σ H Q I q => h wh pins s σ H Q I (m _ _ _ q)
theorem Om (ha : DT X a f) (hb : DW X (.BoolOp .And (b :: rest) pos) g) : DW X (.BoolOp .And (a :: b :: rest) pos) (LG f g) := ⟨Te (ZX ha.pe hb.pe) fun σ H Q z => by
 obtain ⟨M, E, S, k, S', e, r, st, q⟩ := z
 obtain ⟨⟨w1, S1⟩, e1, e⟩ := Bg e
 dsimp only at e
 split at e
 ·refine ⟨M, E, S, _, S1, e1, r, st, fun H1 M1 g1 st1 => ?_⟩
  refine YE ?_
  exact ⟨M1, E, S1, k, S', e, r.step g1.st, st1, fun H2 M2 g2 st2 => q _ M2 (g1.trans g2) st2⟩
 ·cases e
  refine ⟨M, E, S, _, _, e1, r, st, fun H1 M1 g1 st1 => ?_⟩
  refine X7 ?_
  exact q _ M1 g1 st1
 ·cases e⟩
theorem YU (ha : DT X a f) (hb : DW X (.BoolOp .Or (b :: rest) pos) g) : DW X (.BoolOp .Or (a :: b :: rest) pos) (eOr f g) := ⟨Te (eM ha.pe hb.pe) fun σ H Q z => by
 obtain ⟨M, E, S, k, S', e, r, st, q⟩ := z
 obtain ⟨⟨w1, S1⟩, e1, e⟩ := Bg e
 dsimp only at e
 split at e
 ·refine ⟨M, E, S, _, S1, e1, r, st, fun H1 M1 g1 st1 => ?_⟩
  refine X7 ?_
  exact ⟨M1, E, S1, k, S', e, r.step g1.st, st1, fun H2 M2 g2 st2 => q _ M2 (g1.trans g2) st2⟩
 ·cases e
  refine ⟨M, E, S, _, _, e1, r, st, fun H1 M1 g1 st1 => ?_⟩
  refine YE ?_
  exact q _ M1 g1 st1
 ·cases e⟩
theorem c7 (hc : DT X c f) (ha : DE X a g) (hb : DE X b h) : DE X (.IfExp c a b pos) (eIf f g h) := ⟨CN (W4 hc.pe ha.pe hb.pe) fun σ H Q z => by
 obtain ⟨M, E, S, d, S', e, r, st, q⟩ := z
 obtain ⟨⟨w1, S1⟩, e1, e⟩ := Bg e
 dsimp only at e
 split at e
 ·refine ⟨M, E, S, _, S1, e1, r, st, fun H1 M1 g1 st1 => ?_⟩
  refine YE ?_
  exact ⟨M1, E, S1, d, S', e, r.step g1.st, st1, fun v H2 M2 g2 st2 r2 => q _ _ M2 (g1.trans g2) st2 r2⟩
 ·refine ⟨M, E, S, _, S1, e1, r, st, fun H1 M1 g1 st1 => ?_⟩
  refine X7 ?_
  exact ⟨M1, E, S1, d, S', e, r.step g1.st, st1, fun v H2 M2 g2 st2 r2 => q _ _ M2 (g1.trans g2) st2 r2⟩
 ·cases e⟩
end
inductive Fl where
 | nx
 | ret (d : D)
abbrev Ex := En -> Sto -> Option (Fl × En × Sto)
def End (K : PySem.W.Frag) (M : Ms) (H : Hp) (Dn : Ends) (E' : En) (S' : Sto) : Fl -> Prop
 | .nx => ∀ σ' H' M', Gr M H M' H' -> EnR K M' E' σ' H' -> StR K M' S' H' -> Dn.nx σ' H'
 | .ret d => ∀ v H' M', Gr M H M' H' -> StR K M' S' H' -> EM K M' H' v d -> Dn.rt v H'
def tX (K : PySem.W.Frag) (f : Ex) : TS := fun Dn σ H => ∃ M E S fl E' S', f E S = some (fl, E', S') /\ EnR K M E σ H /\ StR K M S H /\ End K M H Dn E' S' fl
structure DS (X : Cx) (st : Stmt) (f : Ex) : Prop where
 pe : PS X st (tX X.K f)
structure DSs (X : Cx) (st : List Stmt) (f : Ex) : Prop where
 pe : PSs X st (tX X.K f)
theorem GF {X : Cx} {e : Stmt} {t t' : TS} (h : PS X e t) (m : ∀ Dn σ H, t' Dn σ H -> t Dn σ H) : PS X e t' := fun pins s σ H Dn I q => h pins s σ H Dn I (m _ _ _ q)
theorem QZ {X : Cx} {e : List Stmt} {t t' : TS} (h : PSs X e t) (m : ∀ Dn σ H, t' Dn σ H -> t Dn σ H) : PSs X e t' := fun pins s σ H Dn I q => h pins s σ H Dn I (m _ _ _ q)
theorem End.later {K : PySem.W.Frag} {M M1 : Ms} {H H1 : Hp} {Dn : Ends} {E' : En} {S' : Sto} {fl : Fl} (q : End K M H Dn E' S' fl) (g : Gr M H M1 H1) : End K M1 H1 Dn E' S' fl := by
 cases fl with
 | nx => exact fun σ' H' M' g' r st => q σ' H' M' (g.trans g') r st
 | ret d => exact fun v H' M' g' st r => q v H' M' (g.trans g') st r
def Am (f g : Ex) : Ex := fun E S => (f E S).bind fun r => match r.1 with
 | .nx => g r.2.1 r.2.2
 | .ret w => some (.ret w, r.2)
def EB : Ex := fun E S => some (.nx, E, S)
section
variable {X : Cx} {st : Stmt} {rest a b : List Stmt} {f g h : Ex} {c e : Expr} {k : Ev} {pos : Pos}
theorem Ay : DSs X [] EB := ⟨QZ Y8 fun Dn σ H z => by
 obtain ⟨M, E, S, fl, E', S', e, r, st, q⟩ := z
 cases e
 exact q _ _ M (.refl st.mo) r st⟩
theorem AG (h1 : DS X st f) (h2 : DSs X rest g) : DSs X (st :: rest) (Am f g) := ⟨QZ (VB h1.pe h2.pe) fun Dn σ H z => by
 obtain ⟨M, E, S, fl, E', S', e, r, st, q⟩ := z
 obtain ⟨⟨f1, E1, S1⟩, e1, e⟩ := Bg e
 dsimp only at e
 split at e
 ·exact ⟨M, E, S, .nx, E1, S1, e1, r, st, fun σ1 H1 M1 g1 r1 st1 => ⟨M1, E1, S1, fl, E', S', e, r1, st1, q.later g1⟩⟩
 ·cases e
  exact ⟨M, E, S, .ret _, _, _, e1, r, st, q⟩⟩
theorem AJ (h1 : DS X st f) : DSs X [st] f := ⟨YH h1.pe⟩
def xIf (c : Ev) (f g : Ex) : Ex := fun E S => (c E S).bind fun r => match r.1 with
 | .bl true => f E r.2
 | .bl false => g E r.2
 | _ => none
theorem B9 (hc : DT X c k) (ha : DSs X a f) (hb : DSs X b g) : DS X (.If c a b pos) (xIf k f g) := ⟨GF (d8 hc.pe ha.pe hb.pe) fun Dn σ H z => by
 obtain ⟨M, E, S, fl, E', S', e, r, st, q⟩ := z
 obtain ⟨⟨w1, S1⟩, e1, e⟩ := Bg e
 dsimp only at e
 split at e
 ·refine ⟨M, E, S, _, S1, e1, r, st, fun H1 M1 g1 st1 => ?_⟩
  refine YE ?_
  exact ⟨M1, E, S1, fl, E', S', e, r.step g1.st, st1, q.later g1⟩
 ·refine ⟨M, E, S, _, S1, e1, r, st, fun H1 M1 g1 st1 => ?_⟩
  refine X7 ?_
  exact ⟨M1, E, S1, fl, E', S', e, r.step g1.st, st1, q.later g1⟩
 ·cases e⟩
def BV (k : Ev) : Ex := fun E S => (k E S).map fun r => (.ret r.1, E, r.2)
theorem AU (h : DE X e k) : DS X (.Return (some e) pos) (BV k) := ⟨GF (ZT h.pe) fun Dn σ H z => by
 obtain ⟨M, E, S, fl, E', S', e, r, st, q⟩ := z
 obtain ⟨⟨d, S1⟩, e1, e⟩ := Mc e
 cases e
 exact ⟨M, E, S, d, S1, e1, r, st, fun v H1 M1 g1 st1 r1 => q _ _ M1 g1 st1 r1⟩⟩
end
section
variable {K : PySem.W.Frag} {M : Ms} {E : En} {σ : Sg} {H : Hp} {i : Nat} {d : D} {v : V}
theorem EnR.put (r : EnR K M E σ H) (rd : EM K M H v d) : EnR K M (E.set i (some d)) (σ.set i (some v)) H := by
 refine ⟨by rw [List.length_set, List.length_set]; exact r.len, fun j e ej => ?_⟩
 by_cases h : i = j
 ·subst h
  by_cases hi : i < E.length
  ·rw [List.getElem?_set_self hi] at ej
   cases ej
   exact ⟨v, List.getElem?_set_self (by rw [← r.len]; exact hi), rd⟩
  ·rw [List.getElem?_eq_none_iff.mpr (by rw [List.length_set]; omega)] at ej; cases ej
 ·rw [List.getElem?_set_ne h] at ej
  obtain ⟨v', h1, h2⟩ := r.val j e ej
  exact ⟨v', by rw [List.getElem?_set_ne h]; exact h1, h2⟩
end
def Bs (i : Nat) (k : Ev) : Ex := fun E S => (k E S).map fun r => (.nx, E.set i (some r.1), r.2)
theorem Ap {X : Cx} {e : Expr} {k : Ev} {pos pos' : Pos} (i : Nat) {x : Str} (h : DE X e k) (hN : X.N.Nodup) (hi : X.N[i]? = some x := by rfl) (hx : Loc X.env.scope x := by first | exact Or.inl rfl | exact Or.inr rfl)
  (hs : swapsWith e (some (.Name x pos')) pos.line X.env = pure false := by rfl) (hf : X.fn x = true ∨ X.env.scope.names.lookup x = some .local := by first | exact .inl rfl | exact .inr rfl) : DS X (.Assign [.Name x pos'] e pos) (Bs i k) := ⟨
 GF (aK hN hi hx h.pe hs hf) fun Dn σ H z => by
  obtain ⟨M, E, S, fl, E', S', e, r, st, q⟩ := z
  obtain ⟨⟨d, S1⟩, e1, e⟩ := Mc e
  cases e
  exact ⟨M, E, S, d, S1, e1, r, st, fun v H1 M1 g1 st1 r1 => q _ _ M1 g1 ((r.step g1.st).put r1) st1⟩⟩
def Cp (k : Ev) : Ex := fun E S => (k E S).map fun r => (.nx, E, r.2)
theorem Br {X : Cx} {e : Expr} {k : Ev} {pos : Pos} (h : DE X e k) (hs : swapsWith e none pos.line X.env = pure false := by rfl) : DS X (.Expr e pos) (Cp k) := ⟨GF (Yo h.pe hs) fun Dn σ H z => by
 obtain ⟨M, E, S, fl, E', S', e, r, st, q⟩ := z
 obtain ⟨⟨d, S1⟩, e1, e⟩ := Mc e
 cases e
 exact ⟨M, E, S, d, S1, e1, r, st, fun v H1 M1 g1 st1 r1 => q _ _ M1 g1 (r.step g1.st) st1⟩⟩
def Eu (S : Sto) (n : Nat) : Option (List D) := match S[n]? with
 | some (.lst ds) => some ds
 | _ => none
theorem FL {S : Sto} {n : Nat} {ds : List D} (h : Eu S n = some ds) : S[n]? = some (.lst ds) := by
 unfold Eu at h
 split at h
 ·rename_i e
  cases h
  exact e
 ·cases h
abbrev Mo := Sto -> List D -> List D -> Option (D × List D)
def LJ (op : Mo) (f : Ev) (fs : List Ev) : Ev := fun E S => (f E S).bind fun r => match r.1 with
 | .ref n => (Eu r.2 n).bind fun _ => (evs fs E r.2).bind fun p => (Eu p.2 n).bind fun ds => (op p.2 ds p.1).map fun q => (q.1, p.2.set n (.lst q.2))
 | _ => none
def cR (K : PySem.W.Frag) (op : Mo) : V -> List V -> Hp -> VK -> Prop := fun x vs H Q => ∃ M S n a ds args d ds', x = .ref a /\ M.cel[n]? = some a /\ S[n]? = some (.lst ds) /\ op S ds args = some (d, ds') /\ StR K M S H /\ Ax K M H vs args /\ ∀ v H', StR K M (S.set n (.lst ds')) H' -> Gr M H M H' -> EM K M H' v d -> Q v H'
section
variable {X : Cx}
theorem aj {op : Mo} {f : Ev} {fs : List Ev} {σ : Sg} {H : Hp} {Q : VK} (h : tD X.K (LJ op f fs) σ H Q) : tBM X.K "list" (cR X.K op) (tD X.K f) (tDs X.K fs) σ H Q := by
  obtain ⟨M, E, S, d, S', e, r, st, q⟩ := h
  obtain ⟨⟨d1, S1⟩, e1, e⟩ := Bg e
  dsimp only at e
  split at e
  · rename_i n
    obtain ⟨ds0, e2, e⟩ := Bg e
    obtain ⟨⟨args, S2⟩, e3, e⟩ := Bg e
    obtain ⟨ds, e4, e⟩ := Bg e
    obtain ⟨⟨dd, ds'⟩, e5, e⟩ := Mc e
    cases e
    refine ⟨M, E, S, _, S1, e1, r, st, fun v H1 M1 g1 st1 r1 => ?_⟩
    cases r1 with
    | ref hc =>
      rename_i a
      obtain ⟨xs, h1, h2⟩ := st1.cell n a _ hc (FL e2)
      refine ⟨.inl ⟨rfl, xs, .of h1⟩, ?_⟩
      refine Il e3 (r.step g1.st) st1 fun vs H2 M2 g2 st2 r2 => ?_
      exact ⟨M2, S2, n, a, ds, args, dd, ds', rfl, OX g2.pre hc, FL e4, e5, st2, r2, fun v H3 st3 g3 r3 => q _ _ M2 ((g1.trans g2).trans g3) st3 r3⟩
  · cases e
theorem HB {id : String} {name : Str} {o e : Expr} {es : List Expr} {op : Mo} {f : Ev} {fs : List Ev} {apos cpos : Pos} (slot : Slot "list" name id) (hty : typeOf (.builtin id) = pure (.type "method_descriptor")) (hm : MtR X id (cR X.K op)) (ho : DE X o f) (ha : DEs X (e :: es) fs)
  (hbase : attributeBase o name X.env (eval o X.env) = eval o X.env := by rfl)
  (hfew : ((backTo cpos (starEach (e :: es) X.env)).all (fun x => !x.1) && (backToKw cpos (keywordEach [] X.env)).all (fun x => x.1.isSome)
   && decide ((e :: es).length + ([] : List Keyword).length + (if ([] : List Keyword).isEmpty then 0 else 1) < 30)) = true := by rfl)
  (hline : (apos.endLine == cpos.line) = true := by rfl) (hs : starEach (e :: es) X.env = (false, eval e X.env) :: starEach es X.env := by rfl) (hplain : (backTo cpos (starEach es X.env)).any (·.1) = false := by rfl) :
  DE X (.Call (.Attribute o name apos) (e :: es) [] cpos) (LJ op f fs) := ⟨CN (dX PySem.F.plainAttrs_list slot hty hm ho.pe ha.pe hbase hfew hline hs hplain) fun σ H Q z => aj z⟩
def Lb : Mo
 | _, ds, [x] => if ds.length < sizeLine then some (.non, ds ++ [x]) else none
 | _, _, _ => none
theorem Qp {K : PySem.W.Frag} {M : Ms} {H : Hp} {vs : List V} {d : D} (h : Ax K M H vs [d]) : ∃ v, vs = [v] /\ EM K M H v d := by
 cases h with
 | cons h t => cases t; exact ⟨_, rfl, h⟩
theorem Fh : MtR X "list.append" (cR X.K Lb) := by
 intro pins s σ H x vs v us Q I rx rv h
 obtain ⟨M, S, n, a, ds, args, d, ds', rfl, hc, hn, e, st, ra, q⟩ := h
 unfold Lb at e
 split at e
 ·split at e
  ·rename_i hz
   cases e
   obtain ⟨xs, h1, h2⟩ := st.cell n a _ hc hn
   obtain ⟨y, rfl, ry⟩ := Qp ra
   obtain ⟨st2, g2⟩ := st.chg hc hn (h2.append (.cons ry .nil))
   exact Oc pins s σ H _ _ v us Q I rx rv ⟨a, xs, y, rfl, rfl, h1, by rw [h2.length]; exact hz, q _ _ st2 g2 .non⟩
  ·cases e
 ·cases e
end
def MW (k f o : Ev) : Ex := fun E S => (k E S).bind fun r => (f E r.2).bind fun b => (o E b.2).bind fun i => match b.1, i.1 with
 | .ref n, .int j => (Eu i.2 n).bind fun ds => (ixN ds.length j).map fun m => (.nx, E, i.2.set n (.lst (ds.set m r.1)))
 | _, _ => none
theorem CI {X : Cx} {e t bs : Expr} {k f o : Ev} {ps pos : Pos} (h : DE X e k) (hb : DE X bs f) (ht : DE X t o)
    (ha : ∀ v, assign (.Subscript bs t ps) X.env v = (do
      let ov ← holding [v] (eval bs X.env)
      let iv ← holding [v, ov] (eval t X.env)
      standAt ps
      holding [v, ov, iv] (setItem ov iv v)
      release [v, ov, iv] []) := by intro _; rfl)
    (hs : swapsWithSole [.Subscript bs t ps] e pos.line X.env = pure false := by rfl) (hw : swappedStores [.Subscript bs t ps] e X.env = pure none := by rfl)
    (h1 : (assignEach [.Subscript bs t ps] X.env).map (·.2) = [assign (.Subscript bs t ps) X.env] := by rfl) :
    DS X (.Assign [.Subscript bs t ps] e pos) (MW k f o) := ⟨
  GF (XS h.pe (Z7 hb.pe ht.pe set_list ha) hs hw h1) fun Dn σ H z => by
    obtain ⟨M, E, S, fl, E', S', e, r, st, q⟩ := z
    obtain ⟨⟨d, S1⟩, e1, e⟩ := Bg e
    obtain ⟨⟨b, S2⟩, e2, e⟩ := Bg e
    obtain ⟨⟨i, S3⟩, e3, e⟩ := Bg e
    dsimp only at e e1 e2 e3
    split at e
    · rename_i n j _
      obtain ⟨ds, e4, e⟩ := Bg e
      obtain ⟨m, e5, e⟩ := Mc e
      cases e
      refine ⟨M, E, S, d, S1, e1, r, st, fun v H1 M1 g1 st1 r1 => ?_⟩
      refine ⟨M1, E, S1, _, S2, e2, r.step g1.st, st1, fun bv H2 M2 g2 st2 r2 => ?_⟩
      refine ⟨M2, E, S2, _, S3, e3, (r.step g1.st).step g2.st, st2, fun iv H3 M3 g3 st3 r3 => ?_⟩
      cases r3
      cases r2 with
      | ref hc =>
        rename_i a
        have hc3 := OX g3.pre hc
        obtain ⟨xs, h1, h2⟩ := st3.cell n a _ hc3 (FL e4)
        obtain ⟨st4, g4⟩ := st3.chg hc3 (FL e4) (h2.set ((r1.step g2.st).step g3.st) m)
        have g := ((g1.trans g2).trans g3).trans g4
        exact ⟨a, xs, j, m, rfl, rfl, h1, by rw [h2.length]; exact e5, q _ _ M3 g (r.step g.st) st4⟩
    · cases e⟩
end Mi
end
noncomputable section
namespace Mi
open PySem PySem.Spec L2
abbrev Fn := List D -> Sto -> Option (D × Sto)
def flD : Fl -> D
 | .nx => .non
 | .ret d => d
def A3 (N : Nat) (body : Ex) : Fn := fun ds S => (body (ds.map some ++ List.replicate (N - ds.length) none) S).map fun r => (flD r.1, r.2.2)
def Az {α : Type} (a : α) : α := Classical.choose (⟨a, rfl⟩ : ∃ x, x = a)
theorem TM {α : Type} (a : α) : Az a = a := Classical.choose_spec (⟨a, rfl⟩ : ∃ x, x = a)
def spD (K : PySem.W.Frag) (np : Nat) (f : Fn) : Sp := fun vs H Q _ => ∃ M ds S d S', ds.length = np /\ f ds S = some (d, S') /\ Ax K M H vs ds /\ StR K M S H /\ ∀ v H' M', Gr M H M' H' -> StR K M' S' H' -> EM K M' H' v d -> Q v H'
theorem Pb {α : Type} {xs : List α} {i : Nat} {x : α} (h : (xs.map some)[i]? = some (some x)) : xs[i]? = some x := by
 rw [List.getElem?_map] at h
 cases e : xs[i]? with
 | none => rw [e] at h; cases h
 | some y => rw [e] at h; cases h; rfl
theorem To {α : Type} {xs : List (Option α)} {k i : Nat} {x : α} (h : (xs ++ List.replicate k none)[i]? = some (some x)) : xs[i]? = some (some x) := by
 by_cases hi : i < xs.length
 ·rw [List.getElem?_append_left hi] at h; exact h
 ·rw [List.getElem?_append_right (by omega), List.getElem?_replicate] at h
  split at h <;> cases h
theorem Y1 {α : Type} {xs : List (Option α)} {k i : Nat} {x : Option α} (h : xs[i]? = some x) : (xs ++ List.replicate k none)[i]? = some x := by
 rw [List.getElem?_append_left (List.getElem?_eq_some_iff.mp h).1]; exact h
theorem EnR.args {K : PySem.W.Frag} {M : Ms} {H : Hp} {vs : List V} {ds : List D} (r : Ax K M H vs ds) (k : Nat) : EnR K M (ds.map some ++ List.replicate k none) (vs.map some ++ List.replicate k none) H := by
 refine ⟨by simp [r.length], fun i d e => ?_⟩
 obtain ⟨v, h1, h2⟩ := r.get (Pb (To e))
 exact ⟨v, Y1 (by rw [List.getElem?_map, h1]; rfl), h2⟩
section
variable {P : Program} {w : World} {K : PySem.W.Frag} {mg : Str -> Option Value} {base : Heap}
theorem aU {x : Str} {st : Stmt} {f : Addr} {fd : FuncData} {N ps : List Str} {k np : Nat} {b : Ex} (Fu : Fun K x x st f fd) (S : AQ N ps (AI st)) (hp : ps.length = np)
  (hb : ∀ (cdv : Value) (A : Around) (outer : List PySem.Env) (s : Shared) (H : Hp) (E : XK), NL k (A.deeper (PyProof.Rows.envOfC x (AI st) s.heap.objs.size f cdv)) -> DSs (XY CX0 P w K mg base N x (AI st) f cdv A outer s H E).nox (Gy st) b) :
  PU P w K mg base CX0 (k + 1) f fd ps (spD K np (Az (A3 N.length b))) := by
 rw [TM]
 refine Fu.ok S (fun vs H Q E h => ?_) (fun cdv A outer s H vs Q E hr h => ?_)
 ·obtain ⟨M, ds, S0, d, S', hl, _, r, _⟩ := h
  have := r.length
  omega
 ·obtain ⟨M, ds, S0, d, S', hl, e, r, st, q⟩ := h
  have hlen := r.length
  refine ⟨_, (hb cdv A outer s H E hr).pe, ?_⟩
  obtain ⟨⟨fl, E', S1⟩, e1, e⟩ := Mc e
  cases e
  refine ⟨M, _, S0, fl, E', S1, e1, ?_, st, ?_⟩
  ·rw [show L2.start N vs = vs.map some ++ List.replicate (N.length - ds.length) none from by unfold L2.start; rw [hlen]]
   exact .args r _
  ·cases fl with
   | nx => exact fun σ' H' M' g _ st' => q _ _ M' g st' .non
   | ret d => exact fun v H' M' g st' r' => q _ _ M' g st' r'
theorem Af {x : Str} {st : Stmt} {N ps : List Str} {k np : Nat} {b : Ex} (S : St.Src K mg x st) (sc : AQ N ps (AI st)) (hp : ps.length = np)
  (hbi : ∀ f fd, Fun K x x st f fd -> Binds K fd ps [])
  (hb : ∀ (f : Addr) (cdv : Value) (A : Around) (outer : List PySem.Env) (s : Shared) (H : Hp) (E : XK), NL k (A.deeper (PyProof.Rows.envOfC x (AI st) s.heap.objs.size f cdv)) -> DSs (XY CX0 P w K mg base N x (AI st) f cdv A outer s H E).nox (Gy st) b) :
  St.Dfn P w K mg base x (k + 1) ps (spD K np (Az (A3 N.length b))) := by
 obtain ⟨f, fd, Fu, hm⟩ := S.ex
 exact ⟨f, fd, hm, Fu.kp, hbi f fd Fu, aU Fu sc hp fun cdv A outer s H E hr => hb f cdv A outer s H E hr⟩
end
def AK (f : Fn) (fs : List Ev) : Ev := fun E S => (evs fs E S).bind fun r => f r.1 r.2
theorem YN {K : PySem.W.Frag} {np : Nat} {f : Fn} {fs : List Ev} {σ : Sg} {H : Hp} {Q : VK} (hn : fs.length = np) (h : tD K (AK f fs) σ H Q) : YC (spD K np f) [] E0 (tDs K fs) σ H Q := by
 obtain ⟨M, E, S, d, S', e, r, st, q⟩ := h
 obtain ⟨⟨ds, S1⟩, e1, e⟩ := Bg e
 refine Il e1 r st fun vs H1 M1 g1 st1 r1 => ?_
 rw [List.append_nil]
 exact ⟨M1, ds, S1, d, S', by rw [P7 e1]; exact hn, e, r1, st1, fun v H2 M2 g2 st2 r2 => q _ _ M2 (g1.trans g2) st2 r2⟩
theorem AH {X : Cx} {k np : Nat} {x : Str} {ps : List Str} {f : Fn} {e : Expr} {es : List Expr} {fs : List Ev} {p pos : Pos} (d : St.Dfn X.prog X.w X.K X.mg X.base x k ps (spD X.K np f)) (hr : NL k X.A) (hg : Gl X x) (ha : DEs X (e :: es) fs)
  (hn : fs.length = np := by rfl) (hdb : (x == ("__debug__" : Str)) = false := by decide) (he : starEach (e :: es) X.env = (false, eval e X.env) :: starEach es X.env := by rfl) (hpl : (backTo pos (starEach es X.env)).any (·.1) = false := by rfl) :
  DE X (.Call (.Name x p) (e :: es) [] pos) (AK f fs) := ⟨CN (St.dg d hr hg ha.pe hdb he hpl) fun σ H Q z => YN hn z⟩
abbrev Tf := D -> En -> Sto -> Option En
def tG (K : PySem.W.Frag) (t : Tf) : TG := fun v σ H Q => ∃ M d E E' S, t d E S = some E' /\ EnR K M E σ H /\ StR K M S H /\ EM K M H v d /\ ∀ σ', EnR K M E' σ' H -> Q σ' H
structure DG (X : Cx) (tg : Expr) (t : Tf) : Prop where
 pe : PG X tg (tG X.K t)
def tNm (i : Nat) : Tf := fun d E _ => some (E.set i (some d))
theorem Su {X : Cx} {e : Expr} {t t' : TG} (h : PG X e t) (m : ∀ v σ H Q, t' v σ H Q -> t v σ H Q) : PG X e t' := fun pins s σ H v u Q I r q => h pins s σ H v u Q I r (m _ _ _ _ q)
theorem Aj {X : Cx} {pos : Pos} (i : Nat) {x : Str} (hN : X.N.Nodup) (hi : X.N[i]? = some x := by rfl) (hx : Loc X.env.scope x := by first | exact Or.inl rfl | exact Or.inr rfl)
  (hf : X.fn x = true ∨ X.env.scope.names.lookup x = some .local := by first | exact .inl rfl | exact .inr rfl) : DG X (.Name x pos) (tNm i) := ⟨Su (Y9 hN hi hx hf) fun v σ H Q z => by
 obtain ⟨M, d, E, E', S, e, r, st, rd, q⟩ := z
 cases e
 exact q _ (r.put rd)⟩
def tMs : List Tf -> List D -> En -> Sto -> Option En
 | [], [], E, _ => some E
 | t :: ts, d :: ds, E, S => (t d E S).bind fun E1 => tMs ts ds E1 S
 | _, _, _, _ => none
def tTp (ts : List Tf) : Tf := fun d E S => match d with
 | .tup ds => tMs ts ds E S
 | .lst ds => tMs ts ds E S
 | .ref n => (Eu S n).bind fun ds => tMs ts ds E S
 | _ => none
def tGs (K : PySem.W.Frag) : List Tf -> TGs
 | [] => gD
 | t :: ts => bB (tG K t) (tGs K ts)
theorem Qb {K : PySem.W.Frag} {M : Ms} {H : Hp} {S : Sto} (st : StR K M S H) : ∀ {ts : List Tf} {ds : List D} {vs : List V} {E E' : En} {σ : Sg} {Q : Sg -> Hp -> Prop}, tMs ts ds E S = some E' -> EnR K M E σ H -> Ax K M H vs ds -> (∀ σ', EnR K M E' σ' H -> Q σ' H) -> tGs K ts vs σ H Q
  | [], [], _, E, E', σ, Q, e, r, rd, q => by
    cases e
    cases rd
    exact ⟨rfl, q _ r⟩
  | t :: ts, d :: ds, _, E, E', σ, Q, e, r, rd, q => by
    obtain ⟨E1, e1, e⟩ := Bg e
    cases rd with
    | cons h1 h2 => exact ⟨_, _, rfl, M, d, E, E1, S, e1, r, st, h1, fun σ1 r1 => Qb st e r1 h2 q⟩
  | [], _ :: _, _, E, E', σ, Q, e, r, rd, q => by cases e
  | _ :: _, [], _, E, E', σ, Q, e, r, rd, q => by cases e
theorem Nl : ∀ {ts : List Tf} {ds : List D} {E E' : En} {S : Sto}, tMs ts ds E S = some E' -> ds.length = ts.length
  | [], [], _, _, _, _ => rfl
  | t :: ts, d :: ds, E, E', S, e => by
    obtain ⟨E1, e1, e⟩ := Bg e
    simp [Nl e]
  | [], _ :: _, _, _, _, e => by cases e
  | _ :: _, [], _, _, _, e => by cases e
structure DGs (X : Cx) (es : List Expr) (ts : List Tf) : Prop where
 pe : PGs X es (tGs X.K ts)
theorem Bf {X : Cx} : DGs X [] [] := ⟨X8⟩
theorem AO {X : Cx} {e : Expr} {es : List Expr} {t : Tf} {ts : List Tf} (h : DG X e t) (g : DGs X es ts) (hs : (assignEach (e :: es) X.env).map (·.2) = assign e X.env :: (assignEach es X.env).map (·.2) := by rfl) : DGs X (e :: es) (t :: ts) := ⟨V8 h.pe g.pe hs⟩
theorem EF {X : Cx} {k : Nat} {es : List Expr} {ts : List Tf} {pos : Pos} (hc : X.calm = true) (h : DGs X es ts) (hn : (assignEach es X.env).length = ts.length := by rfl) (hst : (assignEach es X.env).findIdx? (·.1) = none := by rfl) : DG X (.Tuple es k pos) (tTp ts) := ⟨
  Su (aY hc h.pe hn hst) fun v σ H Q z => by
    obtain ⟨M, d, E, E', S, e, r, st, rd, q⟩ := z
    unfold tTp at e
    split at e
    · cases rd with
      | tup h1 h2 => exact ⟨_, _, rfl, .inl h1, by rw [h2.length]; exact Nl e, Qb st e r h2 q⟩
    · cases rd with
      | lst h1 n h2 => exact ⟨_, _, rfl, .inr h1, by rw [h2.length]; exact Nl e, Qb st e r h2 q⟩
    · obtain ⟨ds, e1, e⟩ := Bg e
      cases rd with
      | ref hc =>
        obtain ⟨xs, h1, h2⟩ := st.cell _ _ _ hc (FL e1)
        exact ⟨_, _, rfl, .inr h1, by rw [h2.length]; exact Nl e, Qb st e r h2 q⟩
    · cases e⟩
def NB (t : Tf) (k : Ev) : Ex := fun E S => (k E S).bind fun r => (t r.1 E r.2).map fun E' => (.nx, E', r.2)
theorem E8 {X : Cx} {tg e : Expr} {t : Tf} {k : Ev} {pos : Pos} (h : DE X e k) (hg : DG X tg t) (hs : swapsWithSole [tg] e pos.line X.env = pure false := by rfl) (hw : swappedStores [tg] e X.env = pure none := by rfl)
  (h1 : (assignEach [tg] X.env).map (·.2) = [assign tg X.env] := by rfl) : DS X (.Assign [tg] e pos) (NB t k) := ⟨GF (XS h.pe hg.pe hs hw h1) fun Dn σ H z => by
 obtain ⟨M, E, S, fl, E', S', e, r, st, q⟩ := z
 obtain ⟨⟨d, S1⟩, e1, e⟩ := Bg e
 obtain ⟨E2, e2, e⟩ := Mc e
 cases e
 exact ⟨M, E, S, d, S1, e1, r, st, fun v H1 M1 g1 st1 r1 => ⟨M1, d, E, _, S1, e2, r.step g1.st, st1, r1, fun σ' r2 => q _ _ M1 g1 r2 st1⟩⟩⟩
def SA (i j : Nat) (f g : Ev) : Ex := fun E S => (evs [f, g] E S).bind fun r => match r.1 with
 | [d, d'] => some (.nx, (E.set i (some d)).set j (some d'), r.2)
 | _ => none
theorem L3 {X : Cx} {i j : Nat} {x y : Str} {a b : Expr} {f g : Ev} {px py pt : Pos} {kt k2 : Nat} {pt2 pos : Pos} (hc : X.calm = true) (hN : X.N.Nodup) (hi : X.N[i]? = some x) (hj : X.N[j]? = some y) (hij : i ≠ j)
    (hx : X.env.scope.names.lookup x = some .local) (hy : X.env.scope.names.lookup y = some .local) (ha : DE X a f) (hb : DE X b g)
    (hw : swappedStores [.Tuple [.Name x px, .Name y py] kt pt] (.Tuple [a, b] k2 pt2) X.env = pure (some [x, y]) := by rfl)
    (hsa : starEach [a, b] X.env = (false, eval a X.env) :: starEach [b] X.env := by rfl) (hsb : starEach [b] X.env = (false, eval b X.env) :: starEach [] X.env := by rfl)
    (hs : swapsWithSole [.Tuple [.Name x px, .Name y py] kt pt] (.Tuple [a, b] k2 pt2) pos.line X.env = pure false := by rfl) : DS X (.Assign [.Tuple [.Name x px, .Name y py] kt pt] (.Tuple [a, b] k2 pt2) pos) (SA i j f g) := ⟨by
  refine GF (Zc hc hN hi hj hij hx hy (OD ha.pe (OD hb.pe TY hsb) hsa) hw hs) fun Dn σ H z => ?_
  obtain ⟨M, E, S, fl, E', S', e, r, st, q⟩ := z
  obtain ⟨⟨ds, S1⟩, e1, e⟩ := Bg e
  refine Il (K := X.K) (fs := [f, g]) e1 r st fun vs H1 M1 g1 st1 r1 => ?_
  dsimp only at e
  split at e
  · rename_i d d'
    cases e
    cases r1 with
    | cons h1 t =>
      cases t with
      | cons h2 t =>
        cases t
        exact ⟨_, _, rfl, q _ _ M1 g1 (((r.step g1.st).put h1).put h2) st1⟩
  · cases e⟩
def Pd : Ex := fun _ _ => none
theorem LD {X : Cx} {st : Stmt} : DS X st Pd := ⟨fun _ _ _ _ _ _ z => by
 obtain ⟨M, E, S, fl, E', S', e, _⟩ := z
 cases e⟩
end Mi
end
noncomputable section
namespace Mi
open PySem PySem.Spec L2
abbrev Gd := List (Nat × List D)
def gOk (gs : Gd) (S : Sto) : Prop := ∀ g ∈ gs, Eu S g.1 = some g.2
abbrev Sr := En -> Sto -> Option ((List D × Gd) × Sto)
structure aE (K : PySem.W.Frag) (M : Ms) (H : Hp) (gs : Gd) (ds : List D) (J : It) : Prop where
 go : ∀ (i : Nat) (H2 : Hp) (M2 : Ms) (S2 : Sto), Sp1 M H M2 H2 -> StR K M2 S2 H2 -> gOk gs S2 -> i < ds.length -> J.go i H2
 stop : ∀ (i : Nat) (H2 : Hp) (M2 : Ms) (S2 : Sto), Sp1 M H M2 H2 -> StR K M2 S2 H2 -> gOk gs S2 -> ds.length ≤ i -> J.stop i H2
 yld : ∀ (i : Nat) (H2 : Hp) (M2 : Ms) (S2 : Sto) (x : V) (H3 : Hp) (d : D), Sp1 M H M2 H2 -> StR K M2 S2 H2 -> gOk gs S2 -> ds[i]? = some d -> J.yld i H2 x H3 -> (∀ a o, H2 a = some o -> H3 a = some o) /\ EM K M2 H3 x d
def tI (K : PySem.W.Frag) (s : Sr) : TI := fun σ H R => ∃ M E S ds gs S', s E S = some ((ds, gs), S') /\ EnR K M E σ H /\ StR K M S H /\ ∀ J H' M', Gr M H M' H' -> StR K M' S' H' -> aE K M' H' gs ds J -> R J H'
structure DI (X : Cx) (tg iter : Expr) (s : Sr) : Prop where
 pe : PI X tg iter (tI X.K s)
theorem Nb {X : Cx} {tg e : Expr} {t t' : TI} (h : PI X tg e t) (m : ∀ σ H R, t' σ H R -> t σ H R) : PI X tg e t' := fun pins s σ H R I q => h pins s σ H R I (m _ _ _ q)
def iM (K : PySem.W.Frag) (tl : TE) : TI := fun σ H R => tl σ H fun x H1 => ∃ a, x = .ref a /\ (((∃ xs, SqL K H1 a xs) /\ R (Itl K a) H1) ∨ ((∃ xs, SqT K H1 a xs) /\ R (Itt K a) H1))
theorem Zu {X : Cx} {tg l : Expr} {tl : TE} (hl : PE X l tl) : PI X tg l (iM X.K tl) := by
 intro pins s σ H R I h
 refine thn (hl pins s σ H _ I h) fun v s1 ⟨x, H1, I1, r1, q1⟩ => ?_
 obtain ⟨a, e, q1⟩ := q1
 subst e
 cases r1
 rcases q1 with ⟨⟨xs, hq⟩, q⟩ | ⟨⟨xs, hq⟩, q⟩
 ·obtain ⟨its, rv, p, hz⟩ := I1.list hq
  refine wpAny_pyIter_list p.isList ?_
  refine ⟨s1.heap.objs.size, [s1.heap.objs.size], _, _, H1, rfl, I1.kept (t' := s1.toks) fun b o e => Heap.get?_push_of_some _ e, Sj a _, ⟨_, Heap.get?_push_size _ rfl, rfl, rfl⟩, fun b hb => ?_, q⟩
  have e : b = s1.heap.objs.size := by simpa using hb
  subst e
  exact I1.fpOk (Nat.le_refl _) (I1.hok.fresh (Nat.le_refl _))
 ·obtain ⟨its, rv, p, hz⟩ := I1.tuple hq
  refine wpAny_pyIter_tuple (show s1.heap.IsTuple a its.toArray from p) ?_
  refine ⟨s1.heap.objs.size, [s1.heap.objs.size], _, _, H1, rfl, I1.kept (t' := s1.toks) fun b o e => Heap.get?_push_of_some _ e, Ro a _, ⟨_, Heap.get?_push_size _ rfl, rfl, rfl⟩, fun b hb => ?_, q⟩
  have e : b = s1.heap.objs.size := by simpa using hb
  subst e
  exact I1.fpOk (Nat.le_refl _) (I1.hok.fresh (Nat.le_refl _))
theorem Ax.get' {K : PySem.W.Frag} {M : Ms} {H : Hp} {vs : List V} {ds : List D} {i : Nat} (h : Ax K M H vs ds) (hi : i < ds.length) : ∃ x, vs[i]? = some x := by
 have := h.length
 exact ⟨vs[i], List.getElem?_eq_getElem (by omega)⟩
structure SqF (K : PySem.W.Frag) (M : Ms) (H : Hp) (gs : Gd) (k : Bool) (a : Addr) (ds : List D) : Prop where
 keep : ∀ (H2 : Hp) (M2 : Ms) (S2 : Sto), Sp1 M H M2 H2 -> StR K M2 S2 H2 -> gOk gs S2 -> ∃ xs, (if k = true then SqT K H2 a xs else SqL K H2 a xs) /\ Ax K M2 H2 xs ds
def sqD (S : Sto) : D -> Option (List D × Gd)
 | .tup ds => some (ds, [])
 | .lst ds => some (ds, [])
 | .ref n => (Eu S n).map fun ds => (ds, [(n, ds)])
 | .scr ns => some (ns.map .int, [])
 | _ => none
theorem Qz {K : PySem.W.Frag} {M : Ms} {H : Hp} {S : Sto} {v : V} {d : D} {ds : List D} {gs : Gd} (st : StR K M S H) (h : EM K M H v d) (e : sqD S d = some (ds, gs)) : ∃ k a, v = .ref a /\ SqF K M H gs k a ds := by
  cases h with
  | tup h r => cases e; exact ⟨true, _, rfl, ⟨fun H2 M2 S2 g _ _ => ⟨_, g.sqT h, r.step g⟩⟩⟩
  | lst h n r => cases e; exact ⟨false, _, rfl, ⟨fun H2 M2 S2 g _ _ => ⟨_, SqL.of (g.keep _ _ h n), r.step g⟩⟩⟩
  | scr h =>
    cases e
    refine ⟨false, _, rfl, ⟨fun H2 M2 S2 g _ _ => ⟨_, ?_, K8⟩⟩⟩
    rcases h with ⟨h, n⟩ | h
    · rcases h with h | ⟨o, h⟩
      · exact .inl (.inl (g.keep _ _ h n))
      · exact .inl (.inr ⟨o, g.keep _ _ h n⟩)
    · exact .inr h
  | ref h =>
    obtain ⟨es, e1, e⟩ := Mc e
    cases e
    refine ⟨false, _, rfl, ⟨fun H2 M2 S2 g st2 ok => ?_⟩⟩
    obtain ⟨xs, h1, h2⟩ := st2.cell _ _ _ (OX g.pre h) (FL (ok _ (List.mem_singleton.mpr rfl)))
    exact ⟨xs, SqL.of h1, h2⟩
  | non => cases e
  | bl b => cases e
  | int b => cases e
  | str b => cases e
  | ty b => cases e
  | dct h n r => cases e
theorem fC {K : PySem.W.Frag} {M : Ms} {H : Hp} {gs : Gd} {k : Bool} {a : Addr} {ds : List D} (h : SqF K M H gs k a ds) : aE K M H gs ds (if k = true then Itt K a else Itl K a) := by
  cases k with
  | true =>
    exact {
      go := fun i H2 M2 S2 g st ok hi => let ⟨xs, h1, h2⟩ := h.keep H2 M2 S2 g st ok; let ⟨x, hx⟩ := h2.get' hi; ⟨xs, x, h1, hx⟩
      stop := fun i H2 M2 S2 g st ok hi => let ⟨xs, h1, h2⟩ := h.keep H2 M2 S2 g st ok; ⟨xs, h1, by have := h2.length; omega⟩
      yld := fun i H2 M2 S2 x H3 d g st ok hd hy => by
        obtain ⟨xs, h1, h2⟩ := h.keep H2 M2 S2 g st ok
        obtain ⟨rfl, hy⟩ := hy
        refine ⟨fun _ _ e => e, ?_⟩
        have hx := hy xs h1
        obtain ⟨x', h3, h4⟩ := h2.get hd
        rw [hx] at h3; cases h3
        exact h4 }
  | false =>
    exact {
      go := fun i H2 M2 S2 g st ok hi => let ⟨xs, h1, h2⟩ := h.keep H2 M2 S2 g st ok; let ⟨x, hx⟩ := h2.get' hi; ⟨xs, x, h1, hx⟩
      stop := fun i H2 M2 S2 g st ok hi => let ⟨xs, h1, h2⟩ := h.keep H2 M2 S2 g st ok; ⟨xs, h1, by have := h2.length; omega⟩
      yld := fun i H2 M2 S2 x H3 d g st ok hd hy => by
        obtain ⟨xs, h1, h2⟩ := h.keep H2 M2 S2 g st ok
        obtain ⟨rfl, hy⟩ := hy
        refine ⟨fun _ _ e => e, ?_⟩
        have hx := hy xs h1
        obtain ⟨x', h3, h4⟩ := h2.get hd
        rw [hx] at h3; cases h3
        exact h4 }
def FT (f : Ev) : Sr := fun E S => (f E S).bind fun r => (sqD r.2 r.1).map fun p => (p, r.2)
theorem Nt {S : Sto} {d : D} {ds : List D} {gs : Gd} (e : sqD S d = some (ds, gs)) : gOk gs S := by
  cases d <;> first | (cases e; done) | skip
  all_goals first
    | (cases e; intro g hg; cases hg; done)
    | (obtain ⟨es, e1, e⟩ := Mc e
       cases e
       intro g hg
       rw [List.mem_singleton.mp hg]
       exact e1)
theorem CG {X : Cx} {tg e : Expr} {f : Ev} (h : DE X e f) : DI X tg e (FT f) := ⟨Nb (Zu h.pe) fun σ H R z => by
 obtain ⟨M, E, S, ds, gs, S', e, r, st, q⟩ := z
 obtain ⟨⟨d, S1⟩, e1, e⟩ := Bg e
 obtain ⟨⟨ds', gs'⟩, e2, e⟩ := Mc e
 cases e
 refine ⟨M, E, S, d, S1, e1, r, st, fun v H1 M1 g1 st1 r1 => ?_⟩
 obtain ⟨k, a, rfl, sq⟩ := Qz st1 r1 e2
 obtain ⟨xs, hs, _⟩ := sq.keep H1 M1 S1 (Gr.refl st1.mo).st st1 (Nt e2)
 have it := fC sq
 refine ⟨a, rfl, ?_⟩
 cases k with
 | true => exact .inr ⟨⟨xs, hs⟩, q _ _ M1 g1 st1 it⟩
 | false => exact .inl ⟨⟨xs, hs⟩, q _ _ M1 g1 st1 it⟩⟩
def GA (lo : Int) (n : Nat) : List D := (List.range n).map fun (i : Nat) => .int (lo + (i : Int))
theorem Zr {K : PySem.W.Frag} {M : Ms} {H : Hp} {lo : Int} {n : Nat} : aE K M H [] (GA lo n) (Itr lo n) where
  go := fun i H2 M2 S2 g st ok hi => by
    have : i < n := by unfold GA at hi; simpa using hi
    exact this
  stop := fun i H2 M2 S2 g st ok hi => by
    have : n ≤ i := by unfold GA at hi; simpa using hi
    exact this
  yld := fun i H2 M2 S2 x H3 d g st ok hd hy => by
    obtain ⟨rfl, rfl⟩ := hy
    refine ⟨fun _ _ e => e, ?_⟩
    unfold GA at hd
    rw [List.getElem?_map] at hd
    cases e : (List.range n)[i]? with
    | none => rw [e] at hd; cases hd
    | some j =>
      rw [e] at hd
      cases hd
      have : j = i := by
        obtain ⟨h1, h2⟩ := List.getElem?_eq_some_iff.mp e
        simpa using h2.symm
      subst this
      exact .int _
def OZ (fs : List Ev) : Sr := fun E S => (evs fs E S).bind fun r => match r.1 with
 | [.int j] => if (decide (-(2 ^ 62) ≤ j) && decide (j < 2 ^ 62)) = true then some ((GA 0 j.toNat, []), r.2) else none
 | [.int i, .int j] => if (decide (-(2 ^ 62) ≤ i) && decide (i < 2 ^ 62) && decide (-(2 ^ 62) ≤ j) && decide (j < 2 ^ 62)) = true then some ((GA i (j - i).toNat, []), r.2) else none
 | _ => none
theorem Q3 {K : PySem.W.Frag} {M : Ms} {H : Hp} {vs : List V} {j : Int} (h : Ax K M H vs [.int j]) : vs = [.int j] := by
 cases h with
 | cons h t => cases t; cases h; rfl
theorem E5 {X : Cx} {tg a : Expr} {o : Ev} {p pos : Pos} (hg : Gl X "range") (hm : X.mg "range" = none) (ha : DEs X [a] [o]) (hs : starEach [a] X.env = [(false, eval a X.env)] := by rfl) : DI X tg (.Call (.Name "range" p) [a] [] pos) (OZ [o]) := ⟨
 Nb (TF hg hm ha.pe hs) fun σ H R z => by
  obtain ⟨M, E, S, ds, gs, S', e, r, st, q⟩ := z
  obtain ⟨⟨ws, S1⟩, e1, e⟩ := Bg e
  have hl := P7 e1
  refine Il e1 r st fun vs H1 M1 g1 st1 r1 => ?_
  dsimp only at e
  split at e
  ·split at e
   ·rename_i j hk
    rw [Bool.and_eq_true] at hk
    cases e
    exact ⟨j, Q3 r1, of_decide_eq_true hk.1, of_decide_eq_true hk.2, q _ _ M1 g1 st1 Zr⟩
   ·cases e
  ·simp at hl
  ·cases e⟩
open Classical in
def K4 (gs : Gd) (t : Tf) (body : Ex) : List D -> En -> Sto -> Option (Fl × En × Sto)
  | [], E, S => if gOk gs S then some (.nx, E, S) else none
  | d :: ds, E, S => if gOk gs S then (t d E S).bind fun E1 => (body E1 S).bind fun r => match r.1 with
    | .nx => K4 gs t body ds r.2.1 r.2.2
    | .ret w => some (.ret w, r.2)
    else none
def KG (s : Sr) (t : Tf) (body : Ex) : Ex := fun E S => (s E S).bind fun r => K4 r.1.2 t body r.1.1 E r.2
theorem Ov {α : Type} {xs : List α} {i : Nat} {x : α} {r : List α} (h : xs.drop i = x :: r) : xs[i]? = some x /\ xs.drop (i + 1) = r /\ i < xs.length := by
 have hi : i < xs.length := by
  by_cases hi : i < xs.length
  ·exact hi
  ·rw [List.drop_eq_nil_of_le (by omega)] at h; cases h
 rw [List.drop_eq_getElem_cons hi] at h
 cases h
 exact ⟨List.getElem?_eq_getElem hi, rfl, hi⟩
theorem EG {X : Cx} {tg iter : Expr} {body : List Stmt} {s : Sr} {t : Tf} {b : Ex} {pos : Pos} (hp : PassesOwn (model X.prog X.w) X.A X.env X.xe) (hc : X.calm = true) (hi : DI X tg iter s) (hg : DG X tg t) (hb : DSs X body b)
    (hs : ∀ x, foldedSetIterable iter X.env x = pure x := by intro _; rfl) : DS X (.For tg iter body [] pos) (KG s t b) := ⟨GF (aI hp hc hi.pe hg.pe hb.pe hs) fun Dn σ H z => by
  obtain ⟨M, E, S, fl, E', S', e, r, st, q⟩ := z
  obtain ⟨⟨⟨ds, gs⟩, S1⟩, e1, e⟩ := Bg e
  dsimp only at e
  refine ⟨M, E, S, ds, gs, S1, e1, r, st, fun J H1 M1 g1 st1 it => ?_⟩
  refine ⟨fun i m σ' H' => m = ds.length - i /\ ∃ E2 S2 M2, K4 gs t b (ds.drop i) E2 S2 = some (fl, E', S') /\ Gr M1 H1 M2 H' /\ EnR X.K M2 E2 σ' H' /\ StR X.K M2 S2 H', ⟨_, rfl, E, S1, M1, e, .refl st1.mo, r.step g1.st, st1⟩, fun i m σ2 H2 hW => ?_⟩
  obtain ⟨rfl, E2, S2, M2, e2, g2, r2, st2⟩ := hW
  cases ed : ds.drop i with
  | nil =>
    rw [ed] at e2
    unfold K4 at e2
    split at e2
    · rename_i ok
      cases e2
      left
      exact ⟨it.stop i H2 M2 _ g2.st st2 ok (List.drop_eq_nil_iff.mp ed), q _ _ M2 (g1.trans g2) r2 st2⟩
    · cases e2
  | cons d rest =>
    obtain ⟨d1, d2, d3⟩ := Ov ed
    rw [ed] at e2
    unfold K4 at e2
    split at e2
    · rename_i ok
      obtain ⟨E3, e3, e2⟩ := Bg e2
      obtain ⟨⟨f4, E4, S4⟩, e4, e2⟩ := Bg e2
      dsimp only at e2
      right
      refine ⟨it.go i H2 M2 S2 g2.st st2 ok d3, fun σ' H' => ∃ m', m' < ds.length - i /\ (m' = ds.length - (i + 1) /\ ∃ E2 S2 M2, K4 gs t b (ds.drop (i + 1)) E2 S2 = some (fl, E', S') /\ Gr M1 H1 M2 H' /\ EnR X.K M2 E2 σ' H' /\ StR X.K M2 S2 H'), fun σ' H' z => z, fun x H3 hy => ?_⟩
      obtain ⟨k3, rx⟩ := it.yld i H2 M2 S2 x H3 d g2.st st2 ok d1 hy
      have g3 : Gr M2 H2 M2 H3 := .grow st2.mo k3
      refine ⟨M2, d, E2, E3, S2, e3, r2.step g3.st, st2.grow k3, rx, fun σ4 r4 => ?_⟩
      refine ⟨M2, E3, S2, f4, E4, S4, e4, r4, st2.grow k3, ?_⟩
      split at e2
      · exact fun σ6 H6 M6 g6 r6 st6 => ⟨_, by omega, rfl, E4, S4, M6, by rw [d2]; exact e2, (g2.trans g3).trans g6, r6, st6⟩
      · cases e2
        exact fun v H6 M6 g6 st6 r6 => q _ _ M6 (((g1.trans g2).trans g3).trans g6) st6 r6
    · cases e2⟩
def HN (c : Ev) (b : Ex) : Nat -> En -> Sto -> Option (Fl × En × Sto)
  | 0, _, _ => none
  | k + 1, E, S => (c E S).bind fun r => match r.1 with
    | .bl true => (b E r.2).bind fun p => match p.1 with
      | .nx => HN c b k p.2.1 p.2.2
      | .ret w => some (.ret w, p.2)
    | .bl false => some (.nx, E, r.2)
    | _ => none
def Oi (fuel : En -> Nat) (c : Ev) (b : Ex) : Ex := fun E S => HN c b (fuel E) E S
theorem Q9 {X : Cx} {c : Expr} {body : List Stmt} {k : Ev} {b : Ex} {pos : Pos} (fuel : En -> Nat) (hp : PassesOwn (model X.prog X.w) X.A X.env X.xe) (hc : DT X c k) (hb : DSs X body b) : DS X (.While c body [] pos) (Oi fuel k b) := ⟨
  GF (WJ hp hc.pe hb.pe) fun Dn σ H z => by
    obtain ⟨M, E, S, fl, E', S', e, r, st, q⟩ := z
    refine ⟨fun m σ' H' => ∃ E2 S2 M2, HN k b m E2 S2 = some (fl, E', S') /\ Gr M H M2 H' /\ EnR X.K M2 E2 σ' H' /\ StR X.K M2 S2 H', ⟨fuel E, E, S, M, e, .refl st.mo, r, st⟩, fun m σ2 H2 hW => ?_⟩
    obtain ⟨E2, S2, M2, e2, g2, r2, st2⟩ := hW
    cases m with
    | zero => cases e2
    | succ m =>
      obtain ⟨⟨w3, S3⟩, e3, e2⟩ := Bg e2
      dsimp only at e2
      split at e2
      · obtain ⟨⟨f4, E4, S4⟩, e4, e2⟩ := Bg e2
        refine ⟨M2, E2, S2, true, S3, e3, r2, st2, fun H3 M3 g3 st3 => ?_⟩
        refine YE ⟨fun σ' H' => ∃ m', m' < m + 1 /\ ∃ E2 S2 M2, HN k b m' E2 S2 = some (fl, E', S') /\ Gr M H M2 H' /\ EnR X.K M2 E2 σ' H' /\ StR X.K M2 S2 H', fun σ' H' z => z, ?_⟩
        refine ⟨M3, E2, S3, f4, E4, S4, e4, r2.step g3.st, st3, ?_⟩
        dsimp only at e2
        split at e2
        · exact fun σ5 H5 M5 g5 r5 st5 => ⟨m, by omega, E4, S4, M5, e2, (g2.trans g3).trans g5, r5, st5⟩
        · cases e2
          exact fun v H5 M5 g5 st5 r5 => q _ _ M5 ((g2.trans g3).trans g5) st5 r5
      · cases e2
        refine ⟨M2, _, S2, false, _, e3, r2, st2, fun H3 M3 g3 st3 => ?_⟩
        refine X7 ?_
        exact q _ _ M3 (g2.trans g3) (r2.step g3.st) st3
      · cases e2⟩
def Rz (i : Nat) : En -> Nat := fun E => match at? E i with
 | some (.int j) => j.natAbs + 2
 | _ => 0
end Mi
end
noncomputable section
namespace Mi
open PySem PySem.Spec L2
section
variable {K : PySem.W.Frag} {M M' M2 : Ms} {H H' H2 : Hp} {S : Sto}
structure GrX (M : Ms) (H : Hp) (M' : Ms) (H' : Hp) : Prop where
 pre : M.cel <+: M'.cel
 fresh : ∀ a, a ∈ M'.cel -> a ∈ M.cel ∨ H a = none
 keep : ∀ a o, H a = some o -> a ∉ M.cel -> H' a = some o
 some : ∀ a, H a ≠ none -> H' a ≠ none
theorem GrX.none (g : GrX M H M' H') {a : Addr} (h : H' a = none) : H a = none := by
 cases e : H a with
 | none => rfl
 | some o => exact absurd h (g.some a (by rw [e]; intro z; cases z))
theorem Gr.x (g : Gr M H M' H') : GrX M H M' H' := ⟨g.pre, g.fresh, g.keep, g.some⟩
theorem GrX.trans (h : GrX M H M' H') (g : GrX M' H' M2 H2) : GrX M H M2 H2 :=
 ⟨h.pre.trans g.pre, fun a z => (g.fresh a z).elim (h.fresh a) fun z => .inr (h.none z), fun a o e n => g.keep a o (h.keep a o e n) (fun z => by
  rcases h.fresh a z with z | z
  ·exact n z
  ·rw [e] at z; cases z), fun a e => g.some a (h.some a e)⟩
theorem StR.tmp_on (r : StR K M S H) {a : Addr} (e : H a = none) : StR K ⟨M.cel, a :: M.tmp⟩ S (upd H a (.lst [])) /\ GrX M H ⟨M.cel, a :: M.tmp⟩ (upd H a (.lst [])) /\ Sp1 M H ⟨M.cel, a :: M.tmp⟩ (upd H a (.lst [])) := by
 have k : ∀ b o, H b = some o -> upd H a (.lst []) b = some o := IQ e
 have na : ¬ M.mem a := fun z => r.mo.some z e
 have s1 : Sp1 M H ⟨M.cel, a :: M.tmp⟩ (upd H a (.lst [])) := ⟨r.mo, List.prefix_rfl, fun b z => by
  rcases z with z | z
  ·exact .inl (.inl z)
  ·rcases List.mem_cons.mp z with z | z
   ·subst z; exact .inr e
   ·exact .inl (.inr z), fun b o eb _ => k b o eb⟩
 refine ⟨⟨fun b z => ?_, r.nd, fun b hb z => ?_, r.len, fun n b c h1 h2 => ?_⟩, ⟨List.prefix_rfl, fun b z => .inl z, fun b o eb _ => k b o eb, fun b eb z => ?_⟩, s1⟩
 ·by_cases h : b = a
  ·subst h; exact .inl ⟨[], CQ⟩
  ·rw [BF h]
   refine r.mo b ?_
   rcases z with z | z
   ·exact .inl z
   ·rcases List.mem_cons.mp z with z | z
    ·exact absurd z h
    ·exact .inr z
 ·rcases List.mem_cons.mp hb with hb | hb
  ·subst hb; exact na (.inl z)
  ·exact r.nt b hb z
 ·have q := r.cell n b c h1 h2
  cases c with
  | lst ds => obtain ⟨xs, e, rr⟩ := q; exact ⟨xs, k _ _ e, rr.step s1⟩
  | dct ds => obtain ⟨xs, e, rr⟩ := q; exact ⟨xs, k _ _ e, rr.step s1⟩
 ·cases h : H b with
  | none => exact eb h
  | some o => rw [k b o h] at z; cases z
theorem StR.tmp_app (r : StR K M S H) {a : Addr} {ys : List V} (ha : a ∈ M.tmp) : StR K M S (upd H a (.lst ys)) /\ Sp1 M H M (upd H a (.lst ys)) := by
 have s1 : Sp1 M H M (upd H a (.lst ys)) := ⟨r.mo, List.prefix_rfl, fun b z => .inl z, fun b o eb nb => by rw [BF (fun z => nb (by rw [z]; exact .inr ha))]; exact eb⟩
 refine ⟨⟨fun b z => ?_, r.nd, r.nt, r.len, fun n b c h1 h2 => ?_⟩, s1⟩
 ·by_cases h : b = a
  ·subst h; exact .inl ⟨ys, CQ⟩
  ·rw [BF h]; exact r.mo b z
 ·have hb : b ≠ a := fun z => r.nt a ha (by rw [← z]; exact List.mem_of_getElem? h1)
  have q := r.cell n b c h1 h2
  cases c with
  | lst ds => obtain ⟨xs, e, rr⟩ := q; exact ⟨xs, by rw [BF hb]; exact e, rr.step s1⟩
  | dct ds => obtain ⟨xs, e, rr⟩ := q; exact ⟨xs, by rw [BF hb]; exact e, rr.step s1⟩
theorem StR.tmp_off {c : List Addr} {t : List Addr} {a : Addr} {xs : List V} {ds : List D} {cf : Bool} {d : D} {S' : Sto} (r : StR K ⟨c, a :: t⟩ S H) (nt : a ∉ t) (e : H a = some (.lst xs)) (rr : Ax K ⟨c, a :: t⟩ H xs ds) (ef : fin cf (.own ds) S = some (d, S')) :
    ∃ c', StR K ⟨c', t⟩ S' H /\ EM K ⟨c', t⟩ H (.ref a) d /\ c <+: c' /\ (∀ b ∈ c', b ∈ c ∨ b = a) := by
  have nc : a ∉ c := r.nt a List.mem_cons_self
  cases cf with
  | false =>
    cases ef
    have s1 : Sp1 ⟨c, a :: t⟩ H ⟨c, t⟩ H := ⟨r.mo, List.prefix_rfl, fun b z => .inl (z.imp id (List.mem_cons_of_mem _)), fun _ _ e _ => e⟩
    refine ⟨c, ⟨fun b z => r.mo b (z.imp id (List.mem_cons_of_mem _)), r.nd, fun b hb => r.nt b (List.mem_cons_of_mem _ hb), r.len, fun n b cl h1 h2 => ?_⟩, .lst e (fun z => z.elim nc nt) (rr.step s1), List.prefix_rfl, fun b z => .inl z⟩
    have q := r.cell n b cl h1 h2
    cases cl with
    | lst ds => obtain ⟨xs, e, rr⟩ := q; exact ⟨xs, e, rr.step s1⟩
    | dct ds => obtain ⟨xs, e, rr⟩ := q; exact ⟨xs, e, rr.step s1⟩
  | true =>
    cases ef
    have s1 : Sp1 ⟨c, a :: t⟩ H ⟨c ++ [a], t⟩ H := ⟨r.mo, List.prefix_append _ _, fun b z => by
      rcases z with z | z
      · rcases List.mem_append.mp z with z | z
        · exact .inl (.inl z)
        · exact .inl (.inr (by rw [List.mem_singleton.mp z]; exact List.mem_cons_self))
      · exact .inl (.inr (List.mem_cons_of_mem _ z)), fun _ _ e _ => e⟩
    have hl : c.length = S.length := r.len
    refine ⟨c ++ [a], ⟨fun b z => ?_, ?_, fun b hb z => ?_, by simp [hl], fun n b cl h1 h2 => ?_⟩, .ref ?_, List.prefix_append _ _, fun b z => ?_⟩
    · refine r.mo b ?_
      rcases z with z | z
      · rcases List.mem_append.mp z with z | z
        · exact .inl z
        · exact .inr (by rw [List.mem_singleton.mp z]; exact List.mem_cons_self)
      · exact .inr (List.mem_cons_of_mem _ z)
    · rw [List.nodup_append]
      refine ⟨r.nd, by simp, fun x hx y hy z => ?_⟩
      simp at hy; subst hy
      exact nc (by rw [← z]; exact hx)
    · rcases List.mem_append.mp z with z | z
      · exact r.nt b (List.mem_cons_of_mem _ hb) z
      · rw [List.mem_singleton.mp z] at hb; exact nt hb
    · by_cases h : n < S.length
      · rw [List.getElem?_append_left (by rw [hl]; exact h)] at h1
        rw [List.getElem?_append_left h] at h2
        have q := r.cell n b cl h1 h2
        cases cl with
        | lst ds => obtain ⟨xs, e, rr⟩ := q; exact ⟨xs, e, rr.step s1⟩
        | dct ds => obtain ⟨xs, e, rr⟩ := q; exact ⟨xs, e, rr.step s1⟩
      · have hm : n = S.length := by
          have := (List.getElem?_eq_some_iff.mp h2).1
          simp at this; omega
        subst hm
        rw [List.getElem?_append_right (by rw [hl]; exact Nat.le_refl _)] at h1
        rw [List.getElem?_append_right (Nat.le_refl _)] at h2
        rw [hl] at h1
        simp at h1 h2
        subst h1 h2
        exact ⟨xs, e, rr.step s1⟩
    · rw [← hl]; exact List.getElem?_concat_length
    · rcases List.mem_append.mp z with z | z
      · exact .inl z
      · exact .inr (List.mem_singleton.mp z)
end
open Classical in
def CJ (gs : Gd) (t : Tf) (c : Ev) (f : Ev) : List D -> List D -> En -> Sto -> Option (List D × Sto)
  | [], acc, _, S => if gOk gs S then some (acc, S) else none
  | d :: ds, acc, E, S => if gOk gs S then (if acc.length < sizeLine then (t d E S).bind fun E1 => (c E1 S).bind fun r => match r.1 with
      | .bl true => (f E1 r.2).bind fun p => CJ gs t c f ds (acc ++ [p.1]) E1 p.2
      | .bl false => CJ gs t c f ds acc E1 r.2
      | _ => none
    else none) else none
def Bx : Ev := fun _ S => some (.bl true, S)
def Pr (cap : List Nat) (m : Nat) (E : En) : En := cap.map (at? E) ++ List.replicate m none
def ND (cf : Bool) (cap : List Nat) (m : Nat) (s : Sr) (t : Tf) (c : Ev) (f : Ev) : Ev := fun E S => (s E S).bind fun r => (CJ r.1.2 t c f r.1.1 [] (Pr cap m E) r.2).bind fun q => fin cf (.own q.1) q.2
noncomputable abbrev CZ := ND false
noncomputable abbrev Qw := ND true
def ixC (cap : List Nat) (m : Nat) : List (Option Nat) := cap.map some ++ List.replicate m none
theorem EnR.cap {K : PySem.W.Frag} {M : Ms} {E : En} {σ : Sg} {H : Hp} (r : EnR K M E σ H) (cap : List Nat) (m : Nat) : EnR K M (Pr cap m E) (sig (ixC cap m) σ) H := by
  unfold Pr sig ixC
  refine ⟨by simp, fun i d e => ?_⟩
  have h1 := To e
  rw [List.getElem?_map] at h1
  cases e1 : cap[i]? with
  | none => rw [e1] at h1; cases h1
  | some j =>
    rw [e1] at h1
    have h2 : at? E j = some d := by simpa using h1
    obtain ⟨v, hv, rd⟩ := r.val j d (at?_some h2)
    refine ⟨v, ?_, rd⟩
    have hi : i < cap.length := (List.getElem?_eq_some_iff.mp e1).1
    rw [List.map_append, List.getElem?_append_left (by simpa using hi), List.getElem?_map, List.getElem?_map, e1]
    show some ((σ[j]?).join) = some (some v)
    rw [hv]
    rfl
theorem TH {K : PySem.W.Frag} {cf : Bool} {cap : List Nat} {m : Nat} {s : Sr} {t : Tf} {c f : Ev} {σ : Sg} {H : Hp} {Q : VK} (h : tD K (ND cf cap m s t c f) σ H Q) : X0 (ixC cap m) (tI K s) (tG K t) (tDT K c) (tD K f) σ H Q := by
  obtain ⟨M, E, S, d, S', e, r, st, q⟩ := h
  obtain ⟨⟨⟨ds, gs⟩, S1⟩, e1, e⟩ := Bg e
  obtain ⟨⟨accf, Sf⟩, e3, e⟩ := Bg e
  dsimp only at e e3
  refine ⟨M, E, S, ds, gs, S1, e1, r, st, fun J H1 M1 g1 st1 it A0 hD => ?_⟩
  obtain ⟨st0, gx0, s0⟩ := st1.tmp_on hD
  have nt : A0 ∉ M1.tmp := fun z => st1.mo.some (.inr z) hD
  refine ⟨fun i mm σ' H' ys => mm = ds.length - i /\ ∃ Ei Si Mi acc, CJ gs t c f (ds.drop i) acc Ei Si = some (accf, Sf) /\ GrX M1 H1 Mi H' /\ Mi.tmp = A0 :: M1.tmp /\ EnR K Mi Ei σ' H' /\ StR K Mi Si H' /\ H' A0 = some (.lst ys) /\ Ax K Mi H' ys acc,
    ⟨_, rfl, _, S1, _, [], e3, gx0, rfl, ((r.step g1.st).step s0).cap cap m, st0, CQ, .nil⟩, fun i mm σ2 H2 ys hW => ?_⟩
  obtain ⟨rfl, Ei, Si, Mi, acc, ec, gx, ht, r2, st2, hy, ry⟩ := hW
  have sp : Sp1 M1 H1 Mi H2 := ⟨st1.mo, gx.pre, fun a z => by
    rcases z with z | z
    · exact (gx.fresh a z).imp .inl id
    · rw [ht] at z
      rcases List.mem_cons.mp z with z | z
      · subst z; exact .inr hD
      · exact .inl (.inr z), fun a o eo no => gx.keep a o eo fun z => no (.inl z)⟩
  refine ⟨hy, ?_⟩
  cases ed : ds.drop i with
  | nil =>
    rw [ed] at ec
    unfold CJ at ec
    split at ec
    · rename_i ok
      cases ec
      left
      obtain ⟨ci, ti⟩ := Mi
      have ht' : ti = A0 :: M1.tmp := ht
      subst ht'
      obtain ⟨c', st', rd', pr', sub'⟩ := st2.tmp_off nt hy ry e
      refine ⟨it.stop i H2 _ _ sp st2 ok (List.drop_eq_nil_iff.mp ed), q _ _ ⟨c', M1.tmp⟩ (g1.trans ⟨st1.mo, gx.pre.trans pr', rfl, fun a z => ?_, gx.keep, gx.some⟩) st' rd'⟩
      rcases sub' a z with z | z
      · exact gx.fresh a z
      · subst z; exact .inr hD
    · cases ec
  | cons d rest =>
    obtain ⟨d1, d2, d3⟩ := Ov ed
    rw [ed] at ec
    unfold CJ at ec
    split at ec
    · rename_i ok
      split at ec
      · rename_i hz
        obtain ⟨E3, e4, ec⟩ := Bg ec
        obtain ⟨⟨w5, S5⟩, e5, ec⟩ := Bg ec
        right
        refine ⟨it.go i H2 Mi Si sp st2 ok d3, by rw [ry.length]; exact hz, fun x H3 hyl => ?_⟩
        obtain ⟨k3, rx⟩ := it.yld i H2 Mi Si x H3 d sp st2 ok d1 hyl
        have g3 : Gr Mi H2 Mi H3 := .grow st2.mo k3
        have st3 := st2.grow k3
        refine ⟨Mi, d, Ei, E3, Si, e4, r2.step g3.st, st3, rx, fun σ4 r4 => ?_⟩
        have hA : A0 ∈ Mi.tmp := by rw [ht]; exact List.mem_cons_self
        have hy3 : H3 A0 = some (.lst ys) := k3 _ _ hy
        have ry3 : Ax K Mi H3 ys acc := ry.step g3.st
        have fin : ∀ {E6 : En} {S6 : Sto} {M6 : Ms} {H6 : Hp} {zs : List V} {acc6 : List D}, CJ gs t c f rest acc6 E6 S6 = some (accf, Sf) -> GrX M1 H1 M6 H6 -> M6.tmp = A0 :: M1.tmp -> EnR K M6 E6 σ4 H6 -> StR K M6 S6 H6 -> H6 A0 = some (.lst zs) -> Ax K M6 H6 zs acc6 ->
            ∃ m', m' < ds.length - i /\ (m' = ds.length - (i + 1) /\ ∃ Ei Si Mi acc, CJ gs t c f (ds.drop (i + 1)) acc Ei Si = some (accf, Sf) /\ GrX M1 H1 Mi H6 /\ Mi.tmp = A0 :: M1.tmp /\ EnR K Mi Ei σ4 H6 /\ StR K Mi Si H6 /\ H6 A0 = some (.lst zs) /\ Ax K Mi H6 zs acc) :=
          fun {E6 S6 M6 H6 zs acc6} ec g6 t6 r6 st6 h6 y6 => ⟨_, by omega, rfl, E6, S6, M6, acc6, by rw [d2]; exact ec, g6, t6, r6, st6, h6, y6⟩
        dsimp only at ec
        split at ec
        · obtain ⟨⟨w7, S7⟩, e7, ec⟩ := Bg ec
          refine ⟨Mi, E3, Si, true, S5, e5, r4, st3, fun H5 M5 g5 st5 => ?_⟩
          refine YE ?_
          refine ⟨M5, E3, S5, w7, S7, e7, r4.step g5.st, st5, fun y H7 M7 g7 st7 d7 => ?_⟩
          have nA : ∀ {M6 : Ms} {H6 : Hp} {S6 : Sto}, StR K M6 S6 H6 -> A0 ∈ M6.tmp -> A0 ∉ M6.cel := fun r6 h6 => r6.nt A0 h6
          have hA5 : A0 ∈ M5.tmp := by rw [g5.tmp]; exact hA
          have hA7 : A0 ∈ M7.tmp := by rw [g7.tmp]; exact hA5
          have hy5 : H5 A0 = some (.lst ys) := g5.keep _ _ hy3 (nA st3 hA)
          have hy7 : H7 A0 = some (.lst ys) := g7.keep _ _ hy5 (nA st5 hA5)
          have ry7 : Ax K M7 H7 ys acc := (ry3.step g5.st).step g7.st
          refine ⟨hy7, ?_⟩
          obtain ⟨st8, s8⟩ := st7.tmp_app (ys := ys ++ [y]) hA7
          have gx7 : GrX M1 H1 M7 H7 := ((gx.trans g3.x).trans g5.x).trans g7.x
          have gx8 : GrX M1 H1 M7 (upd H7 A0 (.lst (ys ++ [y]))) := ⟨gx7.pre, gx7.fresh, fun a o eo no => by
            rw [BF (fun z => by subst z; rw [hD] at eo; cases eo)]
            exact gx7.keep a o eo no, fun a ea => by
            by_cases h : a = A0
            · subst h; rw [CQ]; intro z; cases z
            · rw [BF h]; exact gx7.some a ea⟩
          exact fin ec gx8 (by rw [g7.tmp, g5.tmp]; exact ht) (((r4.step g5.st).step g7.st).step s8) st8 CQ ((ry7.append (.cons d7 .nil)).step s8)
        · refine ⟨Mi, E3, Si, false, S5, e5, r4, st3, fun H5 M5 g5 st5 => ?_⟩
          refine X7 ?_
          exact fin ec ((gx.trans g3.x).trans g5.x) (by rw [g5.tmp]; exact ht) (r4.step g5.st) st5 (g5.keep _ _ hy3 (st3.nt A0 hA)) (ry3.step g5.st)
        · cases ec
      · cases ec
    · cases ec
structure DTs (X : Cx) (ifs : List Expr) (c : Ev) : Prop where
 pe : PTs X ifs (tDT X.K c)
theorem Vw {X : Cx} {e : List Expr} {t t' : TT} (h : PTs X e t) (m : ∀ σ H Q, t' σ H Q -> t σ H Q) : PTs X e t' := fun pins s σ H Q I q => h pins s σ H Q I (m _ _ _ q)
theorem B3 {X : Cx} : DTs X [] Bx := ⟨Vw Yq fun σ H Q z => by
 obtain ⟨M, E, S, b, S', e, r, st, q⟩ := z
 cases e
 exact q _ M (.refl st.mo) st⟩
theorem Hj {X : Cx} {c : Expr} {f : Ev} (h : DT X c f) : DTs X [c] f := ⟨Y4 h.pe⟩
section
variable {X : Cx} {N' : List Str} {cf : Bool} {cap : List Nat} {m : Nat} {scope : Scope} {elt tg iter : Expr} {ifs : List Expr} {pos : Pos} {s : Sr} {t : Tf} {c f : Ev}
def Blk (X : Cx) (N' : List Str) (scope : Scope) (tg : Expr) (ifs : List Expr) (elt : Expr) (t : Tf) (c f : Ev) : Prop :=
 ∀ (s : Shared) (H : Hp) (fp : List Addr), DG (Hc X N' scope s H fp) tg t /\ DTs (Hc X N' scope s H fp) ifs c /\ DE (Hc X N' scope s H fp) elt f
theorem B4 (cap : List Nat) (m : Nat) (N' : List Str) (hc : X.calm = true) (S : Ab X.N X.env.scope N' (ixC cap m) scope) (hi : DI X tg iter s) (hb : Blk X N' scope tg ifs elt t c f) (hs : ∀ x, foldedSetIterable iter X.env x = pure x := by intro _; rfl) :
  DE X (.ListComp elt [⟨tg, iter, ifs, 0⟩] scope pos) (ND cf cap m s t c f) := ⟨
 CN (Yg (g := tG X.K t) (tc := tDT X.K c) (te := tD X.K f) hc S hi.pe (fun s H fp => ⟨(hb s H fp).1.pe, (hb s H fp).2.1.pe, (hb s H fp).2.2.pe⟩) hs) fun _ _ _ h => TH h⟩
theorem Dg {i : Nat} {y : Str} {py spos : Pos} (cap : List Nat) (m : Nat) (N' : List Str) (hc : X.calm = true) (hN : X.N.Nodup) (hi' : X.N[i]? = some y) (hx : X.env.scope.names.lookup y = some .local) (S : Ab X.N X.env.scope N' (ixC cap m) scope) (hi : DI X tg iter s) (hb : Blk X N' scope tg ifs elt t c f)
  (hsw : swapsWith (.ListComp elt [⟨tg, iter, ifs, 0⟩] scope pos) (some (.Name y py)) spos.line X.env = pure true := by rfl) (hs : ∀ x, foldedSetIterable iter X.env x = pure x := by intro _; rfl) :
  DS X (.Assign [.Name y py] (.ListComp elt [⟨tg, iter, ifs, 0⟩] scope pos) spos) (Bs i (ND cf cap m s t c f)) := ⟨
 GF (RM (g := tG X.K t) (tc := tDT X.K c) (te := tD X.K f) hc hN hi' hx S hi.pe (fun s H fp => ⟨(hb s H fp).1.pe, (hb s H fp).2.1.pe, (hb s H fp).2.2.pe⟩) hsw hs) fun Dn σ H z => by
  obtain ⟨M, E, S, fl, E', S', e, r, st, q⟩ := z
  obtain ⟨⟨d, S1⟩, e1, e⟩ := Mc e
  cases e
  exact TH ⟨M, E, S, d, S1, e1, r, st, fun v H1 M1 g1 st1 r1 => q _ _ M1 g1 ((r.step g1.st).put r1) st1⟩⟩
end
def Jv {α : Type} (xs : List α) (lo hi : Option Int) : List α := (xs.drop (HT.sIx xs.length 0 lo)).take (HT.sIx xs.length xs.length hi - HT.sIx xs.length 0 lo)
theorem Sq {K : PySem.W.Frag} {M : Ms} {H : Hp} {xs : List V} {ds : List D} (h : Ax K M H xs ds) (lo hi : Option Int) : Ax K M H (Xe xs lo hi) (Jv ds lo hi) := by
 unfold Xe Jv
 rw [h.length]
 exact (h.drop _).take _
theorem Tj {α : Type} {xs : List α} {lo hi : Option Int} (h1 : HT.sIx xs.length 0 lo = 0) (h2 : HT.sIx xs.length xs.length hi = xs.length) : Jv xs lo hi = xs := by
 unfold Jv
 rw [h1, h2]
 simp
def wSl (lo hi : Option Int) : Op1 := fun w => match w with
 | .val (.tup ds) => some (.val (.tup (Jv ds lo hi)))
 | .val (.str z) => if z.length ≤ sizeLine then some (.val (.str (Txt.slice z lo hi))) else none
 | w => (asL w).map fun ds => .own (Jv ds lo hi)
def gW (K : PySem.W.Frag) : V -> Option Int -> Option Int -> Hp -> VK -> Prop := fun x lo hi H Q => ∃ M w r, wSl lo hi w = some r /\ MOk M H /\ Sh K M H x w /\ ∀ v H', Nw K M H H' v r -> Q v H'
theorem Zs {X : Cx} : SlR X (fun x lo hi H Q => ∃ z, x = .str z /\ z.length ≤ sizeLine /\ Q (.str (Txt.slice z lo hi)) H) := by
  intro pins s σ H x v vl vu lo hi sl Q I rx hs pl pu h
  obtain ⟨z, rfl, hz, q⟩ := h
  obtain ⟨t, rfl⟩ := rx
  have fin : ∀ t' k, EP X pins σ Q (.str (Txt.slice z lo hi) t') { s with toks := k } := fun t' k => ⟨.str _, H, I.tok k, ⟨t', rfl⟩, q⟩
  cases pl with
  | none =>
    cases pu with
    | none => exact ⟨"str", _, PySem.F.slot_str_getitem.lookup, typeIs_str _ _ _, wpAny_getItem_str_slice (l := none) (u := none) (st := none) hs rfl (post_val_or_str ⟨Nat.le_trans (Txt.slice_le z _ _) hz, fin⟩)⟩
    | int j u => exact ⟨"str", _, PySem.F.slot_str_getitem.lookup, typeIs_str _ _ _, wpAny_getItem_str_slice (l := none) (u := some (j, u)) (st := none) hs rfl (post_val_or_str ⟨Nat.le_trans (Txt.slice_le z _ _) hz, fin⟩)⟩
  | int i u' =>
    cases pu with
    | none => exact ⟨"str", _, PySem.F.slot_str_getitem.lookup, typeIs_str _ _ _, wpAny_getItem_str_slice (l := some (i, u')) (u := none) (st := none) hs rfl (post_val_or_str ⟨Nat.le_trans (Txt.slice_le z _ _) hz, fin⟩)⟩
    | int j u => exact ⟨"str", _, PySem.F.slot_str_getitem.lookup, typeIs_str _ _ _, wpAny_getItem_str_slice (l := some (i, u')) (u := some (j, u)) (st := none) hs rfl (post_val_or_str ⟨Nat.le_trans (Txt.slice_le z _ _) hz, fin⟩)⟩
theorem dI {X : Cx} : SlR X (gW X.K) := by
  intro pins s σ H x v vl vu lo hi sl Q I rx hs pl pu h
  obtain ⟨M, w, r, e, mo, sh, q⟩ := h
  unfold wSl at e
  split at e
  · rename_i ds
    cases e
    cases sh with
    | tup hx rr =>
      rename_i a xs
      have hl := rr.length
      by_cases hw : HT.sIx xs.length 0 lo = 0 /\ HT.sIx xs.length xs.length hi = xs.length
      · refine St.aG pins s σ H _ v vl vu lo hi sl Q I rx hs pl pu ⟨a, xs, rfl, hx, hw.1, hw.2, ?_⟩
        have ew : Jv ds lo hi = ds := Tj (by rw [← hl]; exact hw.1) (by rw [← hl]; exact hw.2)
        rw [ew] at q
        exact q _ _ (.same mo (.tup hx rr))
      · exact ZV pins s σ H _ v vl vu lo hi sl Q I rx hs pl pu ⟨a, xs, rfl, hx, hw, fun p hp => q _ _ (.tup mo hp (Sq rr lo hi))⟩
  · split at e
    · cases e
      cases sh
      exact Zs pins s σ H _ v vl vu lo hi sl Q I rx hs pl pu ⟨_, rfl, by assumption, q _ _ (.same mo (.str _))⟩
    · cases e
  · cases e1 : asL w with
    | none => rw [e1] at e; cases e
    | some ds =>
      rw [e1] at e
      cases e
      obtain ⟨a, xs, rfl, h1, rr⟩ := sh.l e1
      exact YR pins s σ H _ v vl vu lo hi sl Q I rx hs pl pu ⟨a, xs, rfl, .of h1, fun p hp => q _ _ (.lst mo hp (Sq rr lo hi))⟩
def ZJ : Wv -> Option Int
 | .val (.int i) => some i
 | _ => none
def Ju (l h : Bool) : OpN := fun ws => match l, h, ws with
 | false, false, [a] => wSl none none a
 | true, false, [a, b] => (ZJ b).bind fun i => wSl (some i) none a
 | false, true, [a, b] => (ZJ b).bind fun i => wSl none (some i) a
 | true, true, [a, b, c] => (ZJ b).bind fun i => (ZJ c).bind fun j => wSl (some i) (some j) a
 | _, _, _ => none
theorem Tc {K : PySem.W.Frag} {M : Ms} {H : Hp} {v : V} {w : Wv} {i : Int} (s : Sh K M H v w) (e : ZJ w = some i) : v = .int i := by
  cases w with
  | own ds => cases e
  | val d =>
    cases d <;> first | (cases e; done) | skip
    cases e; cases s; rfl
section
variable {X : Cx} {e lo hi : Expr} {oe ol oh : Ev} {c : Bool} {pos p2 : Pos}
theorem J1 (h : DE X e oe) (hl : DE X lo ol) : DE X (.Subscript e (.Slice (some lo) none none p2) pos) (QQ c (Ju true false) [oe, ol]) := ⟨CN (Nn dI h.pe (ON hl.pe) UD) fun σ H Q z => by
  obtain ⟨M0, E, S0, w, S1, e, r, st, q⟩ := z
  have z : tD X.K oe σ H fun x H1 => tD X.K ol σ H1 fun y H2 => rN X.K (Ju true false) [x, y] H2 Q := NX (Q := Q) e r st q
  refine Ir z fun x H1 z1 => Ir z1 fun y H2 z2 => ?_
  obtain ⟨M, ws, w', e1, mo, sh, q1⟩ := z2
  cases sh with
  | cons h1 t =>
    cases t with
    | cons h2 t =>
      cases t
      obtain ⟨i, ei, e1⟩ := Bg e1
      exact ⟨i, Tc h2 ei, M, _, w', e1, mo, h1, q1⟩⟩
theorem HW (h : DE X e oe) (hh : DE X hi oh) : DE X (.Subscript e (.Slice none (some hi) none p2) pos) (QQ c (Ju false true) [oe, oh]) := ⟨CN (Nn dI h.pe UD (ON hh.pe)) fun σ H Q z => by
  obtain ⟨M0, E, S0, w, S1, e, r, st, q⟩ := z
  have z : tD X.K oe σ H fun x H1 => tD X.K oh σ H1 fun y H2 => rN X.K (Ju false true) [x, y] H2 Q := NX (Q := Q) e r st q
  refine Ir z fun x H1 z1 => Ir z1 fun y H2 z2 => ?_
  obtain ⟨M, ws, w', e1, mo, sh, q1⟩ := z2
  cases sh with
  | cons h1 t =>
    cases t with
    | cons h2 t =>
      cases t
      obtain ⟨i, ei, e1⟩ := Bg e1
      exact ⟨i, Tc h2 ei, M, _, w', e1, mo, h1, q1⟩⟩
theorem UO {K : PySem.W.Frag} {M : Ms} {H : Hp} {S : Sto} {v : V} {d : D} {i : Int} (r : EM K M H v d) (e : ZJ (dr S d) = some i) : v = .int i := by
 cases r <;> first | (cases e; done) | skip
 ·cases e; rfl
 ·rename_i n h
  unfold dr at e
  dsimp only at e
  split at e <;> cases e
theorem Sv (h : DE X e oe) (hl : DE X lo ol) (hh : DE X hi oh) : DE X (.Subscript e (.Slice (some lo) (some hi) none p2) pos) (QQ c (Ju true true) [oe, ol, oh]) := ⟨CN (Nn dI h.pe (ON hl.pe) (ON hh.pe)) fun σ H Q z => by
 obtain ⟨M0, E, S0, w, S1, e, r, st, q⟩ := z
 obtain ⟨⟨ds, S2⟩, e1, e⟩ := Bg e
 obtain ⟨w2, e2, e⟩ := Bg e
 obtain ⟨⟨d1, Sa⟩, ea, e1⟩ := Bg e1
 obtain ⟨⟨ds1, Sb⟩, eb, e1⟩ := Mc e1
 cases e1
 obtain ⟨⟨d2, Sc⟩, ec, eb⟩ := Bg eb
 obtain ⟨⟨ds2, Sd⟩, ed, eb⟩ := Mc eb
 cases eb
 obtain ⟨⟨d3, Se⟩, ee, ed⟩ := Bg ed
 obtain ⟨⟨ds3, Sf⟩, ef, ed⟩ := Mc ed
 cases ed
 cases ef
 obtain ⟨i, ei, e2⟩ := Bg e2
 obtain ⟨j, ej, e2⟩ := Bg e2
 refine ⟨M0, E, S0, d1, Sa, ea, r, st, fun x H1 M1 g1 st1 r1 => ?_⟩
 refine ⟨M1, E, Sa, d2, Sc, ec, r.step g1.st, st1, fun y H2 M2 g2 st2 r2 => ⟨i, ?_, ?_⟩⟩
 ·exact UO r2 ei
 refine ⟨M2, E, Sc, d3, Se, ee, (r.step g1.st).step g2.st, st2, fun u H3 M3 g3 st3 r3 => ⟨j, ?_, ?_⟩⟩
 ·exact UO r3 ej
 refine ⟨M3, _, w2, e2, st3.mo, Yd st3 ((r1.step g2.st).step g3.st), fun v H4 n => ?_⟩
 obtain ⟨M4, g4, st4, d4⟩ := n.fin st3 e
 exact q v H4 M4 (((g1.trans g2).trans g3).trans g4) st4 d4⟩
structure RP (K : PySem.W.Frag) (mg : Str -> Option Value) (x : Str) (d : D) : Prop where
 ex : ∃ v u, mg x = some u /\ RelV v u /\ ∀ M H, EM K M H v d
theorem ME {x : Str} {d : D} (c : RP X.K X.mg x d) (hg : Gl X x) (hd : (x == ("__debug__" : Str)) = false := by decide) : DE X (.Name x pos) (eC d) := ⟨by
 obtain ⟨v, u, h1, h2, h3⟩ := c.ex
 exact CN (YY hg h1 h2 hd) fun σ H Q z => by
  obtain ⟨M0, E, S0, w, S1, e, rr, st, q⟩ := z
  cases e
  exact q _ _ M0 (.refl st.mo) st (h3 _ _)⟩
theorem aN {x : Str} {T : String} (hg : Gl X x) (hm : X.mg x = none) (hv : bootBuiltins x = some (.type T)) (hn : x ≠ "__name__" := by decide) (hd : (x == ("__debug__" : Str)) = false := by decide) : DE X (.Name x pos) (eC (.ty T)) :=
 Pk (YT (v := .ty T) hg hm hv rfl hn hd) fun _ _ _ => .ty T
structure iX (K : PySem.W.Frag) (w : World) (mg : Str -> Option Value) (x : Str) (tbl : List (Str × D)) : Prop where
 ex : ∃ a kvs, mg x = some (.ref a) /\ TopD K w a kvs /\ ∀ k, (tbl.lookup k = none -> kvs.lookup k = none) /\ ∀ d, tbl.lookup k = some d -> ∃ v, kvs.lookup k = some v /\ ∀ M H, EM K M H v d
end
def QE : Nat -> List D -> List D
 | _, [] => []
 | k, d :: ds => .tup [.int k, d] :: QE (k + 1) ds
theorem LA : ∀ {ds : List D} {k i : Nat}, (QE k ds)[i]? = (ds[i]?).map fun d => .tup [.int ((k + i : Nat) : Int), d]
  | [], k, i => by simp [QE]
  | d :: ds, k, 0 => by simp [QE]
  | d :: ds, k, i + 1 => by
    simp only [QE, List.getElem?_cons_succ]
    rw [LA, show k + 1 + i = k + (i + 1) by omega]
theorem OQ : ∀ {ds : List D} {k : Nat}, (QE k ds).length = ds.length
 | [], k => rfl
 | d :: ds, k => by simp [QE, OQ (ds := ds)]
theorem SqF.sqB {K : PySem.W.Frag} {M : Ms} {H : Hp} {gs : Gd} {k : Bool} {a : Addr} {ds : List D} (h : SqF K M H gs k a ds) {H2 : Hp} {M2 : Ms} {S2 : Sto} (g : Sp1 M H M2 H2) (st : StR K M2 S2 H2) (ok : gOk gs S2) : ∃ xs, SqB K H2 k a xs /\ Ax K M2 H2 xs ds := by
 obtain ⟨xs, h1, h2⟩ := h.keep H2 M2 S2 g st ok
 refine ⟨xs, ?_, h2⟩
 cases k with
 | true => exact h1
 | false => exact h1
theorem aX {K : PySem.W.Frag} {M : Ms} {H : Hp} {gs : Gd} {k : Bool} {a : Addr} {ds : List D} (h : SqF K M H gs k a ds) : aE K M H gs (QE 0 ds) (ItE K k a) where
 go := fun i H2 M2 S2 g st ok hi => by
  rw [OQ] at hi
  obtain ⟨xs, h1, h2⟩ := h.sqB g st ok
  obtain ⟨x, hx⟩ := h2.get' hi
  exact ⟨xs, x, h1, hx⟩
 stop := fun i H2 M2 S2 g st ok hi => by
  rw [OQ] at hi
  obtain ⟨xs, h1, h2⟩ := h.sqB g st ok
  exact ⟨xs, h1, by have := h2.length; omega⟩
 yld := fun i H2 M2 S2 x H3 d g st ok hd hy => by
  obtain ⟨xs, h1, h2⟩ := h.sqB g st ok
  obtain ⟨p, y, hp, rfl, hy, rfl⟩ := hy
  have hx := hy xs h1
  rw [LA] at hd
  obtain ⟨d0, e, hd⟩ := Mc hd
  subst hd
  obtain ⟨x', h3, h4⟩ := h2.get e
  rw [hx] at h3; cases h3
  have k3 := IQ (o := .tup [.int i, y]) hp
  refine ⟨k3, .tup (.of CQ) (.cons ?_ (.cons (h4.step (Gr.grow st.mo k3).st) .nil))⟩
  rw [Nat.zero_add]
  exact .int _
def ZH (f : Ev) : Sr := fun E S => (f E S).bind fun r => (sqD r.2 r.1).map fun p => ((QE 0 p.1, p.2), r.2)
theorem Sx {X : Cx} {a : Expr} {f : Ev} {p pos tp : Pos} {elts : List Expr} {k : Nat} (hg : Gl X "enumerate") (hm : X.mg "enumerate" = none) (ha : DE X a f) (hs : starEach [a] X.env = [(false, eval a X.env)] := by rfl) : DI X (.Tuple elts k tp) (.Call (.Name "enumerate" p) [a] [] pos) (ZH f) := ⟨
 Nb (VS hg hm (OD ha.pe TY (by rw [hs]; rfl)) hs) fun σ H R z => by
  obtain ⟨M, E, S, ds, gs, S', e, r, st, q⟩ := z
  obtain ⟨⟨d, S1⟩, e1, e⟩ := Bg e
  obtain ⟨⟨ds', gs'⟩, e2, e⟩ := Mc e
  cases e
  refine ⟨M, E, S, d, S1, e1, r, st, fun v H1 M1 g1 st1 r1 => ?_⟩
  obtain ⟨k, a, rfl, sq⟩ := Qz st1 r1 e2
  obtain ⟨xs, hs, _⟩ := sq.sqB (Gr.refl st1.mo).st st1 (Nt e2)
  exact ⟨k, a, rfl, ⟨xs, hs⟩, q _ _ M1 g1 st1 (aX sq)⟩⟩
def MY (ds es : List D) : List D := (ds.zip es).map fun p => .tup [p.1, p.2]
theorem VC {ds es : List D} {i : Nat} {d : D} (h : (MY ds es)[i]? = some d) : ∃ x y, ds[i]? = some x /\ es[i]? = some y /\ d = .tup [x, y] := by
 unfold MY at h
 simp only [List.getElem?_map, Option.map_eq_some_iff] at h
 obtain ⟨⟨x, y⟩, h1, h2⟩ := h
 rw [List.getElem?_zip_eq_some] at h1
 exact ⟨x, y, h1.1, h1.2, h2.symm⟩
theorem LK {ds es : List D} : (MY ds es).length = min ds.length es.length := by simp [MY]
theorem SqF.more {K : PySem.W.Frag} {M : Ms} {H : Hp} {gs gs' : Gd} {k : Bool} {a : Addr} {ds : List D} (h : SqF K M H gs k a ds) (s : ∀ g ∈ gs, g ∈ gs') : SqF K M H gs' k a ds := ⟨fun H2 M2 S2 g st ok => h.keep H2 M2 S2 g st fun x hx => ok x (s x hx)⟩
theorem av {K : PySem.W.Frag} {M : Ms} {H : Hp} {gs : Gd} {k m : Bool} {a b : Addr} {ds es : List D} (h : SqF K M H gs k a ds) (h' : SqF K M H gs m b es) : aE K M H gs (MY ds es) (Itz K k a m b) where
 go := fun i H2 M2 S2 g st ok hi => by
  rw [LK] at hi
  obtain ⟨xs, h1, r⟩ := h.sqB g st ok
  obtain ⟨ys, h2, r'⟩ := h'.sqB g st ok
  obtain ⟨x, hx⟩ := r.get' (show i < ds.length by omega)
  obtain ⟨y, hy⟩ := r'.get' (show i < es.length by omega)
  exact ⟨xs, ys, x, y, h1, h2, hx, hy⟩
 stop := fun i H2 M2 S2 g st ok hi => by
  rw [LK] at hi
  obtain ⟨xs, h1, r⟩ := h.sqB g st ok
  obtain ⟨ys, h2, r'⟩ := h'.sqB g st ok
  have := r.length
  have := r'.length
  exact ⟨xs, ys, h1, h2, by omega⟩
 yld := fun i H2 M2 S2 x H3 d g st ok hd hy => by
  obtain ⟨xs, h1, r⟩ := h.sqB g st ok
  obtain ⟨ys, h2, r'⟩ := h'.sqB g st ok
  obtain ⟨p, x1, y1, hp, rfl, q1, q2, rfl⟩ := hy
  obtain ⟨d1, d2, e1, e2, rfl⟩ := VC hd
  have hx := q1 xs h1
  have hy := q2 ys h2
  obtain ⟨x', h3, h4⟩ := r.get e1
  obtain ⟨y', h5, h6⟩ := r'.get e2
  rw [hx] at h3; cases h3
  rw [hy] at h5; cases h5
  have k3 := IQ (o := .tup [x1, y1]) hp
  exact ⟨k3, .tup (.of CQ) (.cons (h4.step (Gr.grow st.mo k3).st) (.cons (h6.step (Gr.grow st.mo k3).st) .nil))⟩
def Xq (f g : Ev) : Sr := fun E S => (evs [f, g] E S).bind fun r => match r.1 with
 | [d, e] => (sqD r.2 d).bind fun p => (sqD r.2 e).map fun q => ((MY p.1 q.1, p.2 ++ q.2), r.2)
 | _ => none
theorem PL {X : Cx} {a b : Expr} {f g : Ev} {p pos tp : Pos} {elts : List Expr} {k : Nat} (hg : Gl X "zip") (hm : X.mg "zip" = none) (ha : DE X a f) (hb : DE X b g) (hs : starEach [a, b] X.env = [(false, eval a X.env), (false, eval b X.env)] := by rfl) (hs2 : starEach [b] X.env = [(false, eval b X.env)] := by rfl) : DI X (.Tuple elts k tp) (.Call (.Name "zip" p) [a, b] [] pos) (Xq f g) := ⟨
  Nb (Zn hg hm (AA ha (AA hb AE hs2) (by rw [hs, hs2])).pe hs hs2) fun σ H R z => by
    obtain ⟨M, E, S, ds, gs, S', e, r, st, q⟩ := z
    obtain ⟨⟨ws, S1⟩, e1, e⟩ := Bg e
    refine Il (fs := [f, g]) e1 r st fun vs H1 M1 g1 st1 r1 => ?_
    dsimp only at e
    split at e
    · obtain ⟨⟨ds1, gs1⟩, eu, e⟩ := Bg e
      obtain ⟨⟨ds2, gs2⟩, ee, e⟩ := Mc e
      cases e
      cases r1 with
      | cons h1 t =>
        cases t with
        | cons h2 t =>
          cases t
          obtain ⟨k1, a1, rfl, s1⟩ := Qz st1 h1 eu
          obtain ⟨k2, a2, rfl, s2⟩ := Qz st1 h2 ee
          obtain ⟨xs, hxs, _⟩ := s1.sqB (Gr.refl st1.mo).st st1 (Nt eu)
          obtain ⟨ys, hys, _⟩ := s2.sqB (Gr.refl st1.mo).st st1 (Nt ee)
          exact ⟨_, _, _, _, rfl, ⟨_, hxs⟩, ⟨_, hys⟩, q _ _ M1 g1 st1 (av (s1.more fun x hx => List.mem_append_left _ hx) (s2.more fun x hx => List.mem_append_right _ hx))⟩
    · cases e⟩
def intD : D -> Option Int
 | .int i => some i
 | _ => none
def K1 (ds : List D) : Option (List Int) := ds.mapM intD
theorem MF {K : PySem.W.Frag} {M : Ms} {H : Hp} : ∀ {vs : List V} {ds : List D} {ns : List Int}, Ax K M H vs ds -> K1 ds = some ns -> vs = ns.map V.int
  | _, _, ns, .nil, e => by cases e; rfl
  | _, _, ns, .cons (d := d) (ds := ds) h t, e => by
    unfold K1 at e
    rw [List.mapM_cons] at e
    cases e1 : intD d with
    | none => rw [e1] at e; cases e
    | some b =>
      rw [e1] at e
      cases e2 : ds.mapM intD with
      | none => rw [e2] at e; cases e
      | some cs =>
        rw [e2] at e
        cases e
        have hd : d = .int b := by
          cases d <;> first | (cases e1; done) | skip
          cases e1; rfl
        subst hd
        cases h
        rw [List.map_cons, ← MF t e2]
theorem UP {X : Cx} (hc : X.calm = true) : FH X (.builtin "sum") (fun xs H Q => ∃ (p : Addr) (ns : List Int), xs = [.ref p] /\ SqL X.K H p (ns.map V.int) /\ Q (.int ns.sum) H) := by
 intro pins s σ H xs us Q I r h
 obtain ⟨p, ns, rfl, hp, q⟩ := h
 obtain ⟨u, rfl, ru⟩ := r.one
 cases (show u = Value.ref p from ru)
 obtain ⟨its, rv, pl, hz⟩ := I.list hp
 have hd : X.A.in1.handled = none := I.ok.hd hc
 refine call_sum_walkG (wpAny_pyIter_list pl.isList ?_)
 have hlen : ns.length = its.length := by have := rv.length; simpa using this
 have hpl := pl.isList
 have hlt : p < s.heap.objs.size := by
  obtain ⟨o, ho, _⟩ := hpl
  exact Heap.lt_size ho
 refine ⟨s.heap.objs.size, _, _, its.length, _, _, fun i => ns.getD i 0, rfl, St.Ri (vs := its) hd (Nat.ne_of_lt hlt), ⟨⟨_, Heap.get?_push_size _ rfl, rfl, rfl⟩, ?_⟩, ?_, ?_, ?_⟩
 ·obtain ⟨o, ho, r⟩ := hpl
  exact ⟨o, Heap.get?_push_of_some _ ho, r⟩
 ·intro b hb
  rw [Heap.size_push]
  simp at hb
  rcases hb with h | h
  ·rw [h]; exact Nat.lt_succ_self _
  ·rw [h]; exact Nat.lt_succ_of_lt hlt
 ·intro i v hv
  have hi : i < its.length := (List.getElem?_eq_some_iff.mp hv).1
  have hb : (ns.map V.int)[i]? = some (.int (ns.getD i 0)) := by
   rw [List.getElem?_map, List.getElem?_eq_getElem (by omega)]
   simp [List.getD_eq_getElem?_getD, List.getElem?_eq_getElem (show i < ns.length by omega)]
  obtain ⟨u, hu, ru⟩ := rv.get hb
  rw [hv] at hu
  cases hu
  exact ru
 ·intro h' tk t' hk
  have e : preSum (fun i => ns.getD i 0) its.length = ns.sum := by
   rw [← hlen, St.MC (Nat.le_refl _), List.take_of_length_le (Nat.le_refl _)]
  rw [e]
  exact ⟨.int _, H, I.kept (t' := tk) fun b o eb => hk b o (by simp; exact Nat.ne_of_lt (Heap.lt_size eb)) (Heap.get?_push_of_some _ eb), ⟨_, rfl⟩, q⟩
def TR : Op1 := fun w => (asL w).bind fun ds => (K1 ds).map fun ns => .val (.int ns.sum)
theorem Hm {X : Cx} (hc : X.calm = true) : FH X (.builtin "sum") (rN X.K (o1 TR)) := by
 intro pins s σ H xs us Q I r h
 obtain ⟨M, ws, w, e, mo, sh, q⟩ := h
 obtain ⟨v, w1, rfl, rfl, s1, e1⟩ := J3 sh e
 obtain ⟨ds, e2, e1⟩ := Bg e1
 obtain ⟨ns, e3, e1⟩ := Mc e1
 cases e1
 obtain ⟨a, ys, rfl, h3, h4⟩ := s1.l e2
 exact UP hc pins s σ H _ us Q I r ⟨a, ns, rfl, by rw [← MF h4 e3]; exact .of h3, q _ _ (.same mo (.int _))⟩
def Ma (ns : List Int) : List Int := ns.mergeSort (fun a b => decide (a ≤ b))
theorem NT (ns : List Int) : (Ma ns).Perm ns := List.mergeSort_perm _ _
theorem RS (ns : List Int) : (Ma ns).Pairwise (· ≤ ·) := by
 have := List.pairwise_mergeSort (le := fun (a b : Int) => decide (a ≤ b)) (fun a b c h1 h2 => by simp at *; omega) (fun a b => by simp; omega) ns
 unfold Ma
 exact this.imp fun h => of_decide_eq_true h
theorem R1 {ns ms : List Int} (p : ms.Perm ns) (s : ms.Pairwise (· ≤ ·)) : ms = Ma ns := PySem.W.ksm_same (p.trans (NT ns).symm) s (RS ns)
theorem intsAre_of : ∀ {ns : List Int} {its : List Value}, Vals (ns.map V.int) its -> PyProof.Rows.IntsAre its ns
  | [], _, .nil => .nil
  | n :: ns, _, .cons h t => by
    obtain ⟨tk, rfl⟩ := h
    exact .cons n tk (intsAre_of t)
theorem KZ : ∀ {ns : List Int} {its : List Value}, PyProof.Rows.IntsAre its ns -> Vals (ns.map V.int) its
 | _, _, .nil => .nil
 | _, _, .cons n tk t => .cons ⟨tk, rfl⟩ (KZ t)
theorem PH {X : Cx} : FH X (.builtin "sorted") (fun xs H Q => ∃ (p : Addr) (ns : List Int), xs = [.ref p] /\ SqL X.K H p (ns.map V.int) /\ ns.length < 64 /\ ∀ q, H q = none -> Q (.ref q) (upd H q (.lst ((Ma ns).map V.int)))) := by
 intro pins s σ H xs us Q I r h
 obtain ⟨p, ns, rfl, hp, h64, q⟩ := h
 obtain ⟨u, rfl, ru⟩ := r.one
 cases (show u = Value.ref p from ru)
 obtain ⟨its, rv, pl, hz⟩ := I.list hp
 have hlen : ns.length = its.length := by have := rv.length; simpa using this
 refine PyProof.Rows.sorted_ints pl.isList (intsAre_of rv) (by omega) fun out ns' a1 a2 a3 => ?_
 obtain ⟨e, he⟩ := PyProof.Rows.sortedAll_at s.heap its out
 have hn : H (s.heap.objs.size + 1) = none := I.hok.fresh (Nat.le_succ _)
 have hs := R1 a2 a3
 subst hs
 refine ⟨.ref _, _, I.laid (a := s.heap.objs.size + 1) (o := .lst ((Ma ns).map V.int)) (t' := s.toks) (fun _ _ => PyProof.Rows.sortedAll_old) (Nat.le_succ _) ?_, rfl, q _ hn⟩
 refine ⟨?_, out.toList, e, KZ a1, ?_⟩
 ·rw [List.length_map, (NT ns).length_eq]
  have : (64 : Nat) ≤ sizeLine := by decide
  omega
 ·rw [Array.toArray_toList]; exact he
def Ni : Op1 := fun w => (asL w).bind fun ds => (K1 ds).bind fun ns => if ns.length < 64 then some (.own ((Ma ns).map D.int)) else none
theorem O9 {X : Cx} : FH X (.builtin "sorted") (rN X.K (o1 Ni)) := by
 intro pins s σ H xs us Q I r h
 obtain ⟨M, ws, w, e, mo, sh, q⟩ := h
 obtain ⟨v, w1, rfl, rfl, s1, e1⟩ := J3 sh e
 obtain ⟨ds, e2, e1⟩ := Bg e1
 obtain ⟨ns, e3, e1⟩ := Bg e1
 split at e1
 ·cases e1
  obtain ⟨a, ys, rfl, h3, h4⟩ := s1.l e2
  exact PH pins s σ H _ us Q I r ⟨a, ns, rfl, by rw [← MF h4 e3]; exact .of h3, by assumption, fun p hp => q _ _ (.lst mo hp K8)⟩
 ·cases e1
theorem Nj (l : Addr) (items : Array Value) (n : Nat) (b : Addr) (items2 : Array Value) (n2 : Nat) (dd : Option Addr) (sl : Array (Option Value)) (hs0 : ¬(!items.isEmpty && Builtin.List.listTooLong (items.size + items2.size)) = true) (hs1 : items.size ≤ sizeLine) (hs2 : items.size + items2.size ≤ sizeLine + 1) :
  Meets (Builtin.«list.extend» ⟨[.ref l, .ref b], []⟩) (fun _ R s => s.heap.get? l = some { cls := .type "list", dict := none, data := .seq items n, slots := #[] } /\ s.heap.get? b = some { cls := .type "tuple", dict := dd, data := .seq items2 n2, slots := sl } /\ R (.ok (.ret Value.none)) { s with heap := s.heap.update l (Obj.mapSeq fun x => x ++ items2), toks := s.toks }) :=
 .of_wp fun prog w A R s h => by
  obtain ⟨hp, g, d, tk, os⟩ := s; obtain ⟨hl, hb, h⟩ := h; have f1 := AutoSeq1.idx_int; have f2 := AutoSeq1.sub_tuple_tuple; have f3 := AutoSeq1.sub_list_list; have f4 := AutoSeq1.sub_tuple_list; have f5 := AutoSeq1.sub_list_tuple
  have hz' : (items ++ items2).size ≤ sizeLine + 1 := by rw [Array.size_append]; exact hs2
  wp_walk using (wpAny_updateSeq hl rfl (hz := hs1) (_hz' := hz')), AutoSeq1.wpAny_loadPart' hl, AutoSeq1.wpAny_loadPart' hb; exact ⟨_, rfl, h⟩
def Vh (K : PySem.W.Frag) : V -> List V -> Hp -> VK -> Prop := fun x vs H Q => ∃ l b xs zs, x = .ref l /\ vs = [.ref b] /\ H l = some (.lst xs) /\ SqT K H b zs /\ xs.length + zs.length ≤ sizeLine /\ Q .non (upd H l (.lst (xs ++ zs)))
theorem Rq {X : Cx} : MtM X "list.extend" (Vh X.K) := by
 intro pins s σ H x vs v us Q I rx rv h
 obtain ⟨l, b, xs, zs, rfl, rfl, hH, hB, hz, q⟩ := h
 cases rx
 obtain ⟨u, rfl, ru⟩ := rv.one
 cases ru
 obtain ⟨z, its, n, r, hl, e⟩ := I.lstM hH
 obtain ⟨its2, r2, ⟨⟨c, dd, dt, sl⟩, e2, hc, n2, hd⟩, z2⟩ := I.tuple hB
 simp only at hc hd
 subst hc hd
 have hl2 := r2.length
 have hsz : its.toArray.size + its2.toArray.size ≤ sizeLine := by rw [List.size_toArray, List.size_toArray]; omega
 have hlong : ¬ (!its.toArray.isEmpty && Builtin.List.listTooLong (its.toArray.size + its2.toArray.size)) = true := by
  rw [Nh hsz, Bool.and_false]
  exact Bool.false_ne_true
 refine call_meets F.slot_list_extend ⟨_, e, rfl⟩ F.entry_list_extend (F.args_list_extend_2 _ _)
  (Nj l its.toArray n b its2.toArray n2 dd sl hlong (by rw [List.size_toArray]; omega) (by omega)) ⟨e, e2, ?_⟩
 refine ⟨.non, _, I.lset (its' := its ++ its2) hH e (by simp) (r.append r2) ?_, rfl, q⟩
 rw [List.length_append]
 omega
def cB : Mo
  | S, ds, [x] => match dr S x with
    | .val (.tup zs) => if ds.length + zs.length ≤ sizeLine then some (.non, ds ++ zs) else none
    | w => (asL w).bind fun zs => if ds.length + zs.length ≤ sizeLine then some (.non, ds ++ zs) else none
  | _, _, _ => none
theorem Xz {X : Cx} : MtR X "list.extend" (cR X.K cB) := by
  intro pins s σ H x vs v us Q I rx rv h
  obtain ⟨M, S, n, a, ds, args, d, ds', rfl, hc, hn, e, st, ra, q⟩ := h
  unfold cB at e
  split at e
  · obtain ⟨xs, h1, h2⟩ := st.cell n a _ hc hn
    obtain ⟨y, rfl, ry⟩ := Qp ra
    have sy := Yd st ry
    split at e
    · rename_i ed
      rw [ed] at sy
      split at e
      · rename_i hz
        cases e
        cases sy with
        | tup hx rr =>
          obtain ⟨st2, g2⟩ := st.chg hc hn (h2.append rr)
          exact Rq pins s σ H _ _ v us Q I rx rv ⟨a, _, xs, _, rfl, rfl, h1, hx, by rw [h2.length, rr.length]; exact hz, q _ _ st2 g2 .non⟩
      · cases e
    · obtain ⟨zs, e1, e⟩ := Bg e
      split at e
      · rename_i hz
        cases e
        obtain ⟨b, ys, rfl, h3, h4⟩ := sy.l e1
        obtain ⟨st2, g2⟩ := st.chg hc hn (h2.append h4)
        exact UK pins s σ H _ _ v us Q I rx rv ⟨a, b, xs, ys, rfl, rfl, h1, h3, by rw [h2.length, h4.length]; exact hz, q _ _ st2 g2 .non⟩
      · cases e
  · cases e
theorem VW {X : Cx} : OpR X (binaryOp .Mult) (fun x y H Q => ∃ a xs k, x = .ref a /\ y = .int k /\ SqT X.K H a xs /\ xs ≠ [] /\ k ≤ 0 /\ -(2 ^ 63) ≤ k /\ ∀ p, H p = none -> Q (.ref p) (upd H p (.tup []))) := by
  intro pins s σ H x y v u Q I rx ry h
  obtain ⟨a, xs, k, rfl, rfl, hx, hne, hk, hk2, q2⟩ := h
  cases rx
  obtain ⟨t, rfl⟩ := ry
  obtain ⟨its, r, ⟨⟨c, dd, data, sl⟩, ho, hc, n, hd⟩, hzz⟩ := I.tuple hx
  simp only at hc hd
  subst hc hd
  have hl := r.length
  have hpos : 0 < xs.length := List.length_pos_iff.mpr hne
  refine wpAny_binaryOp_repeat_ref (T := "tuple") (U := "int") (by decide) ⟨_, ho, rfl⟩ (fun s' => typeIs_int s' k t) G9 F.fills_int_mul F.slot_int_rmul Kb F.slot_int_index.lookup
    (call_meets F.slot_int_rmul (typeIs_int s k t) F.entry_int_rmul (F.args_int_rmul_2 _ _) (Ik k t a its.toArray n dd sl) ⟨ho, rfl, ⟨_, ho, rfl⟩, ?_⟩)
  refine wpAny_call_entry F.slot_tuple_mul ⟨_, ho, rfl⟩ F.entry_tuple_mul ?_ (F.args_tuple_mul_2 _ _)
  unfold Builtin.«tuple.__mul__»
  wp_walk using AutoSeq1.wpAny_loadPart' ho
  rw [if_neg (show ¬ (decide (k < -2 ^ 63) || decide (k ≥ 2 ^ 63)) = true by
    rw [Bool.or_eq_true]
    rintro (z | z)
    · have := of_decide_eq_true z; omega
    · have := of_decide_eq_true z; omega)]
  wp_walk using AutoSeq1.wpAny_loadPart' ho
  have hemp : its.toArray.isEmpty = false := by
    cases its with
    | nil => rw [List.length_nil] at hl; omega
    | cons b bs => rfl
  rw [if_neg (show ¬ (its.toArray.isEmpty || k == 1) = true by
    rw [hemp, Bool.false_or]
    intro z
    have := eq_of_beq z
    omega)]
  wp_walk using AutoSeq1.wpAny_loadPart' ho
  all_goals first
    | exact ⟨_, rfl, .ref _, _, I.laid (o := .tup []) (t' := s.toks) (fun b ob q => Heap.get?_push_of_some _ q) (Nat.le_refl _) ⟨Nat.zero_le _, [], .nil, PyProof.Rows.IsTup.new _ _⟩, rfl, q2 _ (I.hok.fresh (Nat.le_refl _))⟩
    | (exfalso
       rename_i hh
       exact hh (by rw [Bool.or_eq_true]; exact .inl (decide_eq_true hk)))
def B8 : Op2 := fun a b => match a, b with
 | .val (.tup xs), .val (.int k) => if (!xs.isEmpty && decide (k ≤ 0) && decide (-(2 ^ 63) ≤ k)) = true then some (.val (.tup [])) else cE (.val (.tup xs)) (.val (.int k))
 | a, b => cE a b
theorem Au {X : Cx} : OpR X (binaryOp .Mult) (rOp X.K B8) := by
  intro pins s σ H x y v u Q I rx ry h
  obtain ⟨M, w1, w2, r, e, mo, s1, s2, q⟩ := h
  unfold B8 at e
  split at e
  · split at e
    · rename_i xs k hk
      rw [Bool.and_eq_true, Bool.and_eq_true] at hk
      cases e
      cases s2
      cases s1 with
      | @tup a ys _ h1 r1 =>
        have hne : ys ≠ [] := fun zz => by
          subst zz
          cases r1
          exact absurd hk.1.1 (by decide)
        exact VW pins s σ H _ _ v u Q I rx ry ⟨a, ys, k, rfl, rfl, h1, hne, of_decide_eq_true hk.1.2, of_decide_eq_true hk.2, fun p hp => q _ _ (.tup mo hp .nil)⟩
    · exact UC pins s σ H x y v u Q I rx ry ⟨M, _, _, r, e, mo, s1, s2, q⟩
  · exact UC pins s σ H x y v u Q I rx ry ⟨M, _, _, r, e, mo, s1, s2, q⟩
theorem AS {A : Around} {k : Nat} (hr : NL k A) : A.units + 100 < cLine := by have := hr.un; omega
section
variable {P : Program} {w : World} {K : PySem.W.Frag} {mg : Str -> Option Value} {base : Heap}
end
def scE : Nat -> PySem.Expr -> List Scope
 | 0, _ => []
 | n + 1, .ListComp e gs s _ => s :: (gs.flatMap fun g => scE n g.iter) ++ scE n e ++ (gs.flatMap fun g => g.ifs.flatMap (scE n))
 | n + 1, .BoolOp _ vs _ => vs.flatMap (scE n)
 | n + 1, .Call f as _ _ => scE n f ++ as.flatMap (scE n)
 | n + 1, .BinOp a _ b _ => scE n a ++ scE n b
 | n + 1, .UnaryOp _ a _ => scE n a
 | n + 1, .Compare a _ cs _ => scE n a ++ cs.flatMap (scE n)
 | n + 1, .Subscript a b _ => scE n a ++ scE n b
 | n + 1, .Tuple es _ _ => es.flatMap (scE n)
 | n + 1, .List es _ => es.flatMap (scE n)
 | n + 1, .IfExp c a b _ => scE n c ++ scE n a ++ scE n b
 | n + 1, .Dict _ vs _ => vs.flatMap (scE n)
 | n + 1, .Slice a b c _ => (a.toList ++ b.toList ++ c.toList).flatMap (scE n)
 | n + 1, .Attribute v _ _ => scE n v
 | _, _ => []
def scS : Nat -> Stmt -> List Scope
 | 0, _ => []
 | n + 1, .Return (some e) _ => scE 30 e
 | n + 1, .Assign ts e _ => ts.flatMap (scE 30) ++ scE 30 e
 | n + 1, .AugAssign t _ e _ => scE 30 t ++ scE 30 e
 | n + 1, .Expr e _ => scE 30 e
 | n + 1, .If t a b _ => scE 30 t ++ a.flatMap (scS n) ++ b.flatMap (scS n)
 | n + 1, .For _ it a b _ => scE 30 it ++ a.flatMap (scS n) ++ b.flatMap (scS n)
 | n + 1, .While t a b _ => scE 30 t ++ a.flatMap (scS n) ++ b.flatMap (scS n)
 | _, _ => []
def IL (st : Stmt) (k : Nat) : Scope := ((Gy st).flatMap (scS 20)).getD k (AI st)
structure iY (P : Program) (w : World) (K : PySem.W.Frag) (mg : Str -> Option Value) (base : Heap) (x : Str) (k np : Nat) (tbl : List (Str × Fn)) : Prop where
 ex : ∃ a kvs, mg x = some (.ref a) /\ TopD K w a kvs /\ ∀ p G, tbl.lookup p = some G -> ∃ f fd ps, kvs.lookup p = some (.ref f) /\ PU P w K mg base CX0 k f fd ps (spD K np G) /\ PySem.W.keepIn K (.ref f) = true /\ Binds K fd ps []
section
variable {P : Program} {w : World} {K : PySem.W.Frag} {mg : Str -> Option Value} {base h : Heap}
theorem Z3 {x : Str} {st : Stmt} {f : Addr} {oc : Value} {od an : Option Addr} {osl : Array (Option Value)} {kV doc pm cdv ct : Value} (X : K.In h) (G : h.Ns mainGlobals mg) (a : PySem.W.nsIn K mainGlobals x = some (some (.ref f)))
  (l : K.lookup f = some ⟨oc, od, .func (PySem.W.fnOf x x (L4 st) (Gy st) (AI st) .none kV doc pm an cdv ct), osl⟩) (c : PySem.W.codeIn K cdv x = true) (k : PySem.W.keepIn K (.ref f) = true) : St.Src K mg x st :=
 ⟨f, _, aC l c k, PySem.W.mg_of X G a⟩
def IsD (K : PySem.W.Frag) (u : Value) (d : D) : Prop := ∃ v, RelV v u /\ ∀ M H, EM K M H v d
theorem OK {i : Int} {t : Tok} : IsD K (.int i t) (.int i) := ⟨.int i, ⟨t, rfl⟩, fun _ _ => .int i⟩
theorem OP {x : Str} {t : Tok} : IsD K (.str x t) (.str x) := ⟨.str x, ⟨t, rfl⟩, fun _ _ => .str x⟩
theorem Qe : ∀ {us : List Value} {ds : List D}, Paired (fun d u => IsD K u d) ds us -> ∃ xs, Vals xs us /\ ∀ M H, Ax K M H xs ds
  | _, _, .nil => ⟨[], .nil, fun _ _ => .nil⟩
  | _, _, .cons h t => by
    obtain ⟨v, h1, h2⟩ := h
    obtain ⟨xs, h3, h4⟩ := Qe t
    exact ⟨v :: xs, .cons h1 h3, fun M H => .cons (h2 M H) (h4 M H)⟩
theorem QD {a : Addr} {od : Option Addr} {osl : Array (Option Value)} {its : List Value} {n : Nat} {ds : List D} (l : K.lookup a = some ⟨.type "tuple", od, .seq its.toArray n, osl⟩) (hz : its.length ≤ sizeLine) (r : Paired (fun d u => IsD K u d) ds its) : IsD K (.ref a) (.tup ds) := by
 obtain ⟨xs, h1, h2⟩ := Qe r
 exact ⟨.ref a, rfl, fun M H => .tup (.inr ⟨_, its.toArray, n, l, rfl, rfl, by simpa using hz, by simpa using h1⟩) (h2 M H)⟩
theorem Ug {x : Str} {u : Value} {d : D} (X : K.In h) (G : h.Ns mainGlobals mg) (e : PySem.W.nsIn K mainGlobals x = some (some u)) (r : IsD K u d) : RP K mg x d := by
 obtain ⟨v, h1, h2⟩ := r
 exact ⟨v, u, PySem.W.mg_of X G e, h1, h2⟩
structure ib (w : World) (K : PySem.W.Frag) (mg : Str -> Option Value) (x : Str) (ns : List (Str × Str)) : Prop where
 ex : ∃ a kvs, mg x = some (.ref a) /\ TopD K w a kvs /\ Paired (fun (n : Str × Str) (q : Str × V) => n.1 = q.1 /\ ∃ f, q.2 = .ref f /\ mg n.2 = some (.ref f)) ns kvs
def X9 (K : PySem.W.Frag) : Sp := fun vs H Q _ => ∃ (a : Addr) (ns : List Int), vs = [.ref a] /\ SqL K H a (ns.map V.int) /\ ns.length ≤ 63 /\ ∀ H', Q (.bl true) H'
theorem ZY {k : Nat} {f : Addr} {fd : FuncData} {x : Str} {F : Fn} (Fk : PU P w K mg base CX0 k f fd [x] (spD K 1 F)) (h : ∀ ns : List Int, ns.length ≤ 63 -> ∃ S, F [.scr ns] [] = some (.bl true, S)) : PU P w K mg base CX0 k f fd [x] (X9 K) := by
 refine Fk.imp fun vs H Q E z => ?_
 obtain ⟨a, ns, rfl, hs, hl, q⟩ := z
 obtain ⟨S, e⟩ := h ns hl
 refine ⟨Ms.no, [.scr ns], [], _, S, rfl, e, .cons (.scr ?_) .nil, ⟨fun a z => absurd z Ms.no_mem, List.nodup_nil, fun a z => (nomatch z), rfl, fun n a c z => by simp [Ms.no] at z⟩, fun v H' M' g st r => ?_⟩
 ·rcases hs with hs | hs
  ·exact .inl ⟨hs, Ms.no_mem⟩
  ·exact .inr hs
 ·cases r
  exact q H'
end
section
variable {X : Cx} {pos : Pos}
end
theorem QX : ∀ {ys : List V} {us : List Value}, ys.length = us.length -> (∀ (j : Nat) (y : V) (u : Value), ys[j]? = some y -> us[j]? = some u -> RelV y u) -> Vals ys us
 | [], [], _, _ => .nil
 | y :: ys, u :: us, hl, h => .cons (h 0 y u rfl rfl) (QX (by simpa using hl) fun j y u a b => h (j + 1) y u a b)
 | [], _ :: _, hl, _ => by simp at hl
 | _ :: _, [], hl, _ => by simp at hl
def tLR (ta : TA) : TE := fun σ H Q => ta σ H fun vs H1 => ∃ j : Int, vs = [.int j] /\ 0 ≤ j /\ j ≤ 1000 /\ ∀ l, H1 l = none -> Q (.ref l) (upd H1 l (.lst ((List.range j.toNat).map fun (i : Nat) => V.int i)))
theorem dz {X : Cx} {a : Expr} {ta : TA} {p p' pos pos' : Pos} (hc : X.calm = true) (hgl : Gl X "list") (hml : X.mg "list" = none) (hg : Gl X "range") (hm : X.mg "range" = none) (ha : PA X [a] ta) (hs : starEach [a] X.env = [(false, eval a X.env)] := by rfl)
    (hs2 : starEach [Expr.Call (.Name "range" p) [a] [] pos] X.env = [(false, eval (.Call (.Name "range" p) [a] [] pos) X.env)] := by rfl) : PE X (.Call (.Name "list" p') [.Call (.Name "range" p) [a] [] pos] [] pos') (tLR ta) := by
  intro pins s σ H Q I h
  refine wpAny_Call_Name_kw (Kv I hgl hml PyProof.Rows.boot_list ?_ (by decide) (by decide))
  refine PyProof.Rows.callWith_type1 ?_ hs2 rfl
  rw [hs2]
  show wpAny _ _ (spliced ((false, eval (.Call (.Name "range" p) [a] [] pos) X.env) :: backTo pos' [])) _ _ s
  refine PySem.Calls.spliced_cons ?_
  refine wpAny_Call_Name_kw (Kv I hg hm PyProof.Rows.boot_range ?_ (by decide) (by decide))
  refine PyProof.Rows.callWith_type1 (thn (ha pos pins s σ H _ I h) fun us s1 ⟨vs, H1, I1, r1, q1⟩ => ?_) hs rfl
  obtain ⟨j, e, j0, j1, q⟩ := q1
  subst e
  cases r1 with
  | cons r rr =>
    cases rr
    obtain ⟨t, rfl⟩ := r
    refine call_range_1 (PySem.Calls.spliced_nil ?_)
    have hz : j.toNat ≤ 2 ^ 24 := by omega
    refine call_list_range (n := j.toNat) (I1.ok.hd hc) (IsRange.new ..) (small_one (by omega) (by omega) (by omega) (by omega)) (by rw [rangeSize_one]; split <;> omega) hz fun h' tk acc' c' hk hS' hacc => ?_
    have kp : ∀ b o, s1.heap.get? b = some o -> h'.get? b = some o := fun b o e => hk b o (Heap.get?_push_of_some _ e)
    have le : s1.heap.objs.size ≤ (s1.heap.push { cls := .type "range", data := .fields #[.int 0 s1.toks, .int j t, .int 1 (s1.toks + 1)] }).objs.size := by rw [Heap.size_push]; exact Nat.le_succ _
    have rv : Vals ((List.range j.toNat).map fun (i : Nat) => V.int i) acc'.toList := QX (by simp [hacc.1]) fun i y u hy hu => by
      have hi : i < j.toNat := by
        have := (List.getElem?_eq_some_iff.mp hy).1
        simpa using this
      rw [List.getElem?_map, List.getElem?_range hi] at hy
      cases hy
      obtain ⟨tk', rfl⟩ := hacc.2 i u (by simpa using hu)
      exact ⟨tk', by simp⟩
    refine ⟨.ref _, _, I1.laid (t' := tk) (o := .lst ((List.range j.toNat).map fun (i : Nat) => V.int i)) kp le ⟨by rw [List.length_map, List.length_range]; exact hz, acc'.toList, c', rv, by simpa using hS'⟩, rfl, q _ (I1.hok.fresh le)⟩
def lrK (cf : Bool) (r : D × Sto) : Option (D × Sto) := match r.1 with
 | .int j => if (decide (0 ≤ j) && decide (j ≤ 1000)) = true then fin cf (.own (GA 0 j.toNat)) r.2 else none
 | _ => none
def dH (cf : Bool) (o : Ev) : Ev := fun E S => (o E S).bind (lrK cf)
abbrev eLR := dH false
theorem eX {X : Cx} {a : Expr} {o : Ev} {cf : Bool} {p p' pos pos' : Pos} (hc : X.calm = true) (hgl : Gl X "list") (hml : X.mg "list" = none) (hg : Gl X "range") (hm : X.mg "range" = none) (ha : DEs X [a] [o]) (hs : starEach [a] X.env = [(false, eval a X.env)] := by rfl)
  (hs2 : starEach [Expr.Call (.Name "range" p) [a] [] pos] X.env = [(false, eval (.Call (.Name "range" p) [a] [] pos) X.env)] := by rfl) : DE X (.Call (.Name "list" p') [.Call (.Name "range" p) [a] [] pos] [] pos') (dH cf o) := ⟨
 CN (dz hc hgl hml hg hm ha.pe hs hs2) fun σ H Q z => by
  obtain ⟨M, E, S, d, S', e, r, st, q⟩ := z
  obtain ⟨⟨w, S1⟩, e1, e⟩ := Bg e
  have e1' : evs [o] E S = some ([w], S1) := by
   show (o E S).bind (fun r => (evs [] E r.2).map fun q => (r.1 :: q.1, q.2)) = _
   rw [e1]; rfl
  refine Il e1' r st fun vs H1 M1 g1 st1 r1 => ?_
  unfold lrK at e
  split at e
  ·rename_i j he
   have he : w = .int j := he
   subst he
   split at e
   ·rename_i hk
    rw [Bool.and_eq_true] at hk
    refine ⟨j, Q3 r1, of_decide_eq_true hk.1, of_decide_eq_true hk.2, fun l hl => ?_⟩
    have rd : Ax X.K M1 H1 ((List.range j.toNat).map fun (i : Nat) => V.int i) (GA 0 j.toNat) := by
     have er : GA 0 j.toNat = (List.range j.toNat).map fun (i : Nat) => D.int i := by simp [GA]
     rw [er]
     generalize List.range j.toNat = xs
     induction xs with
     | nil => exact .nil
     | cons x xs ih => exact .cons (.int x) ih
    obtain ⟨M2, g2, st2, d2⟩ := (Nw.lst st1.mo hl rd).fin st1 e
    exact q _ _ M2 (g1.trans g2) st2 d2
   ·cases e
  ·cases e⟩
end Mi
end
noncomputable section
namespace Mi
open PySem PySem.Spec L2
open PyProof.Rows (boot_isinstance boot_int boot_bool boot_tuple boot_str boot_list boot_abs boot_all boot_any boot_sum boot_max boot_min boot_range boot_enumerate boot_zip boot_sorted boot_set boot_divmod)
def Dx : D := .tup [.int 0, .int 1]
def Tb : D := .tup [.int 1, .int 1]
def Cf : D := .tup [.str "bring", .str "pool", .str "swap", .str "trade"]
def Fz : Ex := (BV (LG (eOp (o2 aO) [(eV 0), (eC (.ty "int"))]) (WR (eOp (o2 aO) [(eV 0), (eC (.ty "bool"))]))))
def Ep : Fn := Az (A3 1 Fz)
def Gi : Ex := (BV (LG (AK Ep [(eV 0)]) (eOp (o2 wGe) [(eV 0), (eV 1)])))
def Ff : Fn := Az (A3 2 Gi)
def FE : Ex := (BV (LG (AK Ff [(eV 0), (eV 1)]) (eOp (o2 wLe) [(eV 0), (eV 2)])))
def Cg : Fn := Az (A3 3 FE)
def FA : Ex := (Am (SA 0 1 (eOp (o1 ZI) [(eV 0)]) (eOp (o1 ZI) [(eV 1)]))
  (Am (Oi (Rz 1) (eOp (o2 wNe) [(eV 1), (eC (.int 0))]) (SA 0 1 (eV 1) (eOp (o2 Pt) [(eV 0), (eV 1)])))
  (BV (eV 0))))
def CP : Fn := Az (A3 2 FA)
def NI : Ex := (Am (Bs 2 (AK CP [(eV 0), (eV 1)]))
  (BV (DF [(eOp (o2 Nq) [(eV 0), (eV 2)]), (eOp (o2 Nq) [(eV 1), (eV 2)])])))
def C4 : Fn := Az (A3 3 NI)
def RI : Ex := (BV (AK C4 [(eOp (o2 Dq) [(eOp (o2 B8) [(eOp (o2 wIx) [(eV 0), (eC (.int 0))]), (eOp (o2 wIx) [(eV 1), (eC (.int 1))])]), (eOp (o2 B8) [(eOp (o2 wIx) [(eV 1), (eC (.int 0))]), (eOp (o2 wIx) [(eV 0), (eC (.int 1))])])]), (eOp (o2 B8) [(eOp (o2 wIx) [(eV 0), (eC (.int 1))]), (eOp (o2 wIx) [(eV 1), (eC (.int 1))])])]))
def G8 : Fn := Az (A3 2 RI)
def Qt : Ex := (BV (AK C4 [(eOp (o2 QI) [(eOp (o2 B8) [(eOp (o2 wIx) [(eV 0), (eC (.int 0))]), (eOp (o2 wIx) [(eV 1), (eC (.int 1))])]), (eOp (o2 B8) [(eOp (o2 wIx) [(eV 1), (eC (.int 0))]), (eOp (o2 wIx) [(eV 0), (eC (.int 1))])])]), (eOp (o2 B8) [(eOp (o2 wIx) [(eV 0), (eC (.int 1))]), (eOp (o2 wIx) [(eV 1), (eC (.int 1))])])]))
def G7 : Fn := Az (A3 2 Qt)
def Ow : Ex := (BV (AK C4 [(eOp (o2 B8) [(eOp (o2 wIx) [(eV 0), (eC (.int 0))]), (eOp (o2 wIx) [(eV 1), (eC (.int 0))])]), (eOp (o2 B8) [(eOp (o2 wIx) [(eV 0), (eC (.int 1))]), (eOp (o2 wIx) [(eV 1), (eC (.int 1))])])]))
def FX : Fn := Az (A3 2 Ow)
def PQ : Ex := (Am (Bs 4 (eOp (o2 Dq) [(eOp (o2 B8) [(eOp (o2 B8) [(eOp (o2 wIx) [(eV 0), (eC (.int 0))]), (eOp (o2 wIx) [(eV 2), (eC (.int 1))])]), (eV 1)]), (eOp (o2 B8) [(eOp (o2 B8) [(eOp (o2 wIx) [(eV 2), (eC (.int 0))]), (eOp (o2 wIx) [(eV 0), (eC (.int 1))])]), (eV 3)])]))
  (BV (AK C4 [(eV 4), (eOp (o2 B8) [(eOp (o2 B8) [(eOp (o2 wIx) [(eV 0), (eC (.int 1))]), (eOp (o2 wIx) [(eV 2), (eC (.int 1))])]), (eOp (o2 Dq) [(eV 1), (eV 3)])])])))
def Hx : Fn := Az (A3 5 PQ)
def Ih : Ex := (BV (LG (eOp (o2 wLt) [(eV 1), (eOp (o1 Jm) [(eV 0)])]) (eOp (o2 wGe) [(eOp (o2 wIx) [(eOp (o2 wIx) [(eV 0), (eV 1)]), (eC (.int 1))]), (eV 2)])))
def CO : Fn := Az (A3 3 Ih)
def Ks : Ex := (BV (LG (AK CO [(eV 0), (eV 1), (eC (.int 1))]) (LG (AK CO [(eV 0), (eV 2), (eC (.int 1))]) (eOp (o2 wEq) [(eOp (o2 wIx) [(eOp (o2 wIx) [(eV 0), (eV 1)]), (eC (.int 0))]), (eOp (o2 wIx) [(eOp (o2 wIx) [(eV 0), (eV 2)]), (eC (.int 0))])]))))
def F2 : Fn := Az (A3 3 Ks)
def Kc : Ex := (BV (LG (AK CO [(eV 0), (eV 1), (eV 2)]) (eOp (o2 wNe) [(eOp (o2 wIx) [(eOp (o2 wIx) [(eV 0), (eV 1)]), (eC (.int 0))]), (eV 3)])))
def Em : Fn := Az (A3 4 Kc)
def Dk : Ex := (Am (Bs 3 (eOp (o2 wIx) [(eV 2), (eC (.int 0))]))
  (Am (xIf (eOp (o2 wEq) [(eV 3), (eC (.str "pool"))]) (BV (AK F2 [(eV 0), (eOp (o2 wIx) [(eV 2), (eC (.int 1))]), (eOp (o2 wIx) [(eV 2), (eC (.int 2))])])) EB)
  (Am (xIf (eOp (o2 wEq) [(eV 3), (eC (.str "swap"))]) (BV (AK Em [(eV 0), (eOp (o2 wIx) [(eV 2), (eC (.int 1))]), (eOp (o2 wIx) [(eV 2), (eC (.int 2))]), (eOp (o2 wIx) [(eV 2), (eC (.int 3))])])) EB)
  (Am (xIf (eOp (o2 wEq) [(eV 3), (eC (.str "trade"))]) (Am (Bs 4 (CZ [] 1 (FT (eV 1)) (tNm 0) (eOp (o2 wEq) [(eOp (o2 wIx) [(eV 0), (eC (.int 0))]), (eC (.str "trade"))]) (eOp (o2 wIx) [(eV 0), (eC (.int 1))])))
  (BV (LG (eOp (o2 (wIn true)) [(eOp (o2 wIx) [(eV 2), (eC (.int 1))]), (eV 4)]) (AK Em [(eV 0), (eOp (o2 wIx) [(eV 2), (eC (.int 2))]), (eOp (o2 wIx) [(eV 2), (eC (.int 3))]), (eOp (o2 wIx) [(eV 2), (eC (.int 4))])])))) EB)
  (Am (xIf (eOp (o2 (wIn false)) [(eV 3), (DF [(eC (.str "spoil")), (eC (.str "throw"))])]) (BV (AK CO [(eV 0), (eOp (o2 wIx) [(eV 2), (eC (.int 1))]), (eOp (o2 wIx) [(eV 2), (eC (.int 2))])])) EB)
  (BV (eC (.bl true))))))))
def CS : Fn := Az (A3 5 Dk)
def HE : Ex := (Am (NB (tTp [(tNm 3), (tNm 4)]) (eOp (o2 wIx) [(eV 0), (eV 1)]))
  (BV (eOp (o2 Dq) [(eOp (o2 Dq) [(eOp (Ju false true) [(eV 0), (eV 1)]), (JF [(DF [(eV 3), (eOp (o2 QI) [(eV 4), (eV 2)])])])]), (eOp (Ju true false) [(eV 0), (eOp (o2 Dq) [(eV 1), (eC (.int 1))])])])))
def Bq : Fn := Az (A3 5 HE)
def Bk : Ex := (Am (Bs 2 (eOp (o2 wIx) [(eV 1), (eC (.int 0))]))
  (Am (xIf (eOp (o2 wEq) [(eV 2), (eC (.str "bring"))]) (BV (eOp (o2 Dq) [(eV 0), (JF [(DF [(eOp (o2 wIx) [(eV 1), (eC (.int 2))]), (eOp (o2 wIx) [(eV 1), (eC (.int 3))])])])])) EB)
  (Am (xIf (eOp (o2 wEq) [(eV 2), (eC (.str "pool"))]) (Am (NB (tTp [(tNm 3), (tNm 4)]) (eOp (o2 wIx) [(eV 0), (eOp (o2 wIx) [(eV 1), (eC (.int 1))])]))
  (Am (Bs 5 (eOp (o2 wIx) [(eOp (o2 wIx) [(eV 0), (eOp (o2 wIx) [(eV 1), (eC (.int 2))])]), (eC (.int 1))]))
  (BV (eOp (o2 Dq) [(AK Bq [(AK Bq [(eV 0), (eOp (o2 wIx) [(eV 1), (eC (.int 1))]), (eV 4)]), (eOp (o2 wIx) [(eV 1), (eC (.int 2))]), (eV 5)]), (JF [(DF [(eV 3), (eOp (o2 Dq) [(eV 4), (eV 5)])])])])))) EB)
  (Am (xIf (eOp (o2 (wIn false)) [(eV 2), (DF [(eC (.str "swap")), (eC (.str "trade"))])]) (Am (NB (tTp [(tNm 6), (tNm 7), (tNm 3), (tNm 8)]) (eOp (Ju true false) [(eV 1), (eOp (o1 Xu) [(eC (.int 4))])]))
  (BV (eOp (o2 Dq) [(AK Bq [(eV 0), (eV 6), (eV 7)]), (JF [(DF [(eV 3), (eV 8)])])]))) EB)
  (Am (xIf (eOp (o2 (wIn false)) [(eV 2), (DF [(eC (.str "spoil")), (eC (.str "throw"))])]) (BV (AK Bq [(eV 0), (eOp (o2 wIx) [(eV 1), (eC (.int 1))]), (eOp (o2 wIx) [(eV 1), (eC (.int 2))])])) EB)
  (BV (eV 0)))))))
def Ad : Fn := Az (A3 9 Bk)
def GP : Ex := (BV (CZ [] 1 (FT (eOp (o2 wIx) [(eV 0), (eC (.int 1))])) (tNm 0) Bx (DF [(eOp (o2 wIx) [(eV 0), (eC (.int 0))]), (eOp (o2 wIx) [(eV 0), (eC (.int 1))])])))
def BS : Fn := Az (A3 1 GP)
def Bw : Ex := (Am (Bs 1 (eOp (o2 wIx) [(eV 0), (eC (.int 0))]))
  (Am (xIf (eOp (o2 wEq) [(eV 1), (eC (.str "pool"))]) (BV (eOp (o1 Ni) [(JF [(eOp (o2 wIx) [(eV 0), (eC (.int 1))]), (eOp (o2 wIx) [(eV 0), (eC (.int 2))])])])) EB)
  (Am (xIf (eOp (o2 (wIn false)) [(eV 1), (DF [(eC (.str "swap")), (eC (.str "trade"))])]) (BV (JF [(eOp (o2 wIx) [(eV 0), (eOp (o1 Xu) [(eC (.int 4))])])])) EB)
  (BV (JF [])))))
def A5 : Fn := Az (A3 2 Bw)
def Hb : Ex := (Am (Bs 1 (AK BS [(eV 0)]))
  (Am (Bs 2 (eOp (o2 wIx) [(eV 0), (eC (.int 2))]))
  (Am (KG (ZH (eV 2)) (tTp [(tNm 3), (tNm 4)]) (Am (xIf (WR (AK CS [(eV 1), (eOp (Ju false true) [(eV 2), (eV 3)]), (eV 4)])) (BV (eV 3)) EB)
  (Bs 1 (AK Ad [(eV 1), (eV 4)]))))
  (BV (eC .non)))))
def Ds : Fn := Az (A3 5 Hb)
def GL : Ex := (Am (Bs 1 (AK Ds [(eV 0)]))
  (xIf (eOp (o2 (bZ true)) [(eV 1), (eC .non)]) Pd EB))
def BM : Fn := Az (A3 2 GL)
def E7 : Ex := (xIf (WR (AK Cg [(eV 1), (eC (.int 0)), (eOp (o1 Jm) [(eOp (o2 wIx) [(eV 0), (eC (.int 2))])])])) Pd EB)
def Bu : Fn := Az (A3 2 E7)
def IZ : Ex := (BV (eOp (o1 Dm) [(CZ [1] 1 (OZ [(eV 0)]) (tNm 1) Bx (eIf (eOp (o2 wEq) [(eV 1), (eV 0)]) (eC Tb) (eC Dx)))]))
def Cn : Fn := Az (A3 2 IZ)
def HF : Ex := (BV (eOp (o1 Dm) [(CZ [1, 3] 2 (Xq (eV 0) (eV 2)) (tTp [(tNm 2), (tNm 3)]) Bx (AK Hx [(eV 2), (eV 0), (eV 3), (eV 1)]))]))
def Cm : Fn := Az (A3 4 HF)
def BW : Ex := (Am (Bs 3 (AK A5 [(eV 2)]))
  (Am (xIf (eOp (o2 wEq) [(eOp (o1 Jm) [(eV 3)]), (eC (.int 1))]) (BV (eOp (o2 wIx) [(eV 1), (eOp (o2 wIx) [(eV 3), (eC (.int 0))])])) EB)
  (Am (NB (tTp [(tNm 4), (tNm 5)]) (eV 3))
  (BV (AK Cm [(eOp (o2 wIx) [(eV 1), (eV 4)]), (eOp (o2 wIx) [(eOp (o2 wIx) [(eV 0), (eV 4)]), (eC (.int 1))]), (eOp (o2 wIx) [(eV 1), (eV 5)]), (eOp (o2 wIx) [(eOp (o2 wIx) [(eV 0), (eV 5)]), (eC (.int 1))])])))))
def Ae : Fn := Az (A3 6 BW)
def HJ : Ex := (BV (eOp (o2 Dq) [(eOp (o1 TR) [(CZ [2] 2 (FT (eV 1)) (tTp [(tNm 1), (tNm 2)]) Bx (eOp (o2 B8) [(eV 2), (eOp (o2 wIx) [(eV 0), (eV 1)])]))]), (eOp (o2 B8) [(eOp (o2 wIx) [(eV 0), (eC (.int 2))]), (eOp (o2 wIx) [(eV 2), (eOp (o1 Xu) [(eC (.int 1))])])])]))
def DP : Fn := Az (A3 3 HJ)
def Hd : Ex := (Am (NB (tTp [(tNm 3), (tNm 4), (tNm 5)]) (eOp (Ju true false) [(eV 2), (eC (.int 1))]))
  (BV (AK C4 [(eOp (o2 B8) [(eV 4), (eOp (o2 wIx) [(eV 5), (eOp (o2 wIx) [(eOp (o2 wIx) [(eV 1), (eV 3)]), (eC (.int 0))])])]), (AK DP [(eV 0), (eV 1), (eV 5)])])))
def EC : Fn := Az (A3 6 Hd)
def GR : Ex := (Am (NB (tTp [(tNm 5), (tNm 6)]) (AK EC [(eV 0), (eV 1), (eV 3)]))
  (BV (AK Cm [(eV 4), (eOp (o2 QI) [(eV 6), (eV 5)]), (eOp (o2 wIx) [(eV 2), (eOp (o2 wIx) [(eV 3), (eC (.int 1))])]), (eV 5)])))
def C3 : Fn := Az (A3 7 GR)
def HM : Ex := (Am (NB (tTp [(tNm 2), (tNm 3), (tNm 4)]) (eOp (Ju true false) [(eV 0), (eC (.int 1))]))
  (Am (Bs 5 (AK FX [(eOp (o2 wIx) [(eV 1), (eV 2)]), (eV 4)]))
  (Am (Bs 6 (ZK (o1 Pl) [(eV 1)]))
  (Am (MW (AK G7 [(eOp (o2 wIx) [(eV 1), (eV 2)]), (eV 5)]) (eV 6) (eV 2))
  (Am (MW (AK G8 [(eOp (o2 wIx) [(eV 1), (eV 3)]), (eV 5)]) (eV 6) (eV 3))
  (BV (eOp (o1 Dm) [(eV 6)])))))))
def D5 : Fn := Az (A3 7 HM)
def BK : Ex := (Am (xIf (eOp (o2 wEq) [(eOp (o2 wIx) [(eV 3), (eC (.int 0))]), (eC (.str "throw"))]) (BV (AK C3 [(eV 0), (eV 1), (eV 2), (eV 3), (eV 4)])) EB)
  (Am (xIf (eOp (o2 wEq) [(eOp (o2 wIx) [(eV 3), (eC (.int 0))]), (eC (.str "sell"))]) (BV (AK D5 [(eV 3), (eV 4)])) EB)
  (BV (eV 4))))
def An : Fn := Az (A3 5 BK)
def BO : Ex := (Am (Bs 4 (CZ [0, 1, 2, 3] 1 (FT (eV 2)) (tNm 4) Bx (AK An [(eV 0), (eV 1), (eV 2), (eV 3), (eV 4)])))
  (Am (xIf (eOp (o2 wEq) [(eOp (o2 wIx) [(eV 3), (eC (.int 0))]), (eC (.str "bring"))]) (BV (eOp (o2 Dq) [(eV 4), (JF [(AK Cn [(eOp (o2 wIx) [(eV 0), (eC (.int 0))]), (eOp (o2 wIx) [(eV 3), (eC (.int 1))])])])])) EB)
  (Am (xIf (eOp (o2 (wIn false)) [(eOp (o2 wIx) [(eV 3), (eC (.int 0))]), (eC Cf)]) (BV (eOp (o2 Dq) [(eV 4), (JF [(AK Ae [(eV 1), (eV 2), (eV 3)])])])) EB)
  (BV (eV 4)))))
def Av : Fn := Az (A3 5 BO)
def Kr : Ex := (Am (NB (tTp [(tNm 2), (tNm 3), (tNm 4)]) (eV 0))
  (Am (Bs 5 (AK BS [(eV 0)]))
  (Am (Bs 6 (CZ [] 1 (FT (eV 3)) (tNm 0) Bx (eOp (o2 wIx) [(eV 0), (eC (.int 2))])))
  (Am (Bs 7 (eOp (o2 wIx) [(eV 2), (eC (.int 3))]))
  (Am (KG (FT (eOp (Ju false true) [(eV 4), (eV 1)])) (tNm 8) (Am (Bs 7 (AK An [(eV 2), (eV 5), (eV 6), (eV 8), (eV 7)]))
  (Am (Bs 6 (AK Av [(eV 2), (eV 5), (eV 6), (eV 8)]))
  (Bs 5 (AK Ad [(eV 5), (eV 8)])))))
  (BV (DF [(eV 5), (eV 6), (eV 7)])))))))
def Fw : Fn := Az (A3 9 Kr)
def Gz : Ex := (Am (xIf (eOp (o2 wLt) [(eV 1), (eOp (o1 Jm) [(eV 0)])]) (BV (eOp (o2 wIx) [(eV 0), (eV 1)])) EB)
  (BV (eC (.int 0))))
def C5 : Fn := Az (A3 2 Gz)
def Pp : Ex := (BV (K3 [(eV 0), (eOp (o1 Ye) [(eOp (o2 wGe) [(eV 0), (eOp (o2 cM) [(eC (.int 10)), (eC (.int 18))])])]), (eC (.int 0)), (eOp (o2 Pt) [(eV 0), (eC (.int 1000000007))])]))
def Hw : Fn := Az (A3 1 Pp)
def IF : Ex := (Am (xIf (LG (eOp (o2 wEq) [(eOp (o2 wIx) [(eV 0), (eC (.int 1))]), (eC (.int 1))]) (eOp (o2 wGt) [(eOp (o2 wIx) [(eV 0), (eC (.int 0))]), (eC (.int 0))])) (Am (Bs 2 (eOp (o2 Pt) [(eOp (o2 wIx) [(eV 0), (eC (.int 0))]), (eV 1)]))
  (Am (MW (eOp (o2 Nq) [(eOp (o2 wIx) [(eV 0), (eC (.int 0))]), (eV 1)]) (eV 0) (eC (.int 0)))
  (BV (eV 2)))) EB)
  (Am (MW (eOp (o2 Dq) [(eOp (o2 wIx) [(eV 0), (eC (.int 2))]), (eC (.int 1))]) (eV 0) (eC (.int 2)))
  (Am (Bs 3 (eOp (o2 Pt) [(eOp (o2 B8) [(eOp (o2 Dq) [(eOp (o2 wIx) [(eV 0), (eC (.int 3))]), (eC (.int 17))]), (eOp (o2 Dq) [(eC (.int 69621)), (eOp (o2 B8) [(eC (.int 2)), (eOp (o2 wIx) [(eV 0), (eC (.int 2))])])])]), (eC (.int 2147483647))]))
  (Am (Bs 3 (eOp (o2 Pt) [(eOp (o2 Dq) [(eOp (o2 Dq) [(eOp (o2 B8) [(eV 3), (eV 3)]), (eOp (o2 B8) [(eC (.int 40503)), (eOp (o2 wIx) [(eV 0), (eC (.int 2))])])]), (eC (.int 5))]), (eC (.int 2147483629))]))
  (BV (eOp (o2 Pt) [(eOp (o2 Nq) [(eOp (o2 Pt) [(eOp (o2 B8) [(eV 3), (eC (.int 48271))]), (eC (.int 2147483647))]), (eC (.int 32))]), (eV 1)]))))))
def AM : Fn := Az (A3 4 IF)
def Kl : Ex := (Am (Oi (Rz 1) (eOp (o2 wGt) [(eV 1), (eC (.int 0))]) (SA 0 1 (eV 1) (eOp (o2 Pt) [(eV 0), (eV 1)])))
  (BV (eV 0)))
def Fv : Fn := Az (A3 2 Kl)
def M9 : Ex := (Am (Bs 2 (AK Fv [(eOp (o1 ZI) [(eV 0)]), (eV 1)]))
  (BV (DF [(eOp (o2 Nq) [(eV 0), (eV 2)]), (eOp (o2 Nq) [(eV 1), (eV 2)])])))
def B2 : Fn := Az (A3 3 M9)
def My : Ex := (BV (AK B2 [(eOp (o2 Dq) [(eOp (o2 B8) [(eOp (o2 wIx) [(eV 0), (eC (.int 0))]), (eOp (o2 wIx) [(eV 1), (eC (.int 1))])]), (eOp (o2 B8) [(eOp (o2 wIx) [(eV 1), (eC (.int 0))]), (eOp (o2 wIx) [(eV 0), (eC (.int 1))])])]), (eOp (o2 B8) [(eOp (o2 wIx) [(eV 0), (eC (.int 1))]), (eOp (o2 wIx) [(eV 1), (eC (.int 1))])])]))
def Bn : Fn := Az (A3 2 My)
def LY : Ex := (BV (AK B2 [(eOp (o2 B8) [(eOp (o2 wIx) [(eV 0), (eC (.int 0))]), (eOp (o2 wIx) [(eV 1), (eC (.int 0))])]), (eOp (o2 B8) [(eOp (o2 wIx) [(eV 0), (eC (.int 1))]), (eOp (o2 wIx) [(eV 1), (eC (.int 1))])])]))
def BC : Fn := Az (A3 2 LY)
def Mz : Ex := (BV (AK Bn [(eV 0), (DF [(eOp (o2 QI) [(eC (.int 0)), (eOp (o2 wIx) [(eV 1), (eC (.int 0))])]), (eOp (o2 wIx) [(eV 1), (eC (.int 1))])])]))
def Di : Fn := Az (A3 2 Mz)
def Iy : Ex := (Am (Bs 2 (Qw [0] 1 (OZ [(eV 1)]) (tNm 1) Bx (eOp (o2 wIx) [(JF [(eC (.int 0)), (eC (.int 1)), (AK AM [(eV 0), (eC (.int 4))]), (AK AM [(eV 0), (eC (.int 9))])]), (AK AM [(eV 0), (eC (.int 4))])])))
  (Am (xIf (eOp (o2 wEq) [(eOp (o1 TR) [(eV 2)]), (eC (.int 0))]) (MW (eC (.int 1)) (eV 2) (AK AM [(eV 0), (eV 1)])) EB)
  (BV (eOp (o1 Dm) [(CZ [2] 1 (FT (eV 2)) (tNm 1) Bx (AK B2 [(eV 1), (eOp (o1 TR) [(eV 0)])]))]))))
def DY : Fn := Az (A3 3 Iy)
def Hi : Ex := (Am (Bs 1 (eOp (o2 Dq) [(eOp (o2 cM) [(eC (.int 10)), (eC (.int 30))]), (AK AM [(eV 0), (eC (.int 99))])]))
  (BV (eOp (o2 wIx) [(JF [(eOp (o2 Dq) [(eC (.int 1)), (AK AM [(eV 0), (eC (.int 4))])]), (eOp (o2 Dq) [(eC (.int 1)), (AK AM [(eV 0), (eC (.int 40))])]), (eOp (o2 Dq) [(eC (.int 1)), (AK AM [(eV 0), (eC (.int 999))])]), (eV 1)]), (eOp (o2 Nq) [(AK AM [(eV 0), (eC (.int 7))]), (eC (.int 2))])])))
def Be : Fn := Az (A3 2 Hi)
def Lv : Ex := (Am (SA 1 2 (eOp (o2 Dq) [(eC (.int 1)), (AK AM [(eV 0), (eC (.int 4))])]) (eOp (o2 Dq) [(eC (.int 1)), (AK AM [(eV 0), (eC (.int 5))])]))
  (Am (Bs 3 (eOp (o2 wIx) [(JF [(eOp (o2 Dq) [(eC (.int 1)), (AK AM [(eV 0), (eC (.int 3))])]), (eOp (o2 Dq) [(eC (.int 1)), (AK AM [(eV 0), (eC (.int 20))])])]), (AK AM [(eV 0), (eC (.int 2))])]))
  (BV (DF [(eV 1), (eV 2), (eV 3), (AK DY [(eV 0), (eV 1)]), (AK AM [(eV 0), (eC (.int 10))]), (AK AM [(eV 0), (eC (.int 10))])]))))
def Gx : Fn := Az (A3 4 Lv)
def MU : Ex := (Am (Bs 2 (K3 []))
  (Am (KG (OZ [(eOp (o2 wIx) [(JF [(eC (.int 0)), (eC (.int 1)), (AK AM [(eV 0), (eC (.int 5))])]), (AK AM [(eV 0), (eC (.int 3))])])]) (tNm 3) (Cp (LJ Lb (eV 2) [(DF [(AK AM [(eV 0), (eOp (o2 wIx) [(eV 1), (eC (.int 1))])]), (AK Be [(eV 0)]), (AK DY [(eV 0), (eOp (o2 wIx) [(eV 1), (eC (.int 0))])])])])))
  (BV (eOp (o1 Dm) [(eV 2)]))))
def Gv : Fn := Az (A3 4 MU)
def MV : Ex := (Am (Bs 1 (eOp (o2 Dq) [(eC (.int 1)), (AK AM [(eV 0), (eC (.int 12))])]))
  (BV (AK B2 [(eOp (o2 Dq) [(eC (.int 1)), (AK AM [(eV 0), (eV 1)])]), (eV 1)])))
def Fe : Fn := Az (A3 2 MV)
def Kx : Ex := (BV (eOp (o1 Dm) [(CZ [0] 1 (OZ [(eV 1)]) (tNm 1) Bx (eOp (o2 Dq) [(eC (.int 1)), (eOp (o2 wIx) [(JF [(AK AM [(eV 0), (eC (.int 3))]), (AK AM [(eV 0), (eC (.int 99))])]), (AK AM [(eV 0), (eC (.int 2))])])]))]))
def Dj : Fn := Az (A3 2 Kx)
def L7 : Ex := (BV (K3 [(Qw [] 1 (FT (eOp (o2 wIx) [(eV 0), (eC (.int 1))])) (tNm 0) Bx (ZK (o1 Pl) [(eV 0)])), (eOp (o1 Dm) [(eOp (o2 wIx) [(eOp (o2 wIx) [(eV 0), (eC (.int 0))]), (eC (.int 3))])]), (K3 [])]))
def G4 : Fn := Az (A3 1 L7)
def Kq : Ex := (Am (Bs 2 (K3 []))
  (Am (KG (Xq (eOp (o2 wIx) [(eV 0), (eC (.int 2))]) (eOp (o2 wIx) [(eV 1), (eC (.int 2))])) (tTp [(tNm 3), (tNm 4)]) (Am (Bs 5 (AK Bn [(AK BC [(DF [(eOp (o2 wIx) [(eV 0), (eC (.int 1))]), (eC (.int 1))]), (eV 3)]), (AK BC [(DF [(eOp (o2 wIx) [(eV 1), (eC (.int 1))]), (eC (.int 1))]), (eV 4)])]))
  (Cp (LJ Lb (eV 2) [(AK BC [(eV 5), (AK B2 [(eC (.int 1)), (eOp (o2 Dq) [(eOp (o2 wIx) [(eV 0), (eC (.int 1))]), (eOp (o2 wIx) [(eV 1), (eC (.int 1))])])])])]))))
  (BV (eOp (o1 Dm) [(eV 2)]))))
def GB : Fn := Az (A3 6 Kq)
def NM : Ex := (Am (Bs 3 (eOp (o2 wIx) [(eV 2), (eC (.int 3))]))
  (Am (Bs 4 (eOp (o2 Dq) [(eOp (o1 TR) [(CZ [3] 3 (FT (eV 1)) (tTp [(tNm 1), (tNm 2), (tNm 3)]) Bx (eOp (o2 B8) [(eV 2), (eOp (o2 wIx) [(eV 0), (eV 1)])]))]), (eOp (o2 B8) [(eOp (o2 wIx) [(eV 0), (eC (.int 2))]), (eOp (o2 wIx) [(eV 3), (eOp (o1 Xu) [(eC (.int 1))])])])]))
  (BV (AK B2 [(eOp (o2 B8) [(eOp (o2 wIx) [(eV 2), (eC (.int 2))]), (eOp (o2 wIx) [(eV 3), (eOp (o2 wIx) [(eOp (o2 wIx) [(eV 1), (eOp (o2 wIx) [(eV 2), (eC (.int 1))])]), (eC (.int 0))])])]), (eV 4)]))))
def IK : Fn := Az (A3 5 NM)
def L1 : Ex := (Am (Bs 3 (K3 []))
  (Am (KG (Xq (eV 0) (eV 2)) (tTp [(tNm 4), (tNm 5)]) (Cp (LJ Lb (eV 3) [(AK Bn [(AK BC [(eV 4), (AK Di [(DF [(eC (.int 1)), (eC (.int 1))]), (eV 1)])]), (AK BC [(eV 5), (eV 1)])])])))
  (BV (eOp (o1 Dm) [(eV 3)]))))
def EL : Fn := Az (A3 6 L1)
def NU : Ex := (Am (Bs 2 (ZK (o1 Pl) [(eV 0)]))
  (Am (Bs 3 (AK BC [(eOp (o2 wIx) [(eV 2), (eOp (o2 wIx) [(eV 1), (eC (.int 1))])]), (eOp (o2 wIx) [(eV 1), (eC (.int 3))])]))
  (Am (MW (AK Di [(eOp (o2 wIx) [(eV 2), (eOp (o2 wIx) [(eV 1), (eC (.int 1))])]), (eV 3)]) (eV 2) (eOp (o2 wIx) [(eV 1), (eC (.int 1))]))
  (Am (MW (AK Bn [(eOp (o2 wIx) [(eV 2), (eOp (o2 wIx) [(eV 1), (eC (.int 2))])]), (eV 3)]) (eV 2) (eOp (o2 wIx) [(eV 1), (eC (.int 2))]))
  (BV (eOp (o1 Dm) [(eV 2)]))))))
def FN : Fn := Az (A3 4 NU)
def KR : Ex := (Am (NB (tTp [(tNm 3), (tNm 4), (tNm 5)]) (eV 1))
  (xIf (eOp (o2 wEq) [(eOp (o2 wIx) [(eV 2), (eC (.int 0))]), (eC (.str "throw"))]) (Am (SA 6 7 (AK IK [(eV 0), (eV 3), (eV 2)]) (eOp (o2 wIx) [(eOp (o2 wIx) [(eV 3), (eOp (o2 wIx) [(eV 2), (eC (.int 1))])]), (eC (.int 2))]))
  (Am (MW (eOp (o2 QI) [(eOp (o2 wIx) [(eOp (o2 wIx) [(eV 3), (eOp (o2 wIx) [(eV 2), (eC (.int 1))])]), (eC (.int 1))]), (eOp (o2 wIx) [(eV 2), (eC (.int 2))])]) (eOp (o2 wIx) [(eV 3), (eOp (o2 wIx) [(eV 2), (eC (.int 1))])]) (eC (.int 1)))
  (Am (KG (FT (eV 3)) (tNm 8) (MW (AK EL [(eOp (o2 wIx) [(eV 8), (eC (.int 2))]), (eV 6), (eV 7)]) (eV 8) (eC (.int 2))))
  (MW (AK EL [(eV 4), (eV 6), (eV 7)]) (eV 1) (eC (.int 1)))))) (Am (KG (FT (eV 3)) (tNm 8) (MW (AK FN [(eOp (o2 wIx) [(eV 8), (eC (.int 2))]), (eV 2)]) (eV 8) (eC (.int 2))))
  (MW (AK FN [(eV 4), (eV 2)]) (eV 1) (eC (.int 1))))))
def FJ : Fn := Az (A3 9 KR)
def Fx : Ex := (Am (NB (tTp [(tNm 3), (tNm 4), (tNm 5)]) (eV 1))
  (Am (Bs 6 (eOp (o2 wIx) [(eV 2), (eC (.int 0))]))
  (xIf (eOp (o2 wEq) [(eV 6), (eC (.str "bring"))]) (Cp (LJ Lb (eV 3) [(K3 [(eOp (o2 wIx) [(eV 2), (eC (.int 2))]), (eOp (o2 wIx) [(eV 2), (eC (.int 3))]), (eOp (o1 Dm) [(CZ [2] 1 (OZ [(eOp (o2 wIx) [(eV 0), (eC (.int 0))])]) (tNm 1) Bx (DF [(eOp (o1 Ye) [(eOp (o2 wEq) [(eV 1), (eOp (o2 wIx) [(eV 0), (eC (.int 1))])])]), (eC (.int 1))]))])])])) (xIf (eOp (o2 wEq) [(eV 6), (eC (.str "pool"))]) (Am (SA 7 8 (eOp (o2 wIx) [(eV 3), (eOp (o2 wIx) [(eV 2), (eC (.int 1))])]) (eOp (o2 wIx) [(eV 3), (eOp (o2 wIx) [(eV 2), (eC (.int 2))])]))
  (Am (Cp (LJ Lb (eV 3) [(K3 [(eOp (o2 wIx) [(eV 7), (eC (.int 0))]), (eOp (o2 Dq) [(eOp (o2 wIx) [(eV 7), (eC (.int 1))]), (eOp (o2 wIx) [(eV 8), (eC (.int 1))])]), (AK GB [(eV 7), (eV 8)])])]))
  (Am (MW (eC (.int 0)) (eV 7) (eC (.int 1)))
  (MW (eC (.int 0)) (eV 8) (eC (.int 1)))))) (xIf (eOp (o2 (wIn false)) [(eV 6), (DF [(eC (.str "swap")), (eC (.str "trade"))])]) (Am (NB (tTp [(tNm 9), (tNm 10), (tNm 11), (tNm 12)]) (eOp (Ju true false) [(eV 2), (eOp (o1 Xu) [(eC (.int 4))])]))
  (Am (MW (eOp (o2 QI) [(eOp (o2 wIx) [(eOp (o2 wIx) [(eV 3), (eV 9)]), (eC (.int 1))]), (eV 10)]) (eOp (o2 wIx) [(eV 3), (eV 9)]) (eC (.int 1)))
  (Am (Cp (LJ Lb (eV 3) [(K3 [(eV 11), (eV 12), (eOp (o2 wIx) [(eOp (o2 wIx) [(eV 3), (eV 9)]), (eC (.int 2))])])]))
  (Cp (LJ cB (eV 5) [(eOp (o2 B8) [(eOp (Ju true true) [(eV 2), (eC (.int 1)), (eC (.int 2))]), (eOp (o1 Ye) [(eOp (o2 wEq) [(eV 6), (eC (.str "trade"))])])])]))))) (xIf (eOp (o2 wEq) [(eV 6), (eC (.str "spoil"))]) (MW (eOp (o2 QI) [(eOp (o2 wIx) [(eOp (o2 wIx) [(eV 3), (eOp (o2 wIx) [(eV 2), (eC (.int 1))])]), (eC (.int 1))]), (eOp (o2 wIx) [(eV 2), (eC (.int 2))])]) (eOp (o2 wIx) [(eV 3), (eOp (o2 wIx) [(eV 2), (eC (.int 1))])]) (eC (.int 1))) (Cp (AK FJ [(eV 0), (eV 1), (eV 2)]))))))))
def B7 : Fn := Az (A3 13 Fx)
def M8 : Ex := (Am (NB (tTp [(tNm 3), (tNm 4), (tNm 5)]) (eV 2))
  (Am (Bs 6 (CZ [] 2 (ZH (eV 3)) (tTp [(tNm 0), (tNm 1)]) (eOp (o2 wGt) [(eOp (o2 wIx) [(eV 1), (eC (.int 1))]), (eC (.int 0))]) (eV 0)))
  (Am (Bs 7 (AK AM [(eV 0), (eC (.int 12))]))
  (Am (xIf (eOr (eOp (o2 wLt) [(eV 7), (eC (.int 2))]) (eOp (o2 wEq) [(eV 6), (JF [])])) (BV (DF [(eC (.str "bring")), (AK AM [(eV 0), (eOp (o2 wIx) [(eV 1), (eC (.int 0))])]), (AK AM [(eV 0), (eOp (o2 wIx) [(eV 1), (eC (.int 1))])]), (AK Be [(eV 0)])])) EB)
  (Am (Bs 8 (eOp (o2 wIx) [(eV 6), (AK AM [(eV 0), (eOp (o1 Jm) [(eV 6)])])]))
  (Am (Bs 9 (eOp (o2 Dq) [(eC (.int 1)), (AK AM [(eV 0), (eOp (o2 ZM) [(eOp (o2 wIx) [(eOp (o2 wIx) [(eV 3), (eV 8)]), (eC (.int 1))]), (eC (.int 2000))])])]))
  (Am (xIf (eOp (o2 wLt) [(eV 7), (eC (.int 5))]) (Am (Bs 10 (CZ [3, 8] 1 (FT (eV 6)) (tNm 2) (LG (eOp (o2 wNe) [(eV 2), (eV 1)]) (eOp (o2 wEq) [(eOp (o2 wIx) [(eOp (o2 wIx) [(eV 0), (eV 2)]), (eC (.int 0))]), (eOp (o2 wIx) [(eOp (o2 wIx) [(eV 0), (eV 1)]), (eC (.int 0))])])) (eV 2)))
  (xIf (eOp (o2 wNe) [(eV 10), (JF [])]) (BV (DF [(eC (.str "pool")), (eV 8), (eOp (o2 wIx) [(eV 10), (AK AM [(eV 0), (eOp (o1 Jm) [(eV 10)])])])])) EB)) EB)
  (Am (xIf (LG (eOp (o2 wLt) [(eV 7), (eC (.int 8))]) (eOp (o2 wGt) [(eOp (o2 wIx) [(eV 1), (eC (.int 1))]), (eC (.int 1))])) (Am (Bs 11 (eOp (o2 Pt) [(eOp (o2 Dq) [(eOp (o2 Dq) [(eOp (o2 wIx) [(eOp (o2 wIx) [(eV 3), (eV 8)]), (eC (.int 0))]), (eC (.int 1))]), (AK AM [(eV 0), (eOp (o2 QI) [(eOp (o2 wIx) [(eV 1), (eC (.int 1))]), (eC (.int 1))])])]), (eOp (o2 wIx) [(eV 1), (eC (.int 1))])]))
  (Am (Bs 12 (CZ [5] 1 (OZ [(eC (.int 10))]) (tNm 1) (eOp (o2 (wIn true)) [(eV 1), (eV 0)]) (eV 1)))
  (Am (xIf (LG (eOp (o2 wEq) [(eV 7), (eC (.int 7))]) (eOp (o2 wNe) [(eV 12), (JF [])])) (BV (DF [(eC (.str "trade")), (eOp (o2 wIx) [(eV 12), (AK AM [(eV 0), (eOp (o1 Jm) [(eV 12)])])]), (eV 8), (eV 9), (eV 11), (AK Be [(eV 0)])])) EB)
  (BV (DF [(eC (.str "swap")), (eV 8), (eV 9), (eV 11), (AK Be [(eV 0)])]))))) EB)
  (Am (xIf (eOp (o2 wEq) [(eV 7), (eC (.int 8))]) (BV (DF [(eC (.str "spoil")), (eV 8), (eV 9)])) EB)
  (Am (xIf (LG (eOp (o2 wEq) [(eV 7), (eC (.int 9))]) (eOp (o2 wGt) [(eOp (o2 wIx) [(eV 1), (eC (.int 0))]), (eC (.int 1))])) (Am (Bs 13 (AK AM [(eV 0), (eOp (o2 wIx) [(eV 1), (eC (.int 0))])]))
  (BV (DF [(eC (.str "sell")), (eV 13), (eOp (o2 Pt) [(eOp (o2 Dq) [(eOp (o2 Dq) [(eV 13), (eC (.int 1))]), (AK AM [(eV 0), (eOp (o2 QI) [(eOp (o2 wIx) [(eV 1), (eC (.int 0))]), (eC (.int 1))])])]), (eOp (o2 wIx) [(eV 1), (eC (.int 0))])]), (AK Fe [(eV 0)])]))) EB)
  (BV (DF [(eC (.str "throw")), (eV 8), (eV 9), (AK Dj [(eV 0), (eOp (o2 Dq) [(eOp (o2 wIx) [(eV 1), (eC (.int 1))]), (eC (.int 1))])])]))))))))))))
def Dl : Fn := Az (A3 14 M8)
def NR : Ex := (Am (Bs 2 (AK Gx [(eV 0)]))
  (Am (Bs 3 (AK Gv [(eV 0), (eV 2)]))
  (Am (SA 4 5 (AK G4 [(DF [(eV 2), (eV 3), (DF [])])]) (K3 []))
  (Am (KG (OZ [(AK AM [(eV 0), (eOp (o2 Dq) [(eV 1), (eC (.int 1))])])]) (tNm 6) (Am (Bs 7 (AK Dl [(eV 0), (eV 2), (eV 4)]))
  (xIf (eOr (eOp (o2 wNe) [(eOp (o2 wIx) [(eV 7), (eC (.int 0))]), (eC (.str "throw"))]) (eOp (o2 wLt) [(eOp (o1 Jm) [(CZ [] 1 (FT (eV 5)) (tNm 0) (eOp (o2 wEq) [(eOp (o2 wIx) [(eV 0), (eC (.int 0))]), (eC (.str "throw"))]) (eV 0))]), (eC (.int 3))])) (Am (Cp (AK B7 [(eV 2), (eV 4), (eV 7)]))
  (Cp (LJ Lb (eV 5) [(eV 7)]))) EB)))
  (BV (DF [(eV 2), (eV 3), (eOp (o1 Dm) [(eV 5)])]))))))
def Df : Fn := Az (A3 8 NR)
def Jh : Ex := (Am (Bs 3 (AK Df [(eV 0), (eV 1)]))
  (Am (KG (OZ [(eC (.int 5))]) (tNm 4) (Am (xIf (eOp (o2 wNe) [(CZ [2] 1 (FT (eOp (o2 wIx) [(eV 3), (eC (.int 2))])) (tNm 1) (eOp (o2 wEq) [(eOp (o2 wIx) [(eV 1), (eC (.int 0))]), (eV 0)]) (eV 1)), (JF [])]) (BV (eV 3)) EB)
  (Bs 3 (AK Df [(eV 0), (eV 1)]))))
  (BV (eV 3))))
def DC : Fn := Az (A3 5 Jh)
def Kp : Ex := (BV (CZ [1] 2 (ZH (eOp (o2 wIx) [(eV 0), (eC (.int 2))])) (tTp [(tNm 1), (tNm 2)]) (eOp (o2 wEq) [(eOp (o2 wIx) [(eV 2), (eC (.int 0))]), (eV 0)]) (eV 1)))
def Ec : Fn := Az (A3 2 Kp)
def Li : Ex := (Am (Bs 1 (DF [(eC (.int 0)), (eC (.int 1))]))
  (Am (KG (FT (eV 0)) (tNm 2) (Bs 1 (AK Bn [(eV 1), (eV 2)])))
  (BV (eV 1))))
def EY : Fn := Az (A3 3 Li)
def NP : Ex := (BV (CZ [0] 1 (OZ [(eOp (o1 Jm) [(eOp (o2 wIx) [(eV 0), (eC (.int 0))])])]) (tNm 1) Bx (AK EY [(CZ [1] 1 (FT (eV 0)) (tNm 1) Bx (eOp (o2 wIx) [(eV 1), (eV 0)]))])))
def C9 : Fn := Az (A3 1 NP)
def Js : Ex := (Am (Bs 2 (K3 []))
  (Am (KG (FT (eOp (o2 wIx) [(eV 0), (eC (.int 2))])) (tNm 3) (xIf (eOp (o2 wEq) [(eOp (o2 wIx) [(eV 3), (eC (.int 0))]), (eC (.str "throw"))]) (Cp (LJ Lb (eV 2) [(eOp (o2 Dq) [(DF [(eC (.str "spoil"))]), (eOp (Ju true true) [(eV 3), (eC (.int 1)), (eC (.int 3))])])])) (xIf (eOp (o2 (wIn true)) [(eOp (o2 wIx) [(eV 3), (eC (.int 0))]), (eV 1)]) (Cp (LJ Lb (eV 2) [(eV 3)])) EB)))
  (BV (eOp (o2 Dq) [(eOp (Ju false true) [(eV 0), (eC (.int 2))]), (DF [(eOp (o1 Dm) [(eV 2)])])]))))
def D6 : Fn := Az (A3 4 Js)
def Gb : Ex := (Am (Bs 3 (ZK (o2 B8) [(JF [(eC Dx)]), (eV 0)]))
  (Am (KG (Xq (eV 1) (eV 2)) (tTp [(tTp [(tNm 5), (tNm 6)]), (tNm 4)]) (MW (AK G8 [(eOp (o2 wIx) [(eV 3), (eV 5)]), (AK FX [(DF [(eV 6), (eC (.int 1))]), (eV 4)])]) (eV 3) (eV 5)))
  (BV (eOp (o1 Dm) [(eV 3)]))))
def Bh : Fn := Az (A3 7 Gb)
def Ic : Ex := (Am (NB (tTp [(tNm 2), (tNm 3), (tNm 4)]) (eV 0))
  (Am (Bs 5 (AK BS [(eV 0)]))
  (Am (Bs 6 (Qw [] 1 (FT (eV 3)) (tNm 0) Bx (eOp (o2 wIx) [(eV 0), (eC (.int 2))])))
  (Am (KG (FT (eV 4)) (tNm 7) (Am (xIf (eOp (o2 wEq) [(eOp (o2 wIx) [(eV 7), (eC (.int 0))]), (eC (.str "bring"))]) (Cp (LJ Lb (eV 6) [(AK Cn [(eOp (o2 wIx) [(eV 2), (eC (.int 0))]), (eOp (o2 wIx) [(eV 7), (eC (.int 1))])])])) (xIf (eOp (o2 (wIn false)) [(eOp (o2 wIx) [(eV 7), (eC (.int 0))]), (eC Cf)]) (Cp (LJ Lb (eV 6) [(AK Ae [(eV 5), (eV 6), (eV 7)])])) EB))
  (Bs 5 (AK Ad [(eV 5), (eV 7)]))))
  (BV (AK Bh [(eOp (o2 wIx) [(eV 2), (eC (.int 1))]), (eV 5), (CZ [1] 1 (FT (eV 6)) (tNm 1) Bx (eOp (o2 wIx) [(eV 1), (eV 0)]))]))))))
def DO : Fn := Az (A3 8 Ic)
def Ie : Ex := (BV (AK Cg [(eV 1), (eC (.int 0)), (eOp (o2 QI) [(eOp (o2 wIx) [(eV 0), (eC (.int 0))]), (eC (.int 1))])]))
def GI : Fn := Az (A3 2 Ie)
def Ej : Ex := (xIf (WR (AK GI [(eOp (o2 wIx) [(eV 0), (eC (.int 0))]), (eV 1)])) Pd EB)
def BU : Fn := Az (A3 2 Ej)
def Km : Ex := (Am (Cp (AK BM [(eV 0)]))
  (Am (Cp (AK BU [(eV 0), (eV 1)]))
  (BV (AK DO [(eV 0), (eV 1)]))))
def Bc : Fn := Az (A3 2 Km)
def JX : Ex := (BV (eOp (o1 Dm) [(CZ [] 2 (Xq (eV 0) (eV 1)) (tTp [(tNm 0), (tNm 1)]) Bx (AK G7 [(eV 0), (eV 1)]))]))
def FF : Fn := Az (A3 2 JX)
def Hn : Ex := (Am (NB (tTp [(tNm 2), (tNm 3)]) (eOp (Ju false true) [(eOp (o2 wIx) [(eV 0), (eC (.int 0))]), (eC (.int 2))]))
  (Am (NB (tTp [(tNm 4), (tNm 5), (tNm 6)]) (AK Fw [(eV 0), (eV 1)]))
  (BV (CZ [3, 4, 5] 1 (OZ [(eV 2)]) (tNm 3) Bx (AK Bh [(eV 0), (eV 1), (CZ [3] 1 (FT (eV 2)) (tNm 1) Bx (eOp (o2 wIx) [(eV 1), (eV 0)]))])))))
def CY : Fn := Az (A3 7 Hn)
def JS : Ex := (Am (Cp (AK BM [(eV 0)]))
  (Am (Cp (AK BU [(eV 0), (eV 1)]))
  (BV (AK FF [(eOp (o2 wIx) [(AK CY [(eV 0), (eOp (o1 Jm) [(eOp (o2 wIx) [(eV 0), (eC (.int 2))])])]), (eV 1)]), (AK DO [(eV 0), (eV 1)])]))))
def CD : Fn := Az (A3 2 JS)
def Lq : Ex := (Am (Bs 2 (AK BS [(eV 0)]))
  (Am (KG (FT (eOp (Ju false true) [(eOp (o2 wIx) [(eV 0), (eC (.int 2))]), (eV 1)])) (tNm 3) (Bs 2 (AK Ad [(eV 2), (eV 3)])))
  (BV (eV 2))))
def Gn : Fn := Az (A3 4 Lq)
def Ki : Ex := (Am (Cp (AK BM [(eV 0)]))
  (Am (Cp (AK Bu [(eV 0), (eV 1)]))
  (Am (Bs 2 (AK Gn [(eV 0), (eV 1)]))
  (BV (eOp (o1 Dm) [(CZ [2] 1 (OZ [(eOp (o2 wIx) [(eOp (o2 wIx) [(eV 0), (eC (.int 0))]), (eC (.int 1))])]) (tNm 1) Bx (eOp (o1 TR) [(CZ [1] 2 (FT (eV 0)) (tTp [(tNm 1), (tNm 2)]) (eOp (o2 wEq) [(eV 1), (eV 0)]) (eV 2))]))])))))
def EV : Fn := Az (A3 3 Ki)
def JN : Ex := (Am (Cp (AK BM [(eV 0)]))
  (Am (Cp (AK Bu [(eV 0), (eV 1)]))
  (Am (Cp (AK BU [(eV 0), (eV 2)]))
  (BV (eOp (o2 wIx) [(AK CY [(eV 0), (eV 1)]), (eV 2)])))))
def Dz : Fn := Az (A3 3 JN)
def Ku : Ex := (BV (AK Cg [(eV 1), (eC (.int 0)), (eOp (o2 QI) [(eOp (o1 Jm) [(eOp (o2 wIx) [(eV 0), (eC (.int 2))])]), (eC (.int 1))])]))
def HU : Fn := Az (A3 2 Ku)
def HP : Ex := (BV (LG (AK HU [(eV 0), (eV 2)]) (eOp (o2 wEq) [(eOp (o2 wIx) [(eOp (o2 wIx) [(eOp (o2 wIx) [(eV 0), (eC (.int 2))]), (eV 2)]), (eC (.int 0))]), (eV 1)])))
def Fg : Fn := Az (A3 3 HP)
def F5 : Ex := (xIf (WR (AK Fg [(eV 0), (eC (.str "sell")), (eV 1)])) Pd EB)
def Cq : Fn := Az (A3 2 F5)
def HC : Ex := (Am (NB (tTp [(tNm 2), (tNm 3), (tNm 4)]) (eV 0))
  (BV (DF [(eV 2), (eV 3), (eOp (o2 Dq) [(eOp (Ju false true) [(eV 4), (eV 1)]), (eOp (Ju true false) [(eV 4), (eOp (o2 Dq) [(eV 1), (eC (.int 1))])])])])))
def DV : Fn := Az (A3 5 HC)
def NQ : Ex := (Am (Cp (AK BM [(eV 0)]))
  (Am (Cp (AK Cq [(eV 0), (eV 1)]))
  (BV (AK DV [(eV 0), (eV 1)]))))
def GW : Fn := Az (A3 2 NQ)
def UB : Ex := (Am (KG (OZ [(eOp (o2 bh) [(eC (.int 1)), (eOp (o2 ZM) [(eOp (o1 Jm) [(eV 0)]), (eC (.int 3))])])]) (tNm 1) (Am (Bs 2 (AK Hw [(AK C5 [(eV 0), (eV 1)])]))
  (Am (Bs 3 (AK DC [(eV 2), (eC (.int 14)), (eC (.str "sell"))]))
  (Am (Bs 4 (AK D6 [(eV 3), (DF [(eC (.str "sell"))])]))
  (Am (Bs 5 (eLR (eOp (o2 wIx) [(eOp (o2 wIx) [(eV 3), (eC (.int 0))]), (eC (.int 0))])))
  (Am (KG (FT (DF [(eV 3), (eV 4)])) (tNm 6) (Am (Bs 7 (CZ [] 1 (FT (AK EV [(eV 6), (eOp (o1 Jm) [(eOp (o2 wIx) [(eV 6), (eC (.int 2))])])])) (tNm 0) Bx (DF [(eV 0), (eC (.int 1))])))
  (Am (xIf (eOp (o2 wNe) [(AK C9 [(CZ [6] 1 (FT (eV 5)) (tNm 1) Bx (AK Bc [(eV 0), (eV 1)]))]), (eV 7)]) (BV (eC (.bl false))) EB)
  (Am (Bs 8 (AK C9 [(CZ [6] 1 (FT (eV 5)) (tNm 1) Bx (AK CD [(eV 0), (eV 1)]))]))
  (xIf (eOp (o2 wNe) [(eV 8), (eOp (o2 B8) [(JF [(DF [(eC (.int 0)), (eC (.int 1))])]), (eOp (o2 wIx) [(eOp (o2 wIx) [(eV 3), (eC (.int 0))]), (eC (.int 1))])])]) (BV (eC (.bl false))) EB)))))
  (KG (FT (eV 5)) (tNm 9) (Am (Bs 10 (AK Bc [(eV 3), (eV 9)]))
  (Am (xIf (eOr (eOp (o2 wNe) [(AK Bc [(eV 4), (eV 9)]), (eV 10)]) (eOp (o2 wNe) [(AK Dz [(eV 4), (eOp (o1 Jm) [(eOp (o2 wIx) [(eV 4), (eC (.int 2))])]), (eV 9)]), (eV 10)])) (BV (eC (.bl false))) EB)
  (Am (xIf (eOp (o2 wNe) [(AK CD [(eV 4), (eV 9)]), (eOp (o2 B8) [(DF [(DF [(eC (.int 0)), (eC (.int 1))])]), (eOp (o2 wIx) [(eOp (o2 wIx) [(eV 3), (eC (.int 0))]), (eC (.int 1))])])]) (BV (eC (.bl false))) EB)
  (KG (FT (eOp (Ju false true) [(AK Ec [(eV 3), (eC (.str "sell"))]), (eC (.int 2))])) (tNm 11) (xIf (eOp (o2 wNe) [(AK Bc [(AK GW [(eV 3), (eV 11)]), (eV 9)]), (eV 10)]) (BV (eC (.bl false))) EB))))))))))))
  (BV (eC (.bl true))))
def OF : Fn := Az (A3 12 UB)
end Mi
end
section
namespace Mi
open PySem PySem.Spec L2
section
open PyProof.Rows (boot_isinstance boot_int boot_bool boot_tuple boot_str boot_list boot_abs boot_all boot_any boot_sum boot_max boot_min boot_range boot_enumerate boot_zip boot_sorted boot_set boot_divmod)
def top (i : Nat) : Stmt := PySem.Challenge.pw_sharetrail_k65_whole_alone_and_together.main.body.getD i (.Pass ⟨0, 0, 0, 0⟩)
def Yk (sc osc : Scope) : Scope := { sc with names := sc.names.map fun (n, k) => if (k == .free && osc.kind == .function && osc.names.lookup n == some .cell) then (n, .cell) else (n, k) }
abbrev s_p_is_whole : Stmt := top 3
abbrev s_p_is_from : Stmt := top 4
abbrev s_p_is_within : Stmt := top 5
abbrev s_p_greatest_divisor : Stmt := top 6
abbrev s_p_lowest : Stmt := top 7
abbrev s_p_plus : Stmt := top 8
abbrev s_p_less : Stmt := top 9
abbrev s_p_less_each : Stmt := top 10
abbrev s_p_times : Stmt := top 11
abbrev s_p_mixed : Stmt := top 12
abbrev s_p_is_partner : Stmt := top 21
abbrev s_p_has_pieces : Stmt := top 22
abbrev s_p_can_pool : Stmt := top 23
abbrev s_p_can_swap : Stmt := top 24
abbrev s_p_can_do : Stmt := top 25
abbrev s_p_held_without : Stmt := top 26
abbrev s_p_held_behind : Stmt := top 27
abbrev s_p_held_at_first : Stmt := top 28
abbrev s_p_held_by : Stmt := top 29
abbrev s_p_made_from : Stmt := top 30
abbrev s_p_first_wrong : Stmt := top 31
abbrev s_p_refuse_undone : Stmt := top 32
abbrev s_p_is_place : Stmt := top 33
abbrev s_p_is_place_of : Stmt := top 34
abbrev s_p_refuse_no_number : Stmt := top 35
abbrev s_p_refuse_no_partner : Stmt := top 36
abbrev s_p_all_to_one : Stmt := top 38
abbrev s_p_mixed_shares : Stmt := top 39
abbrev s_p_made_shares : Stmt := top 40
abbrev s_p_worth_of_all : Stmt := top 41
abbrev s_p_part_thrown : Stmt := top 42
abbrev s_p_thrown_shares : Stmt := top 43
abbrev s_p_sold_shares : Stmt := top 44
abbrev s_p_shares_behind : Stmt := top 45
abbrev s_p_owners_behind : Stmt := top 46
abbrev s_p_state_by : Stmt := top 47
abbrev s_p_sums_by_kinds : Stmt := top 48
abbrev s_p_theirs_told : Stmt := top 49
abbrev s_p_theirs_by : Stmt := top 50
abbrev s_p_alone_told : Stmt := top 52
abbrev s_p_alone_of : Stmt := top 53
abbrev s_p_by_others : Stmt := top 54
abbrev s_p_refuse_no_sale : Stmt := top 56
abbrev s_p_without_deed : Stmt := top 57
abbrev s_p_unsold : Stmt := top 58
abbrev s_p_stock_by : Stmt := top 60
abbrev s_law_pen : Stmt := top 62
abbrev s_law_cell_at : Stmt := top 63
abbrev s_law_draw : Stmt := top 64
abbrev s_law_common : Stmt := top 65
abbrev s_law_made : Stmt := top 66
abbrev s_law_whole : Stmt := top 67
abbrev s_law_train : Stmt := top 68
abbrev s_law_pieces : Stmt := top 69
abbrev s_law_first : Stmt := top 70
abbrev s_law_begun : Stmt := top 71
abbrev s_law_share : Stmt := top 72
abbrev s_law_worths : Stmt := top 73
abbrev s_law_deed : Stmt := top 74
abbrev s_law_plus : Stmt := top 75
abbrev s_law_times : Stmt := top 76
abbrev s_law_pooled : Stmt := top 77
abbrev s_law_cost : Stmt := top 78
abbrev s_law_less : Stmt := top 79
abbrev s_law_borne : Stmt := top 80
abbrev s_law_sold : Stmt := top 81
abbrev s_law_turn : Stmt := top 82
abbrev s_law_do : Stmt := top 83
abbrev s_law_book : Stmt := top 84
abbrev s_law_book_of : Stmt := top 85
abbrev s_law_without : Stmt := top 86
abbrev s_law_sum : Stmt := top 87
abbrev s_law_sums : Stmt := top 88
abbrev s_law_places : Stmt := top 89
abbrev s_p_law : Stmt := top 90
section
variable (P : Program) (w : World) (K : PySem.W.Frag) (mg : Str -> Option Value) (base : Heap)
abbrev Ka : Prop := St.Dfn P w K mg base "is_whole" 1 ["thing"] (spD K 1 Ep)
abbrev LX : Prop := St.Dfn P w K mg base "is_from" 2 ["thing", "low"] (spD K 2 Ff)
abbrev FG : Prop := St.Dfn P w K mg base "is_within" 3 ["thing", "low", "high"] (spD K 3 Cg)
abbrev FC : Prop := St.Dfn P w K mg base "greatest_divisor" 1 ["one", "other"] (spD K 2 CP)
abbrev FI : Prop := St.Dfn P w K mg base "lowest" 2 ["top", "bottom"] (spD K 2 C4)
abbrev Nd : Prop := St.Dfn P w K mg base "plus" 3 ["one", "other"] (spD K 2 G8)
abbrev Ny : Prop := St.Dfn P w K mg base "less" 3 ["one", "other"] (spD K 2 G7)
abbrev JM : Prop := St.Dfn P w K mg base "less_each" 4 ["ones", "others"] (spD K 2 FF)
abbrev Lm : Prop := St.Dfn P w K mg base "times" 3 ["one", "other"] (spD K 2 FX)
abbrev PM : Prop := St.Dfn P w K mg base "mixed" 3 ["one", "weight", "other", "more"] (spD K 4 Hx)
abbrev Ig : Prop := St.Dfn P w K mg base "is_partner" 4 ["train", "thing"] (spD K 2 GI)
abbrev ES : Prop := St.Dfn P w K mg base "has_pieces" 1 ["held", "load", "pieces"] (spD K 3 CO)
abbrev Kn : Prop := St.Dfn P w K mg base "can_pool" 2 ["held", "load", "other"] (spD K 3 F2)
abbrev Kj : Prop := St.Dfn P w K mg base "can_swap" 2 ["held", "load", "given", "kind"] (spD K 4 Em)
abbrev NF : Prop := St.Dfn P w K mg base "can_do" 3 ["held", "done", "deed"] (spD K 3 CS)
abbrev HA : Prop := St.Dfn P w K mg base "held_without" 1 ["held", "load", "pieces"] (spD K 3 Bq)
abbrev Cv : Prop := St.Dfn P w K mg base "held_behind" 2 ["held", "deed"] (spD K 2 Ad)
abbrev Cb : Prop := St.Dfn P w K mg base "held_at_first" 1 ["book"] (spD K 1 BS)
abbrev MA : Prop := St.Dfn P w K mg base "held_by" 3 ["book", "many"] (spD K 2 Gn)
abbrev Jc : Prop := St.Dfn P w K mg base "made_from" 1 ["deed"] (spD K 1 A5)
abbrev He : Prop := St.Dfn P w K mg base "first_wrong" 4 ["book"] (spD K 1 Ds)
abbrev B1 : Prop := St.Dfn P w K mg base "refuse_undone" 5 ["book"] (spD K 1 BM)
abbrev Kh : Prop := St.Dfn P w K mg base "is_place" 4 ["book", "thing"] (spD K 2 HU)
abbrev HS : Prop := St.Dfn P w K mg base "is_place_of" 5 ["book", "word", "thing"] (spD K 3 Fg)
abbrev DH : Prop := St.Dfn P w K mg base "refuse_no_number" 4 ["book", "many"] (spD K 2 Bu)
abbrev CF : Prop := St.Dfn P w K mg base "refuse_no_partner" 5 ["book", "partner"] (spD K 2 BU)
abbrev GD : Prop := St.Dfn P w K mg base "all_to_one" 1 ["many", "one"] (spD K 2 Cn)
abbrev Ez : Prop := St.Dfn P w K mg base "mixed_shares" 4 ["shares", "weight", "others", "more"] (spD K 4 Cm)
abbrev Fm : Prop := St.Dfn P w K mg base "made_shares" 5 ["held", "shares", "deed"] (spD K 3 Ae)
abbrev HK : Prop := St.Dfn P w K mg base "worth_of_all" 1 ["train", "held", "worths"] (spD K 3 DP)
abbrev Hs : Prop := St.Dfn P w K mg base "part_thrown" 3 ["train", "held", "deed"] (spD K 3 EC)
abbrev Gg : Prop := St.Dfn P w K mg base "thrown_shares" 5 ["train", "held", "owners", "deed", "shares"] (spD K 5 C3)
abbrev Hv : Prop := St.Dfn P w K mg base "sold_shares" 4 ["deed", "shares"] (spD K 2 D5)
abbrev ER : Prop := St.Dfn P w K mg base "shares_behind" 6 ["train", "held", "owners", "deed", "shares"] (spD K 5 An)
abbrev Ge : Prop := St.Dfn P w K mg base "owners_behind" 7 ["train", "held", "owners", "deed"] (spD K 4 Av)
abbrev KW : Prop := St.Dfn P w K mg base "state_by" 8 ["book", "many"] (spD K 2 Fw)
abbrev EJ : Prop := St.Dfn P w K mg base "sums_by_kinds" 4 ["kinds", "held", "shares"] (spD K 3 Bh)
abbrev Fi : Prop := St.Dfn P w K mg base "theirs_told" 9 ["book", "many"] (spD K 2 CY)
abbrev JK : Prop := St.Dfn P w K mg base "theirs_by" 10 ["book", "many", "partner"] (spD K 3 Dz)
abbrev GH : Prop := St.Dfn P w K mg base "alone_told" 6 ["book", "partner"] (spD K 2 DO)
abbrev Kg : Prop := St.Dfn P w K mg base "alone_of" 7 ["book", "partner"] (spD K 2 Bc)
abbrev Jg : Prop := St.Dfn P w K mg base "by_others" 10 ["book", "partner"] (spD K 2 CD)
abbrev F7 : Prop := St.Dfn P w K mg base "refuse_no_sale" 6 ["book", "place"] (spD K 2 Cq)
abbrev HH : Prop := St.Dfn P w K mg base "without_deed" 1 ["book", "place"] (spD K 2 DV)
abbrev Mu : Prop := St.Dfn P w K mg base "unsold" 7 ["book", "place"] (spD K 2 GW)
abbrev KU : Prop := St.Dfn P w K mg base "stock_by" 6 ["book", "many"] (spD K 2 EV)
abbrev Ob : Prop := St.Dfn P w K mg base "_law_pen" 1 ["_law_cell"] (spD K 1 Hw)
abbrev Jd : Prop := St.Dfn P w K mg base "_law_cell_at" 1 ["_law_script", "_law_k"] (spD K 2 C5)
abbrev C2 : Prop := St.Dfn P w K mg base "_law_draw" 1 ["_law_pen_here", "_law_bound"] (spD K 2 AM)
abbrev KY : Prop := St.Dfn P w K mg base "_law_common" 1 ["_law_one", "_law_other"] (spD K 2 Fv)
abbrev EH : Prop := St.Dfn P w K mg base "_law_made" 2 ["_law_top", "_law_bottom"] (spD K 2 B2)
abbrev Im : Prop := St.Dfn P w K mg base "_law_whole" 3 ["_law_pen_here", "_law_many"] (spD K 2 DY)
abbrev LN : Prop := St.Dfn P w K mg base "_law_train" 4 ["_law_pen_here"] (spD K 1 Gx)
abbrev Hk : Prop := St.Dfn P w K mg base "_law_pieces" 2 ["_law_pen_here"] (spD K 1 Be)
abbrev Le : Prop := St.Dfn P w K mg base "_law_first" 4 ["_law_pen_here", "_law_train_here"] (spD K 2 Gv)
abbrev MH : Prop := St.Dfn P w K mg base "_law_begun" 1 ["_law_book_here"] (spD K 1 G4)
abbrev LS : Prop := St.Dfn P w K mg base "_law_share" 3 ["_law_pen_here"] (spD K 1 Fe)
abbrev Kt : Prop := St.Dfn P w K mg base "_law_worths" 2 ["_law_pen_here", "_law_many"] (spD K 2 Dj)
abbrev NA : Prop := St.Dfn P w K mg base "_law_deed" 4 ["_law_pen_here", "_law_train_here", "_law_state"] (spD K 3 Dl)
abbrev FP : Prop := St.Dfn P w K mg base "_law_plus" 3 ["_law_one", "_law_other"] (spD K 2 Bn)
abbrev Gj : Prop := St.Dfn P w K mg base "_law_times" 3 ["_law_one", "_law_other"] (spD K 2 BC)
abbrev Kw : Prop := St.Dfn P w K mg base "_law_pooled" 4 ["_law_one", "_law_other"] (spD K 2 GB)
abbrev NW : Prop := St.Dfn P w K mg base "_law_cost" 3 ["_law_train_here", "_law_loads", "_law_deed_here"] (spD K 3 IK)
abbrev Jw : Prop := St.Dfn P w K mg base "_law_less" 4 ["_law_one", "_law_other"] (spD K 2 Di)
abbrev MI : Prop := St.Dfn P w K mg base "_law_borne" 5 ["_law_shares", "_law_part", "_law_owners"] (spD K 3 EL)
abbrev NS : Prop := St.Dfn P w K mg base "_law_sold" 5 ["_law_shares", "_law_deed_here"] (spD K 2 FN)
abbrev Na : Prop := St.Dfn P w K mg base "_law_turn" 6 ["_law_train_here", "_law_state", "_law_deed_here"] (spD K 3 FJ)
abbrev Q0 : Prop := St.Dfn P w K mg base "_law_do" 7 ["_law_train_here", "_law_state", "_law_deed_here"] (spD K 3 B7)
abbrev NO : Prop := St.Dfn P w K mg base "_law_book" 8 ["_law_pen_here", "_law_most"] (spD K 2 Df)
abbrev JJ : Prop := St.Dfn P w K mg base "_law_book_of" 9 ["_law_pen_here", "_law_most", "_law_word"] (spD K 3 DC)
abbrev Jr : Prop := St.Dfn P w K mg base "_law_without" 1 ["_law_book_here", "_law_words"] (spD K 2 D6)
abbrev Pm : Prop := St.Dfn P w K mg base "_law_sum" 4 ["_law_some"] (spD K 1 EY)
abbrev NG : Prop := St.Dfn P w K mg base "_law_sums" 5 ["_law_rows"] (spD K 1 C9)
abbrev Kf : Prop := St.Dfn P w K mg base "_law_places" 1 ["_law_book_here", "_law_word"] (spD K 2 Ec)
end
structure Bts (mg : Str -> Option Value) : Prop where
 abs : mg "abs" = none
 bool : mg "bool" = none
 enumerate : mg "enumerate" = none
 int : mg "int" = none
 isi : mg "isinstance" = none
 len : mg "len" = none
 list : mg "list" = none
 max : mg "max" = none
 min : mg "min" = none
 range : mg "range" = none
 sorted : mg "sorted" = none
 sum : mg "sum" = none
 tuple : mg "tuple" = none
 zip : mg "zip" = none
end
section
open PyProof.Rows (boot_isinstance boot_int boot_bool boot_tuple boot_str boot_list boot_abs boot_all boot_any boot_sum boot_max boot_min boot_range boot_enumerate boot_zip boot_sorted boot_set boot_divmod)
variable {P : Program} {w : World} {K : PySem.W.Frag} {mg : Str -> Option Value} {base : Heap}
theorem OY : AQ ["thing"] ["thing"] (AI s_p_is_whole) := ⟨rfl, rfl, rfl, by decide +kernel, rfl, by decide +kernel, by decide +kernel⟩
theorem Eg  (S : St.Src K mg "is_whole" s_p_is_whole) (B : Bts mg) : Ka P w K mg base := by
 refine Af (k := 0) S OY rfl (fun f fd F => F.binds fun _ _ _ _ _ _ us hl => match us, hl with | [_], _ => rfl) fun f cdv A outer s H E hr => ?_
 have hu := AS hr
 exact (AJ (AU (Jk (A7 O5 rfl B.isi boot_isinstance (AA (AB 0) (AA (aN rfl B.int boot_int) AE))) (Ko (aQ (A7 O5 rfl B.isi boot_isinstance (AA (AB 0) (AA (aN rfl B.bool boot_bool) AE))))))))
theorem Ox : AQ ["thing", "low"] ["thing", "low"] (AI s_p_is_from) := ⟨rfl, rfl, rfl, by decide +kernel, rfl, by decide +kernel, by decide +kernel⟩
theorem Fc  (S : St.Src K mg "is_from" s_p_is_from) (Eg : Ka P w K mg base) : LX P w K mg base := by
 refine Af (k := 1) S Ox rfl (fun f fd F => F.binds fun _ _ _ _ _ _ us hl => match us, hl with | [_, _], _ => rfl) fun f cdv A outer s H E hr => ?_
 have hu := AS hr
 exact (AJ (AU (Jk (AH Eg (hr.mono (by decide)) rfl (AA (AB 0) AE)) (Ko (Hf UH (AB 0) (AB 1))))))
theorem Mj : AQ ["thing", "low", "high"] ["thing", "low", "high"] (AI s_p_is_within) := ⟨rfl, rfl, rfl, by decide +kernel, rfl, by decide +kernel, by decide +kernel⟩
theorem BZ  (S : St.Src K mg "is_within" s_p_is_within) (Fc : LX P w K mg base) : FG P w K mg base := by
 refine Af (k := 2) S Mj rfl (fun f fd F => F.binds fun _ _ _ _ _ _ us hl => match us, hl with | [_, _, _], _ => rfl) fun f cdv A outer s H E hr => ?_
 have hu := AS hr
 exact (AJ (AU (Jk (AH Fc (hr.mono (by decide)) rfl (AA (AB 0) (AA (AB 1) AE))) (Ko (Hf aA (AB 0) (AB 2))))))
theorem C0 : AQ ["one", "other"] ["one", "other"] (AI s_p_greatest_divisor) := ⟨rfl, rfl, rfl, by decide +kernel, rfl, by decide +kernel, by decide +kernel⟩
theorem Bv  (S : St.Src K mg "greatest_divisor" s_p_greatest_divisor) (B : Bts mg) : FC P w K mg base := by
 refine Af (k := 0) S C0 rfl (fun f fd F => F.binds fun _ _ _ _ _ _ us hl => match us, hl with | [_, _], _ => rfl) fun f cdv A outer s H E hr => ?_
 have hu := AS hr
 exact (AG (L3 (i := 0) (j := 1) rfl C0.nd rfl rfl (by decide) rfl rfl (A7 MN rfl B.abs boot_abs (AA (AB 0) AE)) (A7 MN rfl B.abs boot_abs (AA (AB 1) AE)))
    (AG (Q9 (Rz 1) PassesOwn.never (Ao (GY hu) (AB 1) AF) (AJ (L3 (i := 0) (j := 1) rfl C0.nd rfl rfl (by decide) rfl rfl (AB 1) (Ah GG (AB 0) (AB 1)))))
    (AJ (AU (AB 0)))))
theorem Lh : AQ ["top", "bottom", "divisor"] ["top", "bottom"] (AI s_p_lowest) := ⟨rfl, rfl, rfl, by decide +kernel, rfl, by decide +kernel, by decide +kernel⟩
theorem BQ  (S : St.Src K mg "lowest" s_p_lowest) (Bv : FC P w K mg base) : FI P w K mg base := by
 refine Af (k := 1) S Lh rfl (fun f fd F => F.binds fun _ _ _ _ _ _ us hl => match us, hl with | [_, _], _ => rfl) fun f cdv A outer s H E hr => ?_
 have hu := AS hr
 exact (AG (Ap 2 (AH Bv (hr.mono (by decide)) rfl (AA (AB 0) (AA (AB 1) AE))) Lh.nd)
    (AJ (AU (BJ (AA (Ah Gq (AB 0) (AB 2)) (AA (Ah Gq (AB 1) (AB 2)) AE))))))
theorem UA : AQ ["one", "other"] ["one", "other"] (AI s_p_plus) := ⟨rfl, rfl, rfl, by decide +kernel, rfl, by decide +kernel, by decide +kernel⟩
theorem F1  (S : St.Src K mg "plus" s_p_plus) (BQ : FI P w K mg base) : Nd P w K mg base := by
 refine Af (k := 2) S UA rfl (fun f fd F => F.binds fun _ _ _ _ _ _ us hl => match us, hl with | [_, _], _ => rfl) fun f cdv A outer s H E hr => ?_
 have hu := AS hr
 exact (AJ (AU (AH BQ (hr.mono (by decide)) rfl (AA (Ah As (Ah Au (AL AZ (AB 0) AF) (AL AZ (AB 1) AF)) (Ah Au (AL AZ (AB 1) AF) (AL AZ (AB 0) AF))) (AA (Ah Au (AL AZ (AB 0) AF) (AL AZ (AB 1) AF)) AE)))))
end
section
open PyProof.Rows (boot_isinstance boot_int boot_bool boot_tuple boot_str boot_list boot_abs boot_all boot_any boot_sum boot_max boot_min boot_range boot_enumerate boot_zip boot_sorted boot_set boot_divmod)
variable {P : Program} {w : World} {K : PySem.W.Frag} {mg : Str -> Option Value} {base : Heap}
theorem Tp : AQ ["one", "other"] ["one", "other"] (AI s_p_less) := ⟨rfl, rfl, rfl, by decide +kernel, rfl, by decide +kernel, by decide +kernel⟩
theorem F3  (S : St.Src K mg "less" s_p_less) (BQ : FI P w K mg base) : Ny P w K mg base := by
 refine Af (k := 2) S Tp rfl (fun f fd F => F.binds fun _ _ _ _ _ _ us hl => match us, hl with | [_, _], _ => rfl) fun f cdv A outer s H E hr => ?_
 have hu := AS hr
 exact (AJ (AU (AH BQ (hr.mono (by decide)) rfl (AA (Ah FV (Ah Au (AL AZ (AB 0) AF) (AL AZ (AB 1) AF)) (Ah Au (AL AZ (AB 1) AF) (AL AZ (AB 0) AF))) (AA (Ah Au (AL AZ (AB 0) AF) (AL AZ (AB 1) AF)) AE)))))
theorem Md : AQ ["ones", "others"] ["ones", "others"] (AI s_p_less_each) := ⟨rfl, rfl, rfl, by decide +kernel, rfl, by decide +kernel, by decide +kernel⟩
theorem K7 : Ab ["ones", "others"] (AI s_p_less_each) ["one", "other"] (ixC [] 2) (IL s_p_less_each 0) := ⟨rfl, by decide +kernel, by decide +kernel, by decide +kernel, by decide +kernel⟩
theorem HG : (["one", "other"] : List Str).Nodup := by decide +kernel
theorem EE  (S : St.Src K mg "less_each" s_p_less_each) (B : Bts mg) (F3 : Ny P w K mg base) : JM P w K mg base := by
 refine Af (k := 3) S Md rfl (fun f fd F => F.binds fun _ _ _ _ _ _ us hl => match us, hl with | [_, _], _ => rfl) fun f cdv A outer s H E hr => ?_
 have hu := AS hr
 exact (AJ (AU (BE BG rfl B.tuple boot_tuple (AA (B4 [] 2 ["one", "other"] rfl K7 (PL rfl B.zip (AB 0) (AB 1)) (fun s H fp => ⟨(EF rfl (AO (Aj 0 HG) (AO (Aj 1 HG) Bf))), B3, (AH F3 (hr.mono (by decide)) rfl (AA (AB 0) (AA (AB 1) AE)))⟩)) AE))))
theorem Ry : AQ ["one", "other"] ["one", "other"] (AI s_p_times) := ⟨rfl, rfl, rfl, by decide +kernel, rfl, by decide +kernel, by decide +kernel⟩
theorem Eb  (S : St.Src K mg "times" s_p_times) (BQ : FI P w K mg base) : Lm P w K mg base := by
 refine Af (k := 2) S Ry rfl (fun f fd F => F.binds fun _ _ _ _ _ _ us hl => match us, hl with | [_, _], _ => rfl) fun f cdv A outer s H E hr => ?_
 have hu := AS hr
 exact (AJ (AU (AH BQ (hr.mono (by decide)) rfl (AA (Ah Au (AL AZ (AB 0) AF) (AL AZ (AB 1) AF)) (AA (Ah Au (AL AZ (AB 0) AF) (AL AZ (AB 1) AF)) AE)))))
theorem Mw : AQ ["one", "weight", "other", "more", "top"] ["one", "weight", "other", "more"] (AI s_p_mixed) := ⟨rfl, rfl, rfl, by decide +kernel, rfl, by decide +kernel, by decide +kernel⟩
theorem HV  (S : St.Src K mg "mixed" s_p_mixed) (BQ : FI P w K mg base) : PM P w K mg base := by
 refine Af (k := 2) S Mw rfl (fun f fd F => F.binds fun _ _ _ _ _ _ us hl => match us, hl with | [_, _, _, _], _ => rfl) fun f cdv A outer s H E hr => ?_
 have hu := AS hr
 exact (AG (Ap 4 (Ah As (Ah Au (Ah Au (AL AZ (AB 0) AF) (AL AZ (AB 2) AF)) (AB 1)) (Ah Au (Ah Au (AL AZ (AB 2) AF) (AL AZ (AB 0) AF)) (AB 3))) Mw.nd)
    (AJ (AU (AH BQ (hr.mono (by decide)) rfl (AA (AB 4) (AA (Ah Au (Ah Au (AL AZ (AB 0) AF) (AL AZ (AB 2) AF)) (Ah As (AB 1) (AB 3))) AE))))))
theorem LU : AQ ["train", "thing"] ["train", "thing"] (AI s_p_is_partner) := ⟨rfl, rfl, rfl, by decide +kernel, rfl, by decide +kernel, by decide +kernel⟩
theorem DJ  (S : St.Src K mg "is_partner" s_p_is_partner) (BZ : FG P w K mg base) : Ig P w K mg base := by
 refine Af (k := 3) S LU rfl (fun f fd F => F.binds fun _ _ _ _ _ _ us hl => match us, hl with | [_, _], _ => rfl) fun f cdv A outer s H E hr => ?_
 have hu := AS hr
 exact (AJ (AU (AH BZ (hr.mono (by decide)) rfl (AA (AB 1) (AA AF (AA (Ah FV (AL AZ (AB 0) AF) AF) AE))))))
theorem LP : AQ ["held", "load", "pieces"] ["held", "load", "pieces"] (AI s_p_has_pieces) := ⟨rfl, rfl, rfl, by decide +kernel, rfl, by decide +kernel, by decide +kernel⟩
theorem BD  (S : St.Src K mg "has_pieces" s_p_has_pieces) (B : Bts mg) : ES P w K mg base := by
 refine Af (k := 0) S LP rfl (fun f fd F => F.binds fun _ _ _ _ _ _ us hl => match us, hl with | [_, _, _], _ => rfl) fun f cdv A outer s H E hr => ?_
 have hu := AS hr
 exact (AJ (AU (Jk (Hf NH (AB 1) (A7 CM rfl B.len boot_len (AA (AB 0) AE))) (Ko (Hf UH (AL AZ (AL AZ (AB 0) (AB 1)) AF) (AB 2))))))
end
section
open PyProof.Rows (boot_isinstance boot_int boot_bool boot_tuple boot_str boot_list boot_abs boot_all boot_any boot_sum boot_max boot_min boot_range boot_enumerate boot_zip boot_sorted boot_set boot_divmod)
variable {P : Program} {w : World} {K : PySem.W.Frag} {mg : Str -> Option Value} {base : Heap}
theorem Np : AQ ["held", "load", "other"] ["held", "load", "other"] (AI s_p_can_pool) := ⟨rfl, rfl, rfl, by decide +kernel, rfl, by decide +kernel, by decide +kernel⟩
theorem Eo  (S : St.Src K mg "can_pool" s_p_can_pool) (BD : ES P w K mg base) : Kn P w K mg base := by
 refine Af (k := 1) S Np rfl (fun f fd F => F.binds fun _ _ _ _ _ _ us hl => match us, hl with | [_, _, _], _ => rfl) fun f cdv A outer s H E hr => ?_
 have hu := AS hr
 exact (AJ (AU (Jk (AH BD (hr.mono (by decide)) rfl (AA (AB 0) (AA (AB 1) (AA AF AE)))) (Jk (AH BD (hr.mono (by decide)) rfl (AA (AB 0) (AA (AB 2) (AA AF AE)))) (Ko (Hf (Bt hu) (AL AZ (AL AZ (AB 0) (AB 1)) AF) (AL AZ (AL AZ (AB 0) (AB 2)) AF)))))))
theorem OC : AQ ["held", "load", "given", "kind"] ["held", "load", "given", "kind"] (AI s_p_can_swap) := ⟨rfl, rfl, rfl, by decide +kernel, rfl, by decide +kernel, by decide +kernel⟩
theorem Dc  (S : St.Src K mg "can_swap" s_p_can_swap) (BD : ES P w K mg base) : Kj P w K mg base := by
 refine Af (k := 1) S OC rfl (fun f fd F => F.binds fun _ _ _ _ _ _ us hl => match us, hl with | [_, _, _, _], _ => rfl) fun f cdv A outer s H E hr => ?_
 have hu := AS hr
 exact (AJ (AU (Jk (AH BD (hr.mono (by decide)) rfl (AA (AB 0) (AA (AB 1) (AA (AB 2) AE)))) (Ko (Hf (GY hu) (AL AZ (AL AZ (AB 0) (AB 1)) AF) (AB 3))))))
theorem Iq : AQ ["held", "done", "deed", "word", "numbers"] ["held", "done", "deed"] (AI s_p_can_do) := ⟨rfl, rfl, rfl, by decide +kernel, rfl, by decide +kernel, by decide +kernel⟩
theorem N9 : Ab ["held", "done", "deed", "word", "numbers"] (AI s_p_can_do) ["other"] (ixC [] 1) (IL s_p_can_do 0) := ⟨rfl, by decide +kernel, by decide +kernel, by decide +kernel, by decide +kernel⟩
theorem OA : (["other"] : List Str).Nodup := by decide +kernel
theorem Ga  (S : St.Src K mg "can_do" s_p_can_do) (BD : ES P w K mg base) (Eo : Kn P w K mg base) (Dc : Kj P w K mg base) : NF P w K mg base := by
 refine Af (k := 2) S Iq rfl (fun f fd F => F.binds fun _ _ _ _ _ _ us hl => match us, hl with | [_, _, _], _ => rfl) fun f cdv A outer s H E hr => ?_
 have hu := AS hr
 exact (AG (Ap 3 (AL AZ (AB 2) AF) Iq.nd)
    (AG (B9 (Ao (Bt hu) (AB 3) BL) (AJ (AU (AH Eo (hr.mono (by decide)) rfl (AA (AB 0) (AA (AL AZ (AB 2) AF) (AA (AL AZ (AB 2) AF) AE)))))) Ay)
    (AG (B9 (Ao (Bt hu) (AB 3) BL) (AJ (AU (AH Dc (hr.mono (by decide)) rfl (AA (AB 0) (AA (AL AZ (AB 2) AF) (AA (AL AZ (AB 2) AF) (AA (AL AZ (AB 2) AF) AE))))))) Ay)
    (AG (B9 (Ao (Bt hu) (AB 3) BL) (AG (Dg [] 1 ["other"] rfl Iq.nd rfl rfl N9 (CG (AB 1)) (fun s H fp => ⟨(Aj 0 OA), (Hj (Ao (Bt hu) (AL AZ (AB 0) AF) BL)), (AL AZ (AB 0) AF)⟩))
    (AJ (AU (Jk (Hf L6 (AL AZ (AB 2) AF) (AB 4)) (Ko (AH Dc (hr.mono (by decide)) rfl (AA (AB 0) (AA (AL AZ (AB 2) AF) (AA (AL AZ (AB 2) AF) (AA (AL AZ (AB 2) AF) AE)))))))))) Ay)
    (AG (B9 (Ao Ln (AB 3) (BJ (AA BL (AA BL AE)))) (AJ (AU (AH BD (hr.mono (by decide)) rfl (AA (AB 0) (AA (AL AZ (AB 2) AF) (AA (AL AZ (AB 2) AF) AE)))))) Ay)
    (AJ (AU QO)))))))
theorem EK : AQ ["held", "load", "pieces", "kind", "there"] ["held", "load", "pieces"] (AI s_p_held_without) := ⟨rfl, rfl, rfl, by decide +kernel, rfl, by decide +kernel, by decide +kernel⟩
theorem Bb  (S : St.Src K mg "held_without" s_p_held_without) : HA P w K mg base := by
 refine Af (k := 0) S EK rfl (fun f fd F => F.binds fun _ _ _ _ _ _ us hl => match us, hl with | [_, _, _], _ => rfl) fun f cdv A outer s H E hr => ?_
 have hu := AS hr
 exact (AG (E8 (AL AZ (AB 0) (AB 1)) (EF rfl (AO (Aj 3 EK.nd) (AO (Aj 4 EK.nd) Bf))))
    (AJ (AU (Ah As (Ah As (HW (AB 0) (AB 1)) (B6 (AA (BJ (AA (AB 3) (AA (Ah FV (AB 4) (AB 2)) AE))) AE))) (J1 (AB 0) (Ah As (AB 1) AF))))))
theorem BI : AQ ["held", "deed", "word", "kind", "pieces", "more", "load", "given", "got"] ["held", "deed"] (AI s_p_held_behind) := ⟨rfl, rfl, rfl, by decide +kernel, rfl, by decide +kernel, by decide +kernel⟩
theorem Ar  (S : St.Src K mg "held_behind" s_p_held_behind) (Bb : HA P w K mg base) : Cv P w K mg base := by
 refine Af (k := 1) S BI rfl (fun f fd F => F.binds fun _ _ _ _ _ _ us hl => match us, hl with | [_, _], _ => rfl) fun f cdv A outer s H E hr => ?_
 have hu := AS hr
 exact (AG (Ap 2 (AL AZ (AB 1) AF) BI.nd)
    (AG (B9 (Ao (Bt hu) (AB 2) BL) (AJ (AU (Ah As (AB 0) (B6 (AA (BJ (AA (AL AZ (AB 1) AF) (AA (AL AZ (AB 1) AF) AE))) AE))))) Ay)
    (AG (B9 (Ao (Bt hu) (AB 2) BL) (AG (E8 (AL AZ (AB 0) (AL AZ (AB 1) AF)) (EF rfl (AO (Aj 3 BI.nd) (AO (Aj 4 BI.nd) Bf))))
    (AG (Ap 5 (AL AZ (AL AZ (AB 0) (AL AZ (AB 1) AF)) AF) BI.nd)
    (AJ (AU (Ah As (AH Bb (hr.mono (by decide)) rfl (AA (AH Bb (hr.mono (by decide)) rfl (AA (AB 0) (AA (AL AZ (AB 1) AF) (AA (AB 4) AE)))) (AA (AL AZ (AB 1) AF) (AA (AB 5) AE)))) (B6 (AA (BJ (AA (AB 3) (AA (Ah As (AB 4) (AB 5)) AE))) AE))))))) Ay)
    (AG (B9 (Ao Ln (AB 2) (BJ (AA BL (AA BL AE)))) (AG (E8 (J1 (AB 1) (Tt Ls AF)) (EF rfl (AO (Aj 6 BI.nd) (AO (Aj 7 BI.nd) (AO (Aj 3 BI.nd) (AO (Aj 8 BI.nd) Bf))))))
    (AJ (AU (Ah As (AH Bb (hr.mono (by decide)) rfl (AA (AB 0) (AA (AB 6) (AA (AB 7) AE)))) (B6 (AA (BJ (AA (AB 3) (AA (AB 8) AE))) AE)))))) Ay)
    (AG (B9 (Ao Ln (AB 2) (BJ (AA BL (AA BL AE)))) (AJ (AU (AH Bb (hr.mono (by decide)) rfl (AA (AB 0) (AA (AL AZ (AB 1) AF) (AA (AL AZ (AB 1) AF) AE)))))) Ay)
    (AJ (AU (AB 0))))))))
theorem Jo : AQ ["book"] ["book"] (AI s_p_held_at_first) := ⟨rfl, rfl, rfl, by decide +kernel, rfl, by decide +kernel, by decide +kernel⟩
theorem IY : Ab ["book"] (AI s_p_held_at_first) ["load"] (ixC [] 1) (IL s_p_held_at_first 0) := ⟨rfl, by decide +kernel, by decide +kernel, by decide +kernel, by decide +kernel⟩
theorem IV : (["load"] : List Str).Nodup := by decide +kernel
theorem Ak  (S : St.Src K mg "held_at_first" s_p_held_at_first) : Cb P w K mg base := by
 refine Af (k := 0) S Jo rfl (fun f fd F => F.binds fun _ _ _ _ _ _ us hl => match us, hl with | [_], _ => rfl) fun f cdv A outer s H E hr => ?_
 have hu := AS hr
 exact (AJ (AU (B4 [] 1 ["load"] rfl IY (CG (AL AZ (AB 0) AF)) (fun s H fp => ⟨(Aj 0 IV), B3, (BJ (AA (AL AZ (AB 0) AF) (AA (AL AZ (AB 0) AF) AE)))⟩))))
end
section
open PyProof.Rows (boot_isinstance boot_int boot_bool boot_tuple boot_str boot_list boot_abs boot_all boot_any boot_sum boot_max boot_min boot_range boot_enumerate boot_zip boot_sorted boot_set boot_divmod)
variable {P : Program} {w : World} {K : PySem.W.Frag} {mg : Str -> Option Value} {base : Heap}
theorem Fy : AQ ["book", "many", "held", "deed"] ["book", "many"] (AI s_p_held_by) := ⟨rfl, rfl, rfl, by decide +kernel, rfl, by decide +kernel, by decide +kernel⟩
theorem FW  (S : St.Src K mg "held_by" s_p_held_by) (Ar : Cv P w K mg base) (Ak : Cb P w K mg base) : MA P w K mg base := by
 refine Af (k := 2) S Fy rfl (fun f fd F => F.binds fun _ _ _ _ _ _ us hl => match us, hl with | [_, _], _ => rfl) fun f cdv A outer s H E hr => ?_
 have hu := AS hr
 exact (AG (Ap 2 (AH Ak (hr.mono (by decide)) rfl (AA (AB 0) AE)) Fy.nd)
    (AG (EG PassesOwn.never rfl (CG (HW (AL AZ (AB 0) AF) (AB 1))) (Aj 3 Fy.nd) (AJ (Ap 2 (AH Ar (hr.mono (by decide)) rfl (AA (AB 2) (AA (AB 3) AE))) Fy.nd)))
    (AJ (AU (AB 2)))))
theorem Ii : AQ ["deed", "word"] ["deed"] (AI s_p_made_from) := ⟨rfl, rfl, rfl, by decide +kernel, rfl, by decide +kernel, by decide +kernel⟩
theorem Dv  (S : St.Src K mg "made_from" s_p_made_from) (B : Bts mg) : Jc P w K mg base := by
 refine Af (k := 0) S Ii rfl (fun f fd F => F.binds fun _ _ _ _ _ _ us hl => match us, hl with | [_], _ => rfl) fun f cdv A outer s H E hr => ?_
 have hu := AS hr
 exact (AG (Ap 1 (AL AZ (AB 0) AF) Ii.nd)
    (AG (B9 (Ao (Bt hu) (AB 1) BL) (AJ (AU (A7 O9 rfl B.sorted boot_sorted (AA (B6 (AA (AL AZ (AB 0) AF) (AA (AL AZ (AB 0) AF) AE))) AE)))) Ay)
    (AG (B9 (Ao Ln (AB 1) (BJ (AA BL (AA BL AE)))) (AJ (AU (B6 (AA (AL AZ (AB 0) (Tt Ls AF)) AE)))) Ay)
    (AJ (AU (B6 AE))))))
theorem CC : AQ ["book", "held", "deeds", "at", "deed"] ["book"] (AI s_p_first_wrong) := ⟨rfl, rfl, rfl, by decide +kernel, rfl, by decide +kernel, by decide +kernel⟩
theorem Cz  (S : St.Src K mg "first_wrong" s_p_first_wrong) (B : Bts mg) (Ga : NF P w K mg base) (Ar : Cv P w K mg base) (Ak : Cb P w K mg base) : He P w K mg base := by
 refine Af (k := 3) S CC rfl (fun f fd F => F.binds fun _ _ _ _ _ _ us hl => match us, hl with | [_], _ => rfl) fun f cdv A outer s H E hr => ?_
 have hu := AS hr
 exact (AG (Ap 1 (AH Ak (hr.mono (by decide)) rfl (AA (AB 0) AE)) CC.nd)
    (AG (Ap 2 (AL AZ (AB 0) AF) CC.nd)
    (AG (EG PassesOwn.never rfl (Sx rfl B.enumerate (AB 2)) (EF rfl (AO (Aj 3 CC.nd) (AO (Aj 4 CC.nd) Bf))) (AG (B9 (Q2 (Qv (AH Ga (hr.mono (by decide)) rfl (AA (AB 1) (AA (HW (AB 2) (AB 3)) (AA (AB 4) AE)))))) (AJ (AU (AB 3))) Ay)
    (AJ (Ap 1 (AH Ar (hr.mono (by decide)) rfl (AA (AB 1) (AA (AB 4) AE))) CC.nd))))
    (AJ (AU XD)))))
theorem Ft : AQ ["book", "wrong"] ["book"] (AI s_p_refuse_undone) := ⟨rfl, rfl, rfl, by decide +kernel, rfl, by decide +kernel, by decide +kernel⟩
theorem AY  (S : St.Src K mg "refuse_undone" s_p_refuse_undone) (Cz : He P w K mg base) : B1 P w K mg base := by
 refine Af (k := 4) S Ft rfl (fun f fd F => F.binds fun _ _ _ _ _ _ us hl => match us, hl with | [_], _ => rfl) fun f cdv A outer s H E hr => ?_
 have hu := AS hr
 exact (AG (Ap 1 (AH Cz (hr.mono (by decide)) rfl (AA (AB 0) AE)) Ft.nd)
    (AJ (B9 (Ao W6 (AB 1) XD) (AJ LD) Ay)))
theorem OB : AQ ["book", "thing"] ["book", "thing"] (AI s_p_is_place) := ⟨rfl, rfl, rfl, by decide +kernel, rfl, by decide +kernel, by decide +kernel⟩
theorem Ee  (S : St.Src K mg "is_place" s_p_is_place) (B : Bts mg) (BZ : FG P w K mg base) : Kh P w K mg base := by
 refine Af (k := 3) S OB rfl (fun f fd F => F.binds fun _ _ _ _ _ _ us hl => match us, hl with | [_, _], _ => rfl) fun f cdv A outer s H E hr => ?_
 have hu := AS hr
 exact (AJ (AU (AH BZ (hr.mono (by decide)) rfl (AA (AB 1) (AA AF (AA (Ah FV (A7 CM rfl B.len boot_len (AA (AL AZ (AB 0) AF) AE)) AF) AE))))))
theorem K0 : AQ ["book", "word", "thing"] ["book", "word", "thing"] (AI s_p_is_place_of) := ⟨rfl, rfl, rfl, by decide +kernel, rfl, by decide +kernel, by decide +kernel⟩
theorem C1  (S : St.Src K mg "is_place_of" s_p_is_place_of) (Ee : Kh P w K mg base) : HS P w K mg base := by
 refine Af (k := 4) S K0 rfl (fun f fd F => F.binds fun _ _ _ _ _ _ us hl => match us, hl with | [_, _, _], _ => rfl) fun f cdv A outer s H E hr => ?_
 have hu := AS hr
 exact (AJ (AU (Jk (AH Ee (hr.mono (by decide)) rfl (AA (AB 0) (AA (AB 2) AE))) (Ko (Hf (Bt hu) (AL AZ (AL AZ (AL AZ (AB 0) AF) (AB 2)) AF) (AB 1))))))
end
section
open PyProof.Rows (boot_isinstance boot_int boot_bool boot_tuple boot_str boot_list boot_abs boot_all boot_any boot_sum boot_max boot_min boot_range boot_enumerate boot_zip boot_sorted boot_set boot_divmod)
variable {P : Program} {w : World} {K : PySem.W.Frag} {mg : Str -> Option Value} {base : Heap}
theorem HZ : AQ ["book", "many"] ["book", "many"] (AI s_p_refuse_no_number) := ⟨rfl, rfl, rfl, by decide +kernel, rfl, by decide +kernel, by decide +kernel⟩
theorem A4  (S : St.Src K mg "refuse_no_number" s_p_refuse_no_number) (B : Bts mg) (BZ : FG P w K mg base) : DH P w K mg base := by
 refine Af (k := 3) S HZ rfl (fun f fd F => F.binds fun _ _ _ _ _ _ us hl => match us, hl with | [_, _], _ => rfl) fun f cdv A outer s H E hr => ?_
 have hu := AS hr
 exact (AJ (B9 (Q2 (Qv (AH BZ (hr.mono (by decide)) rfl (AA (AB 1) (AA AF (AA (A7 CM rfl B.len boot_len (AA (AL AZ (AB 0) AF) AE)) AE)))))) (AJ LD) Ay))
theorem HL : AQ ["book", "partner"] ["book", "partner"] (AI s_p_refuse_no_partner) := ⟨rfl, rfl, rfl, by decide +kernel, rfl, by decide +kernel, by decide +kernel⟩
theorem Ai  (S : St.Src K mg "refuse_no_partner" s_p_refuse_no_partner) (DJ : Ig P w K mg base) : CF P w K mg base := by
 refine Af (k := 4) S HL rfl (fun f fd F => F.binds fun _ _ _ _ _ _ us hl => match us, hl with | [_, _], _ => rfl) fun f cdv A outer s H E hr => ?_
 have hu := AS hr
 exact (AJ (B9 (Q2 (Qv (AH DJ (hr.mono (by decide)) rfl (AA (AL AZ (AB 0) AF) (AA (AB 1) AE))))) (AJ LD) Ay))
theorem Lx : AQ ["many", "one"] ["many", "one"] (AI s_p_all_to_one) := ⟨rfl, rfl, rfl, by decide +kernel, rfl, by decide +kernel, by decide +kernel⟩
theorem KD : Ab ["many", "one"] (AI s_p_all_to_one) ["one", "at"] (ixC [1] 1) (IL s_p_all_to_one 0) := ⟨rfl, by decide +kernel, by decide +kernel, by decide +kernel, by decide +kernel⟩
theorem J6 : (["one", "at"] : List Str).Nodup := by decide +kernel
theorem Bz  (S : St.Src K mg "all_to_one" s_p_all_to_one) (B : Bts mg) (c_ALL : RP K mg "ALL" Tb) (c_NOTHING : RP K mg "NOTHING" Dx) : GD P w K mg base := by
 refine Af (k := 0) S Lx rfl (fun f fd F => F.binds fun _ _ _ _ _ _ us hl => match us, hl with | [_, _], _ => rfl) fun f cdv A outer s H E hr => ?_
 have hu := AS hr
 exact (AJ (AU (BE BG rfl B.tuple boot_tuple (AA (B4 [1] 1 ["one", "at"] rfl KD (E5 rfl B.range (AA (AB 0) AE)) (fun s H fp => ⟨(Aj 1 J6), B3, (c7 (Ao (Bt hu) (AB 1) (AB 0)) (ME c_ALL rfl) (ME c_NOTHING rfl))⟩)) AE))))
theorem J5 : AQ ["shares", "weight", "others", "more"] ["shares", "weight", "others", "more"] (AI s_p_mixed_shares) := ⟨rfl, rfl, rfl, by decide +kernel, rfl, by decide +kernel, by decide +kernel⟩
theorem Ip : Ab ["shares", "weight", "others", "more"] (AI s_p_mixed_shares) ["weight", "more", "share", "other"] (ixC [1, 3] 2) (IL s_p_mixed_shares 0) := ⟨rfl, by decide +kernel, by decide +kernel, by decide +kernel, by decide +kernel⟩
theorem Fp : (["weight", "more", "share", "other"] : List Str).Nodup := by decide +kernel
theorem Ba  (S : St.Src K mg "mixed_shares" s_p_mixed_shares) (B : Bts mg) (HV : PM P w K mg base) : Ez P w K mg base := by
 refine Af (k := 3) S J5 rfl (fun f fd F => F.binds fun _ _ _ _ _ _ us hl => match us, hl with | [_, _, _, _], _ => rfl) fun f cdv A outer s H E hr => ?_
 have hu := AS hr
 exact (AJ (AU (BE BG rfl B.tuple boot_tuple (AA (B4 [1, 3] 2 ["weight", "more", "share", "other"] rfl Ip (PL rfl B.zip (AB 0) (AB 2)) (fun s H fp => ⟨(EF rfl (AO (Aj 2 Fp) (AO (Aj 3 Fp) Bf))), B3, (AH HV (hr.mono (by decide)) rfl (AA (AB 2) (AA (AB 0) (AA (AB 3) (AA (AB 1) AE)))))⟩)) AE))))
theorem DX : AQ ["held", "shares", "deed", "sources", "load", "other"] ["held", "shares", "deed"] (AI s_p_made_shares) := ⟨rfl, rfl, rfl, by decide +kernel, rfl, by decide +kernel, by decide +kernel⟩
theorem Bm  (S : St.Src K mg "made_shares" s_p_made_shares) (B : Bts mg) (Dv : Jc P w K mg base) (Ba : Ez P w K mg base) : Fm P w K mg base := by
 refine Af (k := 4) S DX rfl (fun f fd F => F.binds fun _ _ _ _ _ _ us hl => match us, hl with | [_, _, _], _ => rfl) fun f cdv A outer s H E hr => ?_
 have hu := AS hr
 exact (AG (Ap 3 (AH Dv (hr.mono (by decide)) rfl (AA (AB 2) AE)) DX.nd)
    (AG (B9 (Ao (Bt hu) (A7 CM rfl B.len boot_len (AA (AB 3) AE)) AF) (AJ (AU (AL AZ (AB 1) (AL AZ (AB 3) AF)))) Ay)
    (AG (E8 (AB 3) (EF rfl (AO (Aj 4 DX.nd) (AO (Aj 5 DX.nd) Bf))))
    (AJ (AU (AH Ba (hr.mono (by decide)) rfl (AA (AL AZ (AB 1) (AB 4)) (AA (AL AZ (AL AZ (AB 0) (AB 4)) AF) (AA (AL AZ (AB 1) (AB 5)) (AA (AL AZ (AL AZ (AB 0) (AB 5)) AF) AE))))))))))
theorem Jy : AQ ["train", "held", "worths"] ["train", "held", "worths"] (AI s_p_worth_of_all) := ⟨rfl, rfl, rfl, by decide +kernel, rfl, by decide +kernel, by decide +kernel⟩
theorem Iz : Ab ["train", "held", "worths"] (AI s_p_worth_of_all) ["worths", "kind", "pieces"] (ixC [2] 2) (IL s_p_worth_of_all 0) := ⟨rfl, by decide +kernel, by decide +kernel, by decide +kernel, by decide +kernel⟩
theorem Fb : (["worths", "kind", "pieces"] : List Str).Nodup := by decide +kernel
theorem Ck  (S : St.Src K mg "worth_of_all" s_p_worth_of_all) (B : Bts mg) : HK P w K mg base := by
 refine Af (k := 0) S Jy rfl (fun f fd F => F.binds fun _ _ _ _ _ _ us hl => match us, hl with | [_, _, _], _ => rfl) fun f cdv A outer s H E hr => ?_
 have hu := AS hr
 exact (AJ (AU (Ah As (A7 (Hm rfl) rfl B.sum boot_sum (AA (B4 [2] 2 ["worths", "kind", "pieces"] rfl Iz (CG (AB 1)) (fun s H fp => ⟨(EF rfl (AO (Aj 1 Fb) (AO (Aj 2 Fb) Bf))), B3, (Ah Au (AB 2) (AL AZ (AB 0) (AB 1)))⟩)) AE)) (Ah Au (AL AZ (AB 0) AF) (AL AZ (AB 2) (Tt Ls AF))))))
end
section
open PyProof.Rows (boot_isinstance boot_int boot_bool boot_tuple boot_str boot_list boot_abs boot_all boot_any boot_sum boot_max boot_min boot_range boot_enumerate boot_zip boot_sorted boot_set boot_divmod)
variable {P : Program} {w : World} {K : PySem.W.Frag} {mg : Str -> Option Value} {base : Heap}
theorem DQ : AQ ["train", "held", "deed", "load", "pieces", "worths"] ["train", "held", "deed"] (AI s_p_part_thrown) := ⟨rfl, rfl, rfl, by decide +kernel, rfl, by decide +kernel, by decide +kernel⟩
theorem Cy  (S : St.Src K mg "part_thrown" s_p_part_thrown) (BQ : FI P w K mg base) (Ck : HK P w K mg base) : Hs P w K mg base := by
 refine Af (k := 2) S DQ rfl (fun f fd F => F.binds fun _ _ _ _ _ _ us hl => match us, hl with | [_, _, _], _ => rfl) fun f cdv A outer s H E hr => ?_
 have hu := AS hr
 exact (AG (E8 (J1 (AB 2) AF) (EF rfl (AO (Aj 3 DQ.nd) (AO (Aj 4 DQ.nd) (AO (Aj 5 DQ.nd) Bf)))))
    (AJ (AU (AH BQ (hr.mono (by decide)) rfl (AA (Ah Au (AB 4) (AL AZ (AB 5) (AL AZ (AL AZ (AB 1) (AB 3)) AF))) (AA (AH Ck (hr.mono (by decide)) rfl (AA (AB 0) (AA (AB 1) (AA (AB 5) AE)))) AE))))))
theorem Dy : AQ ["train", "held", "owners", "deed", "shares", "top", "bottom"] ["train", "held", "owners", "deed", "shares"] (AI s_p_thrown_shares) := ⟨rfl, rfl, rfl, by decide +kernel, rfl, by decide +kernel, by decide +kernel⟩
theorem CT  (S : St.Src K mg "thrown_shares" s_p_thrown_shares) (Ba : Ez P w K mg base) (Cy : Hs P w K mg base) : Gg P w K mg base := by
 refine Af (k := 4) S Dy rfl (fun f fd F => F.binds fun _ _ _ _ _ _ us hl => match us, hl with | [_, _, _, _, _], _ => rfl) fun f cdv A outer s H E hr => ?_
 have hu := AS hr
 exact (AG (E8 (AH Cy (hr.mono (by decide)) rfl (AA (AB 0) (AA (AB 1) (AA (AB 3) AE)))) (EF rfl (AO (Aj 5 Dy.nd) (AO (Aj 6 Dy.nd) Bf))))
    (AJ (AU (AH Ba (hr.mono (by decide)) rfl (AA (AB 4) (AA (Ah FV (AB 6) (AB 5)) (AA (AL AZ (AB 2) (AL AZ (AB 3) AF)) (AA (AB 5) AE))))))))
theorem CB : AQ ["deed", "shares", "partner", "other", "sold", "passed", "changed"] ["deed", "shares"] (AI s_p_sold_shares) := ⟨rfl, rfl, rfl, by decide +kernel, rfl, by decide +kernel, by decide +kernel⟩
theorem Cu  (S : St.Src K mg "sold_shares" s_p_sold_shares) (B : Bts mg) (F1 : Nd P w K mg base) (F3 : Ny P w K mg base) (Eb : Lm P w K mg base) : Hv P w K mg base := by
 refine Af (k := 3) S CB rfl (fun f fd F => F.binds fun _ _ _ _ _ _ us hl => match us, hl with | [_, _], _ => rfl) fun f cdv A outer s H E hr => ?_
 have hu := AS hr
 exact (AG (E8 (J1 (AB 0) AF) (EF rfl (AO (Aj 2 CB.nd) (AO (Aj 3 CB.nd) (AO (Aj 4 CB.nd) Bf)))))
    (AG (Ap 5 (AH Eb (hr.mono (by decide)) rfl (AA (AL AZ (AB 1) (AB 2)) (AA (AB 4) AE))) CB.nd)
    (AG (Ap 6 (BE KC rfl B.list boot_list (AA (AB 1) AE)) CB.nd)
    (AG (CI (AH F3 (hr.mono (by decide)) rfl (AA (AL AZ (AB 1) (AB 2)) (AA (AB 5) AE))) (AB 6) (AB 2))
    (AG (CI (AH F1 (hr.mono (by decide)) rfl (AA (AL AZ (AB 1) (AB 3)) (AA (AB 5) AE))) (AB 6) (AB 3))
    (AJ (AU (BE BG rfl B.tuple boot_tuple (AA (AB 6) AE)))))))))
theorem JI : AQ ["train", "held", "owners", "deed", "shares"] ["train", "held", "owners", "deed", "shares"] (AI s_p_shares_behind) := ⟨rfl, rfl, rfl, by decide +kernel, rfl, by decide +kernel, by decide +kernel⟩
theorem BR  (S : St.Src K mg "shares_behind" s_p_shares_behind) (CT : Gg P w K mg base) (Cu : Hv P w K mg base) : ER P w K mg base := by
 refine Af (k := 5) S JI rfl (fun f fd F => F.binds fun _ _ _ _ _ _ us hl => match us, hl with | [_, _, _, _, _], _ => rfl) fun f cdv A outer s H E hr => ?_
 have hu := AS hr
 exact (AG (B9 (Ao (Bt hu) (AL AZ (AB 3) AF) BL) (AJ (AU (AH CT (hr.mono (by decide)) rfl (AA (AB 0) (AA (AB 1) (AA (AB 2) (AA (AB 3) (AA (AB 4) AE)))))))) Ay)
    (AG (B9 (Ao (Bt hu) (AL AZ (AB 3) AF) BL) (AJ (AU (AH Cu (hr.mono (by decide)) rfl (AA (AB 3) (AA (AB 4) AE))))) Ay)
    (AJ (AU (AB 4)))))
theorem F8 : AQ ["train", "held", "owners", "deed", "behind"] ["train", "held", "owners", "deed"] (AI s_p_owners_behind) := ⟨rfl, rfl, rfl, by decide +kernel, rfl, by decide +kernel, by decide +kernel⟩
theorem IX : Ab ["train", "held", "owners", "deed", "behind"] (AI s_p_owners_behind) ["train", "held", "owners", "deed", "shares"] (ixC [0, 1, 2, 3] 1) (IL s_p_owners_behind 0) := ⟨rfl, by decide +kernel, by decide +kernel, by decide +kernel, by decide +kernel⟩
theorem IU : (["train", "held", "owners", "deed", "shares"] : List Str).Nodup := by decide +kernel
theorem CW  (S : St.Src K mg "owners_behind" s_p_owners_behind) (c_MAKERS : RP K mg "MAKERS" Cf) (Bz : GD P w K mg base) (Bm : Fm P w K mg base) (BR : ER P w K mg base) : Ge P w K mg base := by
 refine Af (k := 6) S F8 rfl (fun f fd F => F.binds fun _ _ _ _ _ _ us hl => match us, hl with | [_, _, _, _], _ => rfl) fun f cdv A outer s H E hr => ?_
 have hu := AS hr
 exact (AG (Dg [0, 1, 2, 3] 1 ["train", "held", "owners", "deed", "shares"] rfl F8.nd rfl rfl IX (CG (AB 2)) (fun s H fp => ⟨(Aj 4 IU), B3, (AH BR (hr.mono (by decide)) rfl (AA (AB 0) (AA (AB 1) (AA (AB 2) (AA (AB 3) (AA (AB 4) AE))))))⟩))
    (AG (B9 (Ao (Bt hu) (AL AZ (AB 3) AF) BL) (AJ (AU (Ah As (AB 4) (B6 (AA (AH Bz (hr.mono (by decide)) rfl (AA (AL AZ (AB 0) AF) (AA (AL AZ (AB 3) AF) AE))) AE))))) Ay)
    (AG (B9 (Ao Ln (AL AZ (AB 3) AF) (ME c_MAKERS rfl)) (AJ (AU (Ah As (AB 4) (B6 (AA (AH Bm (hr.mono (by decide)) rfl (AA (AB 1) (AA (AB 2) (AA (AB 3) AE)))) AE))))) Ay)
    (AJ (AU (AB 4))))))
theorem BY : AQ ["book", "many", "train", "first", "deeds", "held", "owners", "holders", "deed"] ["book", "many"] (AI s_p_state_by) := ⟨rfl, rfl, rfl, by decide +kernel, rfl, by decide +kernel, by decide +kernel⟩
theorem Lf : Ab ["book", "many", "train", "first", "deeds", "held", "owners", "holders", "deed"] (AI s_p_state_by) ["load"] (ixC [] 1) (IL s_p_state_by 0) := ⟨rfl, by decide +kernel, by decide +kernel, by decide +kernel, by decide +kernel⟩
theorem MP : (["load"] : List Str).Nodup := by decide +kernel
theorem Er  (S : St.Src K mg "state_by" s_p_state_by) (Ar : Cv P w K mg base) (Ak : Cb P w K mg base) (BR : ER P w K mg base) (CW : Ge P w K mg base) : KW P w K mg base := by
 refine Af (k := 7) S BY rfl (fun f fd F => F.binds fun _ _ _ _ _ _ us hl => match us, hl with | [_, _], _ => rfl) fun f cdv A outer s H E hr => ?_
 have hu := AS hr
 exact (AG (E8 (AB 0) (EF rfl (AO (Aj 2 BY.nd) (AO (Aj 3 BY.nd) (AO (Aj 4 BY.nd) Bf)))))
    (AG (Ap 5 (AH Ak (hr.mono (by decide)) rfl (AA (AB 0) AE)) BY.nd)
    (AG (Dg [] 1 ["load"] rfl BY.nd rfl rfl Lf (CG (AB 3)) (fun s H fp => ⟨(Aj 0 MP), B3, (AL AZ (AB 0) AF)⟩))
    (AG (Ap 7 (AL AZ (AB 2) AF) BY.nd)
    (AG (EG PassesOwn.never rfl (CG (HW (AB 4) (AB 1))) (Aj 8 BY.nd) (AG (Ap 7 (AH BR (hr.mono (by decide)) rfl (AA (AB 2) (AA (AB 5) (AA (AB 6) (AA (AB 8) (AA (AB 7) AE)))))) BY.nd)
    (AG (Ap 6 (AH CW (hr.mono (by decide)) rfl (AA (AB 2) (AA (AB 5) (AA (AB 6) (AA (AB 8) AE))))) BY.nd)
    (AJ (Ap 5 (AH Ar (hr.mono (by decide)) rfl (AA (AB 5) (AA (AB 8) AE))) BY.nd)))))
    (AJ (AU (BJ (AA (AB 5) (AA (AB 6) (AA (AB 7) AE)))))))))))
end
section
open PyProof.Rows (boot_isinstance boot_int boot_bool boot_tuple boot_str boot_list boot_abs boot_all boot_any boot_sum boot_max boot_min boot_range boot_enumerate boot_zip boot_sorted boot_set boot_divmod)
variable {P : Program} {w : World} {K : PySem.W.Frag} {mg : Str -> Option Value} {base : Heap}
theorem CL : AQ ["kinds", "held", "shares", "sums", "share", "kind", "pieces"] ["kinds", "held", "shares"] (AI s_p_sums_by_kinds) := ⟨rfl, rfl, rfl, by decide +kernel, rfl, by decide +kernel, by decide +kernel⟩
theorem BP  (S : St.Src K mg "sums_by_kinds" s_p_sums_by_kinds) (B : Bts mg) (c_NOTHING : RP K mg "NOTHING" Dx) (F1 : Nd P w K mg base) (Eb : Lm P w K mg base) : EJ P w K mg base := by
 refine Af (k := 3) S CL rfl (fun f fd F => F.binds fun _ _ _ _ _ _ us hl => match us, hl with | [_, _, _], _ => rfl) fun f cdv A outer s H E hr => ?_
 have hu := AS hr
 exact (AG (Ap 3 (Ah Au (B6 (AA (ME c_NOTHING rfl) AE)) (AB 0)) CL.nd)
    (AG (EG PassesOwn.never rfl (PL rfl B.zip (AB 1) (AB 2)) (EF rfl (AO (EF rfl (AO (Aj 5 CL.nd) (AO (Aj 6 CL.nd) Bf))) (AO (Aj 4 CL.nd) Bf))) (AJ (CI (AH F1 (hr.mono (by decide)) rfl (AA (AL AZ (AB 3) (AB 5)) (AA (AH Eb (hr.mono (by decide)) rfl (AA (BJ (AA (AB 6) (AA AF AE))) (AA (AB 4) AE))) AE))) (AB 3) (AB 5))))
    (AJ (AU (BE BG rfl B.tuple boot_tuple (AA (AB 3) AE))))))
theorem CA : AQ ["book", "many", "partners", "kinds", "held", "owners", "holders"] ["book", "many"] (AI s_p_theirs_told) := ⟨rfl, rfl, rfl, by decide +kernel, rfl, by decide +kernel, by decide +kernel⟩
theorem JQ : Ab ["book", "many", "partners", "kinds", "held", "owners", "holders"] (AI s_p_theirs_told) ["kinds", "held", "owners", "partner"] (ixC [3, 4, 5] 1) (IL s_p_theirs_told 0) := ⟨rfl, by decide +kernel, by decide +kernel, by decide +kernel, by decide +kernel⟩
theorem Jj : (["kinds", "held", "owners", "partner"] : List Str).Nodup := by decide +kernel
theorem JH : Ab ["kinds", "held", "owners", "partner"] (Yk (IL s_p_theirs_told 0) (AI s_p_theirs_told)) ["partner", "shares"] (ixC [3] 1) (IL s_p_theirs_told 1) := ⟨rfl, by decide +kernel, by decide +kernel, by decide +kernel, by decide +kernel⟩
theorem Je : (["partner", "shares"] : List Str).Nodup := by decide +kernel
theorem Bj  (S : St.Src K mg "theirs_told" s_p_theirs_told) (B : Bts mg) (Er : KW P w K mg base) (BP : EJ P w K mg base) : Fi P w K mg base := by
 refine Af (k := 8) S CA rfl (fun f fd F => F.binds fun _ _ _ _ _ _ us hl => match us, hl with | [_, _], _ => rfl) fun f cdv A outer s H E hr => ?_
 have hu := AS hr
 exact (AG (E8 (HW (AL AZ (AB 0) AF) AF) (EF rfl (AO (Aj 2 CA.nd) (AO (Aj 3 CA.nd) Bf))))
    (AG (E8 (AH Er (hr.mono (by decide)) rfl (AA (AB 0) (AA (AB 1) AE))) (EF rfl (AO (Aj 4 CA.nd) (AO (Aj 5 CA.nd) (AO (Aj 6 CA.nd) Bf)))))
    (AJ (AU (B4 [3, 4, 5] 1 ["kinds", "held", "owners", "partner"] rfl JQ (E5 rfl B.range (AA (AB 2) AE)) (fun s H fp => ⟨(Aj 3 Jj), B3, (AH BP (hr.mono (by decide)) rfl (AA (AB 0) (AA (AB 1) (AA (B4 [3] 1 ["partner", "shares"] rfl JH (CG (AB 2)) (fun s H fp => ⟨(Aj 1 Je), B3, (AL AZ (AB 1) (AB 0))⟩)) AE))))⟩))))))
theorem Mn : AQ ["book", "many", "partner"] ["book", "many", "partner"] (AI s_p_theirs_by) := ⟨rfl, rfl, rfl, by decide +kernel, rfl, by decide +kernel, by decide +kernel⟩
theorem D0  (S : St.Src K mg "theirs_by" s_p_theirs_by) (AY : B1 P w K mg base) (A4 : DH P w K mg base) (Ai : CF P w K mg base) (Bj : Fi P w K mg base) : JK P w K mg base := by
 refine Af (k := 9) S Mn rfl (fun f fd F => F.binds fun _ _ _ _ _ _ us hl => match us, hl with | [_, _, _], _ => rfl) fun f cdv A outer s H E hr => ?_
 have hu := AS hr
 exact (AG (Br (AH AY (hr.mono (by decide)) rfl (AA (AB 0) AE)))
    (AG (Br (AH A4 (hr.mono (by decide)) rfl (AA (AB 0) (AA (AB 1) AE))))
    (AG (Br (AH Ai (hr.mono (by decide)) rfl (AA (AB 0) (AA (AB 2) AE))))
    (AJ (AU (AL AZ (AH Bj (hr.mono (by decide)) rfl (AA (AB 0) (AA (AB 1) AE))) (AB 2)))))))
theorem Bl : AQ ["book", "partner", "train", "first", "deeds", "held", "shares", "deed"] ["book", "partner"] (AI s_p_alone_told) := ⟨rfl, rfl, rfl, by decide +kernel, rfl, by decide +kernel, by decide +kernel⟩
theorem KJ : Ab ["book", "partner", "train", "first", "deeds", "held", "shares", "deed"] (AI s_p_alone_told) ["load"] (ixC [] 1) (IL s_p_alone_told 0) := ⟨rfl, by decide +kernel, by decide +kernel, by decide +kernel, by decide +kernel⟩
theorem J9 : (["load"] : List Str).Nodup := by decide +kernel
theorem J8 : Ab ["book", "partner", "train", "first", "deeds", "held", "shares", "deed"] (AI s_p_alone_told) ["partner", "each"] (ixC [1] 1) (IL s_p_alone_told 1) := ⟨rfl, by decide +kernel, by decide +kernel, by decide +kernel, by decide +kernel⟩
theorem KO : (["partner", "each"] : List Str).Nodup := by decide +kernel
theorem B0  (S : St.Src K mg "alone_told" s_p_alone_told) (c_MAKERS : RP K mg "MAKERS" Cf) (Ar : Cv P w K mg base) (Ak : Cb P w K mg base) (Bz : GD P w K mg base) (Bm : Fm P w K mg base) (BP : EJ P w K mg base) : GH P w K mg base := by
 refine Af (k := 5) S Bl rfl (fun f fd F => F.binds fun _ _ _ _ _ _ us hl => match us, hl with | [_, _], _ => rfl) fun f cdv A outer s H E hr => ?_
 have hu := AS hr
 exact (AG (E8 (AB 0) (EF rfl (AO (Aj 2 Bl.nd) (AO (Aj 3 Bl.nd) (AO (Aj 4 Bl.nd) Bf)))))
    (AG (Ap 5 (AH Ak (hr.mono (by decide)) rfl (AA (AB 0) AE)) Bl.nd)
    (AG (Dg [] 1 ["load"] rfl Bl.nd rfl rfl KJ (CG (AB 3)) (fun s H fp => ⟨(Aj 0 J9), B3, (AL AZ (AB 0) AF)⟩))
    (AG (EG PassesOwn.never rfl (CG (AB 4)) (Aj 7 Bl.nd) (AG (B9 (Ao (Bt hu) (AL AZ (AB 7) AF) BL) (AJ (Br (HB PySem.F.slot_list_append PySem.F.type_list_append Fh (AB 6) (AA (AH Bz (hr.mono (by decide)) rfl (AA (AL AZ (AB 2) AF) (AA (AL AZ (AB 7) AF) AE))) AE)))) (AJ (B9 (Ao Ln (AL AZ (AB 7) AF) (ME c_MAKERS rfl)) (AJ (Br (HB PySem.F.slot_list_append PySem.F.type_list_append Fh (AB 6) (AA (AH Bm (hr.mono (by decide)) rfl (AA (AB 5) (AA (AB 6) (AA (AB 7) AE)))) AE)))) Ay)))
    (AJ (Ap 5 (AH Ar (hr.mono (by decide)) rfl (AA (AB 5) (AA (AB 7) AE))) Bl.nd))))
    (AJ (AU (AH BP (hr.mono (by decide)) rfl (AA (AL AZ (AB 2) AF) (AA (AB 5) (AA (B4 [1] 1 ["partner", "each"] rfl J8 (CG (AB 6)) (fun s H fp => ⟨(Aj 1 KO), B3, (AL AZ (AB 1) (AB 0))⟩)) AE))))))))))
theorem OV : AQ ["book", "partner"] ["book", "partner"] (AI s_p_alone_of) := ⟨rfl, rfl, rfl, by decide +kernel, rfl, by decide +kernel, by decide +kernel⟩
theorem Cc  (S : St.Src K mg "alone_of" s_p_alone_of) (AY : B1 P w K mg base) (Ai : CF P w K mg base) (B0 : GH P w K mg base) : Kg P w K mg base := by
 refine Af (k := 6) S OV rfl (fun f fd F => F.binds fun _ _ _ _ _ _ us hl => match us, hl with | [_, _], _ => rfl) fun f cdv A outer s H E hr => ?_
 have hu := AS hr
 exact (AG (Br (AH AY (hr.mono (by decide)) rfl (AA (AB 0) AE)))
    (AG (Br (AH Ai (hr.mono (by decide)) rfl (AA (AB 0) (AA (AB 1) AE))))
    (AJ (AU (AH B0 (hr.mono (by decide)) rfl (AA (AB 0) (AA (AB 1) AE)))))))
theorem Mr : AQ ["book", "partner"] ["book", "partner"] (AI s_p_by_others) := ⟨rfl, rfl, rfl, by decide +kernel, rfl, by decide +kernel, by decide +kernel⟩
theorem C8  (S : St.Src K mg "by_others" s_p_by_others) (B : Bts mg) (EE : JM P w K mg base) (AY : B1 P w K mg base) (Ai : CF P w K mg base) (Bj : Fi P w K mg base) (B0 : GH P w K mg base) : Jg P w K mg base := by
 refine Af (k := 9) S Mr rfl (fun f fd F => F.binds fun _ _ _ _ _ _ us hl => match us, hl with | [_, _], _ => rfl) fun f cdv A outer s H E hr => ?_
 have hu := AS hr
 exact (AG (Br (AH AY (hr.mono (by decide)) rfl (AA (AB 0) AE)))
    (AG (Br (AH Ai (hr.mono (by decide)) rfl (AA (AB 0) (AA (AB 1) AE))))
    (AJ (AU (AH EE (hr.mono (by decide)) rfl (AA (AL AZ (AH Bj (hr.mono (by decide)) rfl (AA (AB 0) (AA (A7 CM rfl B.len boot_len (AA (AL AZ (AB 0) AF) AE)) AE))) (AB 1)) (AA (AH B0 (hr.mono (by decide)) rfl (AA (AB 0) (AA (AB 1) AE))) AE)))))))
end
section
open PyProof.Rows (boot_isinstance boot_int boot_bool boot_tuple boot_str boot_list boot_abs boot_all boot_any boot_sum boot_max boot_min boot_range boot_enumerate boot_zip boot_sorted boot_set boot_divmod)
variable {P : Program} {w : World} {K : PySem.W.Frag} {mg : Str -> Option Value} {base : Heap}
theorem JD : AQ ["book", "place"] ["book", "place"] (AI s_p_refuse_no_sale) := ⟨rfl, rfl, rfl, by decide +kernel, rfl, by decide +kernel, by decide +kernel⟩
theorem CH  (S : St.Src K mg "refuse_no_sale" s_p_refuse_no_sale) (C1 : HS P w K mg base) : F7 P w K mg base := by
 refine Af (k := 5) S JD rfl (fun f fd F => F.binds fun _ _ _ _ _ _ us hl => match us, hl with | [_, _], _ => rfl) fun f cdv A outer s H E hr => ?_
 have hu := AS hr
 exact (AJ (B9 (Q2 (Qv (AH C1 (hr.mono (by decide)) rfl (AA (AB 0) (AA BL (AA (AB 1) AE)))))) (AJ LD) Ay))
theorem DA : AQ ["book", "place", "train", "first", "deeds"] ["book", "place"] (AI s_p_without_deed) := ⟨rfl, rfl, rfl, by decide +kernel, rfl, by decide +kernel, by decide +kernel⟩
theorem Cj  (S : St.Src K mg "without_deed" s_p_without_deed) : HH P w K mg base := by
 refine Af (k := 0) S DA rfl (fun f fd F => F.binds fun _ _ _ _ _ _ us hl => match us, hl with | [_, _], _ => rfl) fun f cdv A outer s H E hr => ?_
 have hu := AS hr
 exact (AG (E8 (AB 0) (EF rfl (AO (Aj 2 DA.nd) (AO (Aj 3 DA.nd) (AO (Aj 4 DA.nd) Bf)))))
    (AJ (AU (BJ (AA (AB 2) (AA (AB 3) (AA (Ah As (HW (AB 4) (AB 1)) (J1 (AB 4) (Ah As (AB 1) AF))) AE)))))))
theorem P9 : AQ ["book", "place"] ["book", "place"] (AI s_p_unsold) := ⟨rfl, rfl, rfl, by decide +kernel, rfl, by decide +kernel, by decide +kernel⟩
theorem GN  (S : St.Src K mg "unsold" s_p_unsold) (AY : B1 P w K mg base) (CH : F7 P w K mg base) (Cj : HH P w K mg base) : Mu P w K mg base := by
 refine Af (k := 6) S P9 rfl (fun f fd F => F.binds fun _ _ _ _ _ _ us hl => match us, hl with | [_, _], _ => rfl) fun f cdv A outer s H E hr => ?_
 have hu := AS hr
 exact (AG (Br (AH AY (hr.mono (by decide)) rfl (AA (AB 0) AE)))
    (AG (Br (AH CH (hr.mono (by decide)) rfl (AA (AB 0) (AA (AB 1) AE))))
    (AJ (AU (AH Cj (hr.mono (by decide)) rfl (AA (AB 0) (AA (AB 1) AE)))))))
theorem JW : AQ ["book", "many", "held"] ["book", "many"] (AI s_p_stock_by) := ⟨rfl, rfl, rfl, by decide +kernel, rfl, by decide +kernel, by decide +kernel⟩
theorem LW : Ab ["book", "many", "held"] (AI s_p_stock_by) ["held", "kind"] (ixC [2] 1) (IL s_p_stock_by 0) := ⟨rfl, by decide +kernel, by decide +kernel, by decide +kernel, by decide +kernel⟩
theorem Lo : (["held", "kind"] : List Str).Nodup := by decide +kernel
theorem MD : Ab ["held", "kind"] (Yk (IL s_p_stock_by 0) (AI s_p_stock_by)) ["kind", "other", "pieces"] (ixC [1] 2) (IL s_p_stock_by 1) := ⟨rfl, by decide +kernel, by decide +kernel, by decide +kernel, by decide +kernel⟩
theorem HQ : (["kind", "other", "pieces"] : List Str).Nodup := by decide +kernel
theorem EX  (S : St.Src K mg "stock_by" s_p_stock_by) (B : Bts mg) (FW : MA P w K mg base) (AY : B1 P w K mg base) (A4 : DH P w K mg base) : KU P w K mg base := by
 refine Af (k := 5) S JW rfl (fun f fd F => F.binds fun _ _ _ _ _ _ us hl => match us, hl with | [_, _], _ => rfl) fun f cdv A outer s H E hr => ?_
 have hu := AS hr
 exact (AG (Br (AH AY (hr.mono (by decide)) rfl (AA (AB 0) AE)))
    (AG (Br (AH A4 (hr.mono (by decide)) rfl (AA (AB 0) (AA (AB 1) AE))))
    (AG (Ap 2 (AH FW (hr.mono (by decide)) rfl (AA (AB 0) (AA (AB 1) AE))) JW.nd)
    (AJ (AU (BE BG rfl B.tuple boot_tuple (AA (B4 [2] 1 ["held", "kind"] rfl LW (E5 rfl B.range (AA (AL AZ (AL AZ (AB 0) AF) AF) AE)) (fun s H fp => ⟨(Aj 1 Lo), B3, (A7 (Hm rfl) rfl B.sum boot_sum (AA (B4 [1] 2 ["kind", "other", "pieces"] rfl MD (CG (AB 0)) (fun s H fp => ⟨(EF rfl (AO (Aj 1 HQ) (AO (Aj 2 HQ) Bf))), (Hj (Ao (Bt hu) (AB 1) (AB 0))), (AB 2)⟩)) AE))⟩)) AE)))))))
theorem RY : AQ ["_law_cell"] ["_law_cell"] (AI s_law_pen) := ⟨rfl, rfl, rfl, by decide +kernel, rfl, by decide +kernel, by decide +kernel⟩
theorem HR  (S : St.Src K mg "_law_pen" s_law_pen) (B : Bts mg) : Ob P w K mg base := by
 refine Af (k := 0) S RY rfl (fun f fd F => F.binds fun _ _ _ _ _ _ us hl => match us, hl with | [_], _ => rfl) fun f cdv A outer s H E hr => ?_
 have hu := AS hr
 exact (AJ (AU (B6 (AA (AB 0) (AA (BE Ly rfl B.int boot_int (AA (Hf UH (AB 0) (Ah Ua AF AF)) AE)) (AA AF (AA (Ah GG (AB 0) AF) AE)))))))
theorem Mb : AQ ["_law_script", "_law_k"] ["_law_script", "_law_k"] (AI s_law_cell_at) := ⟨rfl, rfl, rfl, by decide +kernel, rfl, by decide +kernel, by decide +kernel⟩
theorem D8  (S : St.Src K mg "_law_cell_at" s_law_cell_at) (B : Bts mg) : Jd P w K mg base := by
 refine Af (k := 0) S Mb rfl (fun f fd F => F.binds fun _ _ _ _ _ _ us hl => match us, hl with | [_, _], _ => rfl) fun f cdv A outer s H E hr => ?_
 have hu := AS hr
 exact (AG (B9 (Ao NH (AB 1) (A7 CM rfl B.len boot_len (AA (AB 0) AE))) (AJ (AU (AL AZ (AB 0) (AB 1)))) Ay)
    (AJ (AU AF)))
end
section
open PyProof.Rows (boot_isinstance boot_int boot_bool boot_tuple boot_str boot_list boot_abs boot_all boot_any boot_sum boot_max boot_min boot_range boot_enumerate boot_zip boot_sorted boot_set boot_divmod)
variable {P : Program} {w : World} {K : PySem.W.Frag} {mg : Str -> Option Value} {base : Heap}
theorem Gs : AQ ["_law_pen_here", "_law_bound", "_law_found", "_law_stir"] ["_law_pen_here", "_law_bound"] (AI s_law_draw) := ⟨rfl, rfl, rfl, by decide +kernel, rfl, by decide +kernel, by decide +kernel⟩
theorem AN  (S : St.Src K mg "_law_draw" s_law_draw) : C2 P w K mg base := by
 refine Af (k := 0) S Gs rfl (fun f fd F => F.binds fun _ _ _ _ _ _ us hl => match us, hl with | [_, _], _ => rfl) fun f cdv A outer s H E hr => ?_
 have hu := AS hr
 exact (AG (B9 (DW.dt (Om (Ao (Bt hu) (AL AZ (AB 0) AF) AF) (ML (Ao PZ (AL AZ (AB 0) AF) AF)))) (AG (Ap 2 (Ah GG (AL AZ (AB 0) AF) (AB 1)) Gs.nd)
    (AG (CI (Ah Gq (AL AZ (AB 0) AF) (AB 1)) (AB 0) AF)
    (AJ (AU (AB 2))))) Ay)
    (AG (CI (Ah As (AL AZ (AB 0) AF) AF) (AB 0) AF)
    (AG (Ap 3 (Ah GG (Ah Au (Ah As (AL AZ (AB 0) AF) AF) (Ah As AF (Ah Au AF (AL AZ (AB 0) AF)))) AF) Gs.nd)
    (AG (Ap 3 (Ah GG (Ah As (Ah As (Ah Au (AB 3) (AB 3)) (Ah Au AF (AL AZ (AB 0) AF))) AF) AF) Gs.nd)
    (AJ (AU (Ah GG (Ah Gq (Ah GG (Ah Au (AB 3) AF) AF) AF) (AB 1))))))))
theorem JR : AQ ["_law_one", "_law_other"] ["_law_one", "_law_other"] (AI s_law_common) := ⟨rfl, rfl, rfl, by decide +kernel, rfl, by decide +kernel, by decide +kernel⟩
theorem Ef  (S : St.Src K mg "_law_common" s_law_common) : KY P w K mg base := by
 refine Af (k := 0) S JR rfl (fun f fd F => F.binds fun _ _ _ _ _ _ us hl => match us, hl with | [_, _], _ => rfl) fun f cdv A outer s H E hr => ?_
 have hu := AS hr
 exact (AG (Q9 (Rz 1) PassesOwn.never (Ao PZ (AB 1) AF) (AJ (L3 (i := 0) (j := 1) rfl JR.nd rfl rfl (by decide) rfl rfl (AB 1) (Ah GG (AB 0) (AB 1)))))
    (AJ (AU (AB 0))))
theorem MQ : AQ ["_law_top", "_law_bottom", "_law_by"] ["_law_top", "_law_bottom"] (AI s_law_made) := ⟨rfl, rfl, rfl, by decide +kernel, rfl, by decide +kernel, by decide +kernel⟩
theorem A6  (S : St.Src K mg "_law_made" s_law_made) (B : Bts mg) (Ef : KY P w K mg base) : EH P w K mg base := by
 refine Af (k := 1) S MQ rfl (fun f fd F => F.binds fun _ _ _ _ _ _ us hl => match us, hl with | [_, _], _ => rfl) fun f cdv A outer s H E hr => ?_
 have hu := AS hr
 exact (AG (Ap 2 (AH Ef (hr.mono (by decide)) rfl (AA (A7 MN rfl B.abs boot_abs (AA (AB 0) AE)) (AA (AB 1) AE))) MQ.nd)
    (AJ (AU (BJ (AA (Ah Gq (AB 0) (AB 2)) (AA (Ah Gq (AB 1) (AB 2)) AE))))))
theorem Ke : AQ ["_law_pen_here", "_law_many", "_law_weights"] ["_law_pen_here", "_law_many"] (AI s_law_whole) := ⟨rfl, rfl, rfl, by decide +kernel, rfl, by decide +kernel, by decide +kernel⟩
theorem Mg : Ab ["_law_pen_here", "_law_many", "_law_weights"] (AI s_law_whole) ["_law_pen_here", "_law_one"] (ixC [0] 1) (IL s_law_whole 0) := ⟨rfl, by decide +kernel, by decide +kernel, by decide +kernel, by decide +kernel⟩
theorem Mp : (["_law_pen_here", "_law_one"] : List Str).Nodup := by decide +kernel
theorem Ml : Ab ["_law_pen_here", "_law_many", "_law_weights"] (AI s_law_whole) ["_law_weights", "_law_weight"] (ixC [2] 1) (IL s_law_whole 1) := ⟨rfl, by decide +kernel, by decide +kernel, by decide +kernel, by decide +kernel⟩
theorem Me : (["_law_weights", "_law_weight"] : List Str).Nodup := by decide +kernel
theorem Cw  (S : St.Src K mg "_law_whole" s_law_whole) (B : Bts mg) (AN : C2 P w K mg base) (A6 : EH P w K mg base) : Im P w K mg base := by
 refine Af (k := 2) S Ke rfl (fun f fd F => F.binds fun _ _ _ _ _ _ us hl => match us, hl with | [_, _], _ => rfl) fun f cdv A outer s H E hr => ?_
 have hu := AS hr
 exact (AG (Ap 2 (B4 [0] 1 ["_law_pen_here", "_law_one"] rfl Mg (E5 rfl B.range (AA (AB 1) AE)) (fun s H fp => ⟨(Aj 1 Mp), B3, (AL AZ (B6 (AA AF (AA AF (AA (AH AN (hr.mono (by decide)) rfl (AA (AB 0) (AA AF AE))) (AA (AH AN (hr.mono (by decide)) rfl (AA (AB 0) (AA AF AE))) AE))))) (AH AN (hr.mono (by decide)) rfl (AA (AB 0) (AA AF AE))))⟩)) Ke.nd)
    (AG (B9 (Ao (Bt hu) (A7 (Hm rfl) rfl B.sum boot_sum (AA (AB 2) AE)) AF) (AJ (CI AF (AB 2) (AH AN (hr.mono (by decide)) rfl (AA (AB 0) (AA (AB 1) AE))))) Ay)
    (AJ (AU (BE BG rfl B.tuple boot_tuple (AA (B4 [2] 1 ["_law_weights", "_law_weight"] rfl Ml (CG (AB 2)) (fun s H fp => ⟨(Aj 1 Me), B3, (AH A6 (hr.mono (by decide)) rfl (AA (AB 1) (AA (A7 (Hm rfl) rfl B.sum boot_sum (AA (AB 0) AE)) AE)))⟩)) AE))))))
theorem Ha : AQ ["_law_pen_here", "_law_partners", "_law_kinds", "_law_beasts"] ["_law_pen_here"] (AI s_law_train) := ⟨rfl, rfl, rfl, by decide +kernel, rfl, by decide +kernel, by decide +kernel⟩
theorem Fj  (S : St.Src K mg "_law_train" s_law_train) (AN : C2 P w K mg base) (Cw : Im P w K mg base) : LN P w K mg base := by
 refine Af (k := 3) S Ha rfl (fun f fd F => F.binds fun _ _ _ _ _ _ us hl => match us, hl with | [_], _ => rfl) fun f cdv A outer s H E hr => ?_
 have hu := AS hr
 exact (AG (L3 (i := 1) (j := 2) rfl Ha.nd rfl rfl (by decide) rfl rfl (Ah As AF (AH AN (hr.mono (by decide)) rfl (AA (AB 0) (AA AF AE)))) (Ah As AF (AH AN (hr.mono (by decide)) rfl (AA (AB 0) (AA AF AE)))))
    (AG (Ap 3 (AL AZ (B6 (AA (Ah As AF (AH AN (hr.mono (by decide)) rfl (AA (AB 0) (AA AF AE)))) (AA (Ah As AF (AH AN (hr.mono (by decide)) rfl (AA (AB 0) (AA AF AE)))) AE))) (AH AN (hr.mono (by decide)) rfl (AA (AB 0) (AA AF AE)))) Ha.nd)
    (AJ (AU (BJ (AA (AB 1) (AA (AB 2) (AA (AB 3) (AA (AH Cw (hr.mono (by decide)) rfl (AA (AB 0) (AA (AB 1) AE))) (AA (AH AN (hr.mono (by decide)) rfl (AA (AB 0) (AA AF AE))) (AA (AH AN (hr.mono (by decide)) rfl (AA (AB 0) (AA AF AE))) AE)))))))))))
theorem JY : AQ ["_law_pen_here", "_law_great"] ["_law_pen_here"] (AI s_law_pieces) := ⟨rfl, rfl, rfl, by decide +kernel, rfl, by decide +kernel, by decide +kernel⟩
theorem By  (S : St.Src K mg "_law_pieces" s_law_pieces) (AN : C2 P w K mg base) : Hk P w K mg base := by
 refine Af (k := 1) S JY rfl (fun f fd F => F.binds fun _ _ _ _ _ _ us hl => match us, hl with | [_], _ => rfl) fun f cdv A outer s H E hr => ?_
 have hu := AS hr
 exact (AG (Ap 1 (Ah As (Ah Ua AF AF) (AH AN (hr.mono (by decide)) rfl (AA (AB 0) (AA AF AE)))) JY.nd)
    (AJ (AU (AL AZ (B6 (AA (Ah As AF (AH AN (hr.mono (by decide)) rfl (AA (AB 0) (AA AF AE)))) (AA (Ah As AF (AH AN (hr.mono (by decide)) rfl (AA (AB 0) (AA AF AE)))) (AA (Ah As AF (AH AN (hr.mono (by decide)) rfl (AA (AB 0) (AA AF AE)))) (AA (AB 1) AE))))) (Ah Gq (AH AN (hr.mono (by decide)) rfl (AA (AB 0) (AA AF AE))) AF)))))
end
section
open PyProof.Rows (boot_isinstance boot_int boot_bool boot_tuple boot_str boot_list boot_abs boot_all boot_any boot_sum boot_max boot_min boot_range boot_enumerate boot_zip boot_sorted boot_set boot_divmod)
variable {P : Program} {w : World} {K : PySem.W.Frag} {mg : Str -> Option Value} {base : Heap}
theorem Ht : AQ ["_law_pen_here", "_law_train_here", "_law_found", "_law_k"] ["_law_pen_here", "_law_train_here"] (AI s_law_first) := ⟨rfl, rfl, rfl, by decide +kernel, rfl, by decide +kernel, by decide +kernel⟩
theorem FU  (S : St.Src K mg "_law_first" s_law_first) (B : Bts mg) (AN : C2 P w K mg base) (Cw : Im P w K mg base) (By : Hk P w K mg base) : Le P w K mg base := by
 refine Af (k := 3) S Ht rfl (fun f fd F => F.binds fun _ _ _ _ _ _ us hl => match us, hl with | [_, _], _ => rfl) fun f cdv A outer s H E hr => ?_
 have hu := AS hr
 exact (AG (Ap 2 (B6 AE) Ht.nd)
    (AG (EG PassesOwn.never rfl (E5 rfl B.range (AA (AL AZ (B6 (AA AF (AA AF (AA (AH AN (hr.mono (by decide)) rfl (AA (AB 0) (AA AF AE))) AE)))) (AH AN (hr.mono (by decide)) rfl (AA (AB 0) (AA AF AE)))) AE)) (Aj 3 Ht.nd) (AJ (Br (HB PySem.F.slot_list_append PySem.F.type_list_append Fh (AB 2) (AA (BJ (AA (AH AN (hr.mono (by decide)) rfl (AA (AB 0) (AA (AL AZ (AB 1) AF) AE))) (AA (AH By (hr.mono (by decide)) rfl (AA (AB 0) AE)) (AA (AH Cw (hr.mono (by decide)) rfl (AA (AB 0) (AA (AL AZ (AB 1) AF) AE))) AE)))) AE)))))
    (AJ (AU (BE BG rfl B.tuple boot_tuple (AA (AB 2) AE))))))
theorem PK : AQ ["_law_book_here"] ["_law_book_here"] (AI s_law_begun) := ⟨rfl, rfl, rfl, by decide +kernel, rfl, by decide +kernel, by decide +kernel⟩
theorem MZ : Ab ["_law_book_here"] (AI s_law_begun) ["_law_load"] (ixC [] 1) (IL s_law_begun 0) := ⟨rfl, by decide +kernel, by decide +kernel, by decide +kernel, by decide +kernel⟩
theorem Mf : (["_law_load"] : List Str).Nodup := by decide +kernel
theorem Fq  (S : St.Src K mg "_law_begun" s_law_begun) (B : Bts mg) : MH P w K mg base := by
 refine Af (k := 0) S PK rfl (fun f fd F => F.binds fun _ _ _ _ _ _ us hl => match us, hl with | [_], _ => rfl) fun f cdv A outer s H E hr => ?_
 have hu := AS hr
 exact (AJ (AU (B6 (AA (B4 [] 1 ["_law_load"] rfl MZ (CG (AL AZ (AB 0) AF)) (fun s H fp => ⟨(Aj 0 Mf), B3, (BE KC rfl B.list boot_list (AA (AB 0) AE))⟩)) (AA (BE BG rfl B.tuple boot_tuple (AA (AL AZ (AL AZ (AB 0) AF) AF) AE)) (AA (B6 AE) AE))))))
theorem KS : AQ ["_law_pen_here", "_law_bottom"] ["_law_pen_here"] (AI s_law_share) := ⟨rfl, rfl, rfl, by decide +kernel, rfl, by decide +kernel, by decide +kernel⟩
theorem FZ  (S : St.Src K mg "_law_share" s_law_share) (AN : C2 P w K mg base) (A6 : EH P w K mg base) : LS P w K mg base := by
 refine Af (k := 2) S KS rfl (fun f fd F => F.binds fun _ _ _ _ _ _ us hl => match us, hl with | [_], _ => rfl) fun f cdv A outer s H E hr => ?_
 have hu := AS hr
 exact (AG (Ap 1 (Ah As AF (AH AN (hr.mono (by decide)) rfl (AA (AB 0) (AA AF AE)))) KS.nd)
    (AJ (AU (AH A6 (hr.mono (by decide)) rfl (AA (Ah As AF (AH AN (hr.mono (by decide)) rfl (AA (AB 0) (AA (AB 1) AE)))) (AA (AB 1) AE))))))
theorem Nc : AQ ["_law_pen_here", "_law_many"] ["_law_pen_here", "_law_many"] (AI s_law_worths) := ⟨rfl, rfl, rfl, by decide +kernel, rfl, by decide +kernel, by decide +kernel⟩
theorem LR : Ab ["_law_pen_here", "_law_many"] (AI s_law_worths) ["_law_pen_here", "_law_one"] (ixC [0] 1) (IL s_law_worths 0) := ⟨rfl, by decide +kernel, by decide +kernel, by decide +kernel, by decide +kernel⟩
theorem Ll : (["_law_pen_here", "_law_one"] : List Str).Nodup := by decide +kernel
theorem Ea  (S : St.Src K mg "_law_worths" s_law_worths) (B : Bts mg) (AN : C2 P w K mg base) : Kt P w K mg base := by
 refine Af (k := 1) S Nc rfl (fun f fd F => F.binds fun _ _ _ _ _ _ us hl => match us, hl with | [_, _], _ => rfl) fun f cdv A outer s H E hr => ?_
 have hu := AS hr
 exact (AJ (AU (BE BG rfl B.tuple boot_tuple (AA (B4 [0] 1 ["_law_pen_here", "_law_one"] rfl LR (E5 rfl B.range (AA (AB 1) AE)) (fun s H fp => ⟨(Aj 1 Ll), B3, (Ah As AF (AL AZ (B6 (AA (AH AN (hr.mono (by decide)) rfl (AA (AB 0) (AA AF AE))) (AA (AH AN (hr.mono (by decide)) rfl (AA (AB 0) (AA AF AE))) AE))) (AH AN (hr.mono (by decide)) rfl (AA (AB 0) (AA AF AE)))))⟩)) AE))))
theorem Bp : AQ ["_law_pen_here", "_law_train_here", "_law_state", "_law_loads", "_law_holders", "_law_numbers", "_law_full", "_law_way", "_law_load", "_law_some", "_law_same", "_law_kind", "_law_left", "_law_partner"] ["_law_pen_here", "_law_train_here", "_law_state"] (AI s_law_deed) := ⟨rfl, rfl, rfl, by decide +kernel, rfl, by decide +kernel, by decide +kernel⟩
theorem Nx : Ab ["_law_pen_here", "_law_train_here", "_law_state", "_law_loads", "_law_holders", "_law_numbers", "_law_full", "_law_way", "_law_load", "_law_some", "_law_same", "_law_kind", "_law_left", "_law_partner"] (AI s_law_deed) ["_law_at", "_law_load"] (ixC [] 2) (IL s_law_deed 0) := ⟨rfl, by decide +kernel, by decide +kernel, by decide +kernel, by decide +kernel⟩
theorem JU : (["_law_at", "_law_load"] : List Str).Nodup := by decide +kernel
theorem N5 : Ab ["_law_pen_here", "_law_train_here", "_law_state", "_law_loads", "_law_holders", "_law_numbers", "_law_full", "_law_way", "_law_load", "_law_some", "_law_same", "_law_kind", "_law_left", "_law_partner"] (AI s_law_deed) ["_law_loads", "_law_load", "_law_at"] (ixC [3, 8] 1) (IL s_law_deed 1) := ⟨rfl, by decide +kernel, by decide +kernel, by decide +kernel, by decide +kernel⟩
theorem N3 : (["_law_loads", "_law_load", "_law_at"] : List Str).Nodup := by decide +kernel
theorem OL : Ab ["_law_pen_here", "_law_train_here", "_law_state", "_law_loads", "_law_holders", "_law_numbers", "_law_full", "_law_way", "_law_load", "_law_some", "_law_same", "_law_kind", "_law_left", "_law_partner"] (AI s_law_deed) ["_law_numbers", "_law_number"] (ixC [5] 1) (IL s_law_deed 2) := ⟨rfl, by decide +kernel, by decide +kernel, by decide +kernel, by decide +kernel⟩
theorem N2 : (["_law_numbers", "_law_number"] : List Str).Nodup := by decide +kernel
theorem GV  (S : St.Src K mg "_law_deed" s_law_deed) (B : Bts mg) (AN : C2 P w K mg base) (By : Hk P w K mg base) (FZ : LS P w K mg base) (Ea : Kt P w K mg base) : NA P w K mg base := by
 refine Af (k := 3) S Bp rfl (fun f fd F => F.binds fun _ _ _ _ _ _ us hl => match us, hl with | [_, _, _], _ => rfl) fun f cdv A outer s H E hr => ?_
 have hu := AS hr
 exact (AG (E8 (AB 2) (EF rfl (AO (Aj 3 Bp.nd) (AO (Aj 4 Bp.nd) (AO (Aj 5 Bp.nd) Bf)))))
    (AG (Dg [] 2 ["_law_at", "_law_load"] rfl Bp.nd rfl rfl Nx (Sx rfl B.enumerate (AB 3)) (fun s H fp => ⟨(EF rfl (AO (Aj 0 JU) (AO (Aj 1 JU) Bf))), (Hj (Ao PZ (AL AZ (AB 1) AF) AF)), (AB 0)⟩))
    (AG (Ap 7 (AH AN (hr.mono (by decide)) rfl (AA (AB 0) (AA AF AE))) Bp.nd)
    (AG (B9 (DW.dt (YU (Ao NH (AB 7) AF) (T8 (Ao (Bt hu) (AB 6) (B6 AE))))) (AJ (AU (BJ (AA BL (AA (AH AN (hr.mono (by decide)) rfl (AA (AB 0) (AA (AL AZ (AB 1) AF) AE))) (AA (AH AN (hr.mono (by decide)) rfl (AA (AB 0) (AA (AL AZ (AB 1) AF) AE))) (AA (AH By (hr.mono (by decide)) rfl (AA (AB 0) AE)) AE))))))) Ay)
    (AG (Ap 8 (AL AZ (AB 6) (AH AN (hr.mono (by decide)) rfl (AA (AB 0) (AA (A7 CM rfl B.len boot_len (AA (AB 6) AE)) AE)))) Bp.nd)
    (AG (Ap 9 (Ah As AF (AH AN (hr.mono (by decide)) rfl (AA (AB 0) (AA (A7 (O2 rfl) rfl B.min boot_min (AA (AL AZ (AL AZ (AB 3) (AB 8)) AF) (AA AF AE))) AE)))) Bp.nd)
    (AG (B9 (Ao NH (AB 7) AF) (AG (Dg [3, 8] 1 ["_law_loads", "_law_load", "_law_at"] rfl Bp.nd rfl rfl N5 (CG (AB 6)) (fun s H fp => ⟨(Aj 2 N3), (Hj (DW.dt (Om (Ao (GY hu) (AB 2) (AB 1)) (ML (Ao (Bt hu) (AL AZ (AL AZ (AB 0) (AB 2)) AF) (AL AZ (AL AZ (AB 0) (AB 1)) AF)))))), (AB 2)⟩))
    (AJ (B9 (Ao (GY hu) (AB 10) (B6 AE)) (AJ (AU (BJ (AA BL (AA (AB 8) (AA (AL AZ (AB 10) (AH AN (hr.mono (by decide)) rfl (AA (AB 0) (AA (A7 CM rfl B.len boot_len (AA (AB 10) AE)) AE)))) AE)))))) Ay))) Ay)
    (AG (B9 (DW.dt (Om (Ao NH (AB 7) AF) (ML (Ao PZ (AL AZ (AB 1) AF) AF)))) (AG (Ap 11 (Ah GG (Ah As (Ah As (AL AZ (AL AZ (AB 3) (AB 8)) AF) AF) (AH AN (hr.mono (by decide)) rfl (AA (AB 0) (AA (Ah FV (AL AZ (AB 1) AF) AF) AE)))) (AL AZ (AB 1) AF)) Bp.nd)
    (AG (Dg [5] 1 ["_law_numbers", "_law_number"] rfl Bp.nd rfl rfl OL (E5 rfl B.range (AA AF AE)) (fun s H fp => ⟨(Aj 1 N2), (Hj (Ao L6 (AB 1) (AB 0))), (AB 1)⟩))
    (AG (B9 (DW.dt (Om (Ao (Bt hu) (AB 7) AF) (ML (Ao (GY hu) (AB 12) (B6 AE))))) (AJ (AU (BJ (AA BL (AA (AL AZ (AB 12) (AH AN (hr.mono (by decide)) rfl (AA (AB 0) (AA (A7 CM rfl B.len boot_len (AA (AB 12) AE)) AE)))) (AA (AB 8) (AA (AB 9) (AA (AB 11) (AA (AH By (hr.mono (by decide)) rfl (AA (AB 0) AE)) AE))))))))) Ay)
    (AJ (AU (BJ (AA BL (AA (AB 8) (AA (AB 9) (AA (AB 11) (AA (AH By (hr.mono (by decide)) rfl (AA (AB 0) AE)) AE))))))))))) Ay)
    (AG (B9 (Ao (Bt hu) (AB 7) AF) (AJ (AU (BJ (AA BL (AA (AB 8) (AA (AB 9) AE)))))) Ay)
    (AG (B9 (DW.dt (Om (Ao (Bt hu) (AB 7) AF) (ML (Ao PZ (AL AZ (AB 1) AF) AF)))) (AG (Ap 13 (AH AN (hr.mono (by decide)) rfl (AA (AB 0) (AA (AL AZ (AB 1) AF) AE))) Bp.nd)
    (AJ (AU (BJ (AA BL (AA (AB 13) (AA (Ah GG (Ah As (Ah As (AB 13) AF) (AH AN (hr.mono (by decide)) rfl (AA (AB 0) (AA (Ah FV (AL AZ (AB 1) AF) AF) AE)))) (AL AZ (AB 1) AF)) (AA (AH FZ (hr.mono (by decide)) rfl (AA (AB 0) AE)) AE)))))))) Ay)
    (AJ (AU (BJ (AA BL (AA (AB 8) (AA (AB 9) (AA (AH Ea (hr.mono (by decide)) rfl (AA (AB 0) (AA (Ah As (AL AZ (AB 1) AF) AF) AE))) AE)))))))))))))))))
theorem P2 : AQ ["_law_one", "_law_other"] ["_law_one", "_law_other"] (AI s_law_plus) := ⟨rfl, rfl, rfl, by decide +kernel, rfl, by decide +kernel, by decide +kernel⟩
theorem BN  (S : St.Src K mg "_law_plus" s_law_plus) (A6 : EH P w K mg base) : FP P w K mg base := by
 refine Af (k := 2) S P2 rfl (fun f fd F => F.binds fun _ _ _ _ _ _ us hl => match us, hl with | [_, _], _ => rfl) fun f cdv A outer s H E hr => ?_
 have hu := AS hr
 exact (AJ (AU (AH A6 (hr.mono (by decide)) rfl (AA (Ah As (Ah Au (AL AZ (AB 0) AF) (AL AZ (AB 1) AF)) (Ah Au (AL AZ (AB 1) AF) (AL AZ (AB 0) AF))) (AA (Ah Au (AL AZ (AB 0) AF) (AL AZ (AB 1) AF)) AE)))))
end
section
open PyProof.Rows (boot_isinstance boot_int boot_bool boot_tuple boot_str boot_list boot_abs boot_all boot_any boot_sum boot_max boot_min boot_range boot_enumerate boot_zip boot_sorted boot_set boot_divmod)
variable {P : Program} {w : World} {K : PySem.W.Frag} {mg : Str -> Option Value} {base : Heap}
theorem PX : AQ ["_law_one", "_law_other"] ["_law_one", "_law_other"] (AI s_law_times) := ⟨rfl, rfl, rfl, by decide +kernel, rfl, by decide +kernel, by decide +kernel⟩
theorem BX  (S : St.Src K mg "_law_times" s_law_times) (A6 : EH P w K mg base) : Gj P w K mg base := by
 refine Af (k := 2) S PX rfl (fun f fd F => F.binds fun _ _ _ _ _ _ us hl => match us, hl with | [_, _], _ => rfl) fun f cdv A outer s H E hr => ?_
 have hu := AS hr
 exact (AJ (AU (AH A6 (hr.mono (by decide)) rfl (AA (Ah Au (AL AZ (AB 0) AF) (AL AZ (AB 1) AF)) (AA (Ah Au (AL AZ (AB 0) AF) (AL AZ (AB 1) AF)) AE)))))
theorem Du : AQ ["_law_one", "_law_other", "_law_found", "_law_mine", "_law_its", "_law_both"] ["_law_one", "_law_other"] (AI s_law_pooled) := ⟨rfl, rfl, rfl, by decide +kernel, rfl, by decide +kernel, by decide +kernel⟩
theorem Ed  (S : St.Src K mg "_law_pooled" s_law_pooled) (B : Bts mg) (A6 : EH P w K mg base) (BN : FP P w K mg base) (BX : Gj P w K mg base) : Kw P w K mg base := by
 refine Af (k := 3) S Du rfl (fun f fd F => F.binds fun _ _ _ _ _ _ us hl => match us, hl with | [_, _], _ => rfl) fun f cdv A outer s H E hr => ?_
 have hu := AS hr
 exact (AG (Ap 2 (B6 AE) Du.nd)
    (AG (EG PassesOwn.never rfl (PL rfl B.zip (AL AZ (AB 0) AF) (AL AZ (AB 1) AF)) (EF rfl (AO (Aj 3 Du.nd) (AO (Aj 4 Du.nd) Bf))) (AG (Ap 5 (AH BN (hr.mono (by decide)) rfl (AA (AH BX (hr.mono (by decide)) rfl (AA (BJ (AA (AL AZ (AB 0) AF) (AA AF AE))) (AA (AB 3) AE))) (AA (AH BX (hr.mono (by decide)) rfl (AA (BJ (AA (AL AZ (AB 1) AF) (AA AF AE))) (AA (AB 4) AE))) AE))) Du.nd)
    (AJ (Br (HB PySem.F.slot_list_append PySem.F.type_list_append Fh (AB 2) (AA (AH BX (hr.mono (by decide)) rfl (AA (AB 5) (AA (AH A6 (hr.mono (by decide)) rfl (AA AF (AA (Ah As (AL AZ (AB 0) AF) (AL AZ (AB 1) AF)) AE))) AE))) AE))))))
    (AJ (AU (BE BG rfl B.tuple boot_tuple (AA (AB 2) AE))))))
theorem JB : AQ ["_law_train_here", "_law_loads", "_law_deed_here", "_law_worths_here", "_law_whole_here"] ["_law_train_here", "_law_loads", "_law_deed_here"] (AI s_law_cost) := ⟨rfl, rfl, rfl, by decide +kernel, rfl, by decide +kernel, by decide +kernel⟩
theorem OS : Ab ["_law_train_here", "_law_loads", "_law_deed_here", "_law_worths_here", "_law_whole_here"] (AI s_law_cost) ["_law_worths_here", "_law_kind", "_law_pieces_here", "_law_owners"] (ixC [3] 3) (IL s_law_cost 0) := ⟨rfl, by decide +kernel, by decide +kernel, by decide +kernel, by decide +kernel⟩
theorem Gh : (["_law_worths_here", "_law_kind", "_law_pieces_here", "_law_owners"] : List Str).Nodup := by decide +kernel
theorem GK  (S : St.Src K mg "_law_cost" s_law_cost) (B : Bts mg) (A6 : EH P w K mg base) : NW P w K mg base := by
 refine Af (k := 2) S JB rfl (fun f fd F => F.binds fun _ _ _ _ _ _ us hl => match us, hl with | [_, _, _], _ => rfl) fun f cdv A outer s H E hr => ?_
 have hu := AS hr
 exact (AG (Ap 3 (AL AZ (AB 2) AF) JB.nd)
    (AG (Ap 4 (Ah As (A7 (Hm rfl) rfl B.sum boot_sum (AA (B4 [3] 3 ["_law_worths_here", "_law_kind", "_law_pieces_here", "_law_owners"] rfl OS (CG (AB 1)) (fun s H fp => ⟨(EF rfl (AO (Aj 1 Gh) (AO (Aj 2 Gh) (AO (Aj 3 Gh) Bf)))), B3, (Ah Au (AB 2) (AL AZ (AB 0) (AB 1)))⟩)) AE)) (Ah Au (AL AZ (AB 0) AF) (AL AZ (AB 3) (Tt Ls AF)))) JB.nd)
    (AJ (AU (AH A6 (hr.mono (by decide)) rfl (AA (Ah Au (AL AZ (AB 2) AF) (AL AZ (AB 3) (AL AZ (AL AZ (AB 1) (AL AZ (AB 2) AF)) AF))) (AA (AB 4) AE)))))))
theorem Px : AQ ["_law_one", "_law_other"] ["_law_one", "_law_other"] (AI s_law_less) := ⟨rfl, rfl, rfl, by decide +kernel, rfl, by decide +kernel, by decide +kernel⟩
theorem Dh  (S : St.Src K mg "_law_less" s_law_less) (BN : FP P w K mg base) : Jw P w K mg base := by
 refine Af (k := 3) S Px rfl (fun f fd F => F.binds fun _ _ _ _ _ _ us hl => match us, hl with | [_, _], _ => rfl) fun f cdv A outer s H E hr => ?_
 have hu := AS hr
 exact (AJ (AU (AH BN (hr.mono (by decide)) rfl (AA (AB 0) (AA (BJ (AA (Ah FV AF (AL AZ (AB 1) AF)) (AA (AL AZ (AB 1) AF) AE))) AE)))))
theorem F4 : AQ ["_law_shares", "_law_part", "_law_owners", "_law_found", "_law_mine", "_law_its"] ["_law_shares", "_law_part", "_law_owners"] (AI s_law_borne) := ⟨rfl, rfl, rfl, by decide +kernel, rfl, by decide +kernel, by decide +kernel⟩
theorem EO  (S : St.Src K mg "_law_borne" s_law_borne) (B : Bts mg) (BN : FP P w K mg base) (BX : Gj P w K mg base) (Dh : Jw P w K mg base) : MI P w K mg base := by
 refine Af (k := 4) S F4 rfl (fun f fd F => F.binds fun _ _ _ _ _ _ us hl => match us, hl with | [_, _, _], _ => rfl) fun f cdv A outer s H E hr => ?_
 have hu := AS hr
 exact (AG (Ap 3 (B6 AE) F4.nd)
    (AG (EG PassesOwn.never rfl (PL rfl B.zip (AB 0) (AB 2)) (EF rfl (AO (Aj 4 F4.nd) (AO (Aj 5 F4.nd) Bf))) (AJ (Br (HB PySem.F.slot_list_append PySem.F.type_list_append Fh (AB 3) (AA (AH BN (hr.mono (by decide)) rfl (AA (AH BX (hr.mono (by decide)) rfl (AA (AB 4) (AA (AH Dh (hr.mono (by decide)) rfl (AA (BJ (AA AF (AA AF AE))) (AA (AB 1) AE))) AE))) (AA (AH BX (hr.mono (by decide)) rfl (AA (AB 5) (AA (AB 1) AE))) AE))) AE)))))
    (AJ (AU (BE BG rfl B.tuple boot_tuple (AA (AB 3) AE))))))
theorem Iv : AQ ["_law_shares", "_law_deed_here", "_law_found", "_law_passes"] ["_law_shares", "_law_deed_here"] (AI s_law_sold) := ⟨rfl, rfl, rfl, by decide +kernel, rfl, by decide +kernel, by decide +kernel⟩
theorem FR  (S : St.Src K mg "_law_sold" s_law_sold) (B : Bts mg) (BN : FP P w K mg base) (BX : Gj P w K mg base) (Dh : Jw P w K mg base) : NS P w K mg base := by
 refine Af (k := 4) S Iv rfl (fun f fd F => F.binds fun _ _ _ _ _ _ us hl => match us, hl with | [_, _], _ => rfl) fun f cdv A outer s H E hr => ?_
 have hu := AS hr
 exact (AG (Ap 2 (BE KC rfl B.list boot_list (AA (AB 0) AE)) Iv.nd)
    (AG (Ap 3 (AH BX (hr.mono (by decide)) rfl (AA (AL AZ (AB 2) (AL AZ (AB 1) AF)) (AA (AL AZ (AB 1) AF) AE))) Iv.nd)
    (AG (CI (AH Dh (hr.mono (by decide)) rfl (AA (AL AZ (AB 2) (AL AZ (AB 1) AF)) (AA (AB 3) AE))) (AB 2) (AL AZ (AB 1) AF))
    (AG (CI (AH BN (hr.mono (by decide)) rfl (AA (AL AZ (AB 2) (AL AZ (AB 1) AF)) (AA (AB 3) AE))) (AB 2) (AL AZ (AB 1) AF))
    (AJ (AU (BE BG rfl B.tuple boot_tuple (AA (AB 2) AE))))))))
end
section
open PyProof.Rows (boot_isinstance boot_int boot_bool boot_tuple boot_str boot_list boot_abs boot_all boot_any boot_sum boot_max boot_min boot_range boot_enumerate boot_zip boot_sorted boot_set boot_divmod)
variable {P : Program} {w : World} {K : PySem.W.Frag} {mg : Str -> Option Value} {base : Heap}
theorem DZ : AQ ["_law_train_here", "_law_state", "_law_deed_here", "_law_loads", "_law_holders", "_law_numbers", "_law_part", "_law_owners", "_law_load"] ["_law_train_here", "_law_state", "_law_deed_here"] (AI s_law_turn) := ⟨rfl, rfl, rfl, by decide +kernel, rfl, by decide +kernel, by decide +kernel⟩
theorem GX  (S : St.Src K mg "_law_turn" s_law_turn) (GK : NW P w K mg base) (EO : MI P w K mg base) (FR : NS P w K mg base) : Na P w K mg base := by
 refine Af (k := 5) S DZ rfl (fun f fd F => F.binds fun _ _ _ _ _ _ us hl => match us, hl with | [_, _, _], _ => rfl) fun f cdv A outer s H E hr => ?_
 have hu := AS hr
 exact (AG (E8 (AB 1) (EF rfl (AO (Aj 3 DZ.nd) (AO (Aj 4 DZ.nd) (AO (Aj 5 DZ.nd) Bf)))))
    (AJ (B9 (Ao (Bt hu) (AL AZ (AB 2) AF) BL) (AG (L3 (i := 6) (j := 7) rfl DZ.nd rfl rfl (by decide) rfl rfl (AH GK (hr.mono (by decide)) rfl (AA (AB 0) (AA (AB 3) (AA (AB 2) AE)))) (AL AZ (AL AZ (AB 3) (AL AZ (AB 2) AF)) AF))
    (AG (CI (Ah FV (AL AZ (AL AZ (AB 3) (AL AZ (AB 2) AF)) AF) (AL AZ (AB 2) AF)) (AL AZ (AB 3) (AL AZ (AB 2) AF)) AF)
    (AG (EG PassesOwn.never rfl (CG (AB 3)) (Aj 8 DZ.nd) (AJ (CI (AH EO (hr.mono (by decide)) rfl (AA (AL AZ (AB 8) AF) (AA (AB 6) (AA (AB 7) AE)))) (AB 8) AF)))
    (AJ (CI (AH EO (hr.mono (by decide)) rfl (AA (AB 4) (AA (AB 6) (AA (AB 7) AE)))) (AB 1) AF))))) (AG (EG PassesOwn.never rfl (CG (AB 3)) (Aj 8 DZ.nd) (AJ (CI (AH FR (hr.mono (by decide)) rfl (AA (AL AZ (AB 8) AF) (AA (AB 2) AE))) (AB 8) AF)))
    (AJ (CI (AH FR (hr.mono (by decide)) rfl (AA (AB 4) (AA (AB 2) AE))) (AB 1) AF))))))
theorem DK : AQ ["_law_train_here", "_law_state", "_law_deed_here", "_law_loads", "_law_holders", "_law_numbers", "_law_word", "_law_one", "_law_other", "_law_load", "_law_given", "_law_kind", "_law_got"] ["_law_train_here", "_law_state", "_law_deed_here"] (AI s_law_do) := ⟨rfl, rfl, rfl, by decide +kernel, rfl, by decide +kernel, by decide +kernel⟩
theorem P1 : Ab ["_law_train_here", "_law_state", "_law_deed_here", "_law_loads", "_law_holders", "_law_numbers", "_law_word", "_law_one", "_law_other", "_law_load", "_law_given", "_law_kind", "_law_got"] (AI s_law_do) ["_law_deed_here", "_law_one"] (ixC [2] 1) (IL s_law_do 0) := ⟨rfl, by decide +kernel, by decide +kernel, by decide +kernel, by decide +kernel⟩
theorem QA : (["_law_deed_here", "_law_one"] : List Str).Nodup := by decide +kernel
theorem Jt  (S : St.Src K mg "_law_do" s_law_do) (B : Bts mg) (Ed : Kw P w K mg base) (GX : Na P w K mg base) : Q0 P w K mg base := by
 refine Af (k := 6) S DK rfl (fun f fd F => F.binds fun _ _ _ _ _ _ us hl => match us, hl with | [_, _, _], _ => rfl) fun f cdv A outer s H E hr => ?_
 have hu := AS hr
 exact (AG (E8 (AB 1) (EF rfl (AO (Aj 3 DK.nd) (AO (Aj 4 DK.nd) (AO (Aj 5 DK.nd) Bf)))))
    (AG (Ap 6 (AL AZ (AB 2) AF) DK.nd)
    (AJ (B9 (Ao (Bt hu) (AB 6) BL) (AJ (Br (HB PySem.F.slot_list_append PySem.F.type_list_append Fh (AB 3) (AA (B6 (AA (AL AZ (AB 2) AF) (AA (AL AZ (AB 2) AF) (AA (BE BG rfl B.tuple boot_tuple (AA (B4 [2] 1 ["_law_deed_here", "_law_one"] rfl P1 (E5 rfl B.range (AA (AL AZ (AB 0) AF) AE)) (fun s H fp => ⟨(Aj 1 QA), B3, (BJ (AA (BE Ly rfl B.int boot_int (AA (Hf (Bt hu) (AB 1) (AL AZ (AB 0) AF)) AE)) (AA AF AE)))⟩)) AE)) AE)))) AE)))) (AJ (B9 (Ao (Bt hu) (AB 6) BL) (AG (L3 (i := 7) (j := 8) rfl DK.nd rfl rfl (by decide) rfl rfl (AL AZ (AB 3) (AL AZ (AB 2) AF)) (AL AZ (AB 3) (AL AZ (AB 2) AF)))
    (AG (Br (HB PySem.F.slot_list_append PySem.F.type_list_append Fh (AB 3) (AA (B6 (AA (AL AZ (AB 7) AF) (AA (Ah As (AL AZ (AB 7) AF) (AL AZ (AB 8) AF)) (AA (AH Ed (hr.mono (by decide)) rfl (AA (AB 7) (AA (AB 8) AE))) AE)))) AE)))
    (AG (CI AF (AB 7) AF)
    (AJ (CI AF (AB 8) AF))))) (AJ (B9 (Ao Ln (AB 6) (BJ (AA BL (AA BL AE)))) (AG (E8 (J1 (AB 2) (Tt Ls AF)) (EF rfl (AO (Aj 9 DK.nd) (AO (Aj 10 DK.nd) (AO (Aj 11 DK.nd) (AO (Aj 12 DK.nd) Bf))))))
    (AG (CI (Ah FV (AL AZ (AL AZ (AB 3) (AB 9)) AF) (AB 10)) (AL AZ (AB 3) (AB 9)) AF)
    (AG (Br (HB PySem.F.slot_list_append PySem.F.type_list_append Fh (AB 3) (AA (B6 (AA (AB 11) (AA (AB 12) (AA (AL AZ (AL AZ (AB 3) (AB 9)) AF) AE)))) AE)))
    (AJ (Br (HB PySem.F.slot_list_extend PySem.F.type_list_extend Xz (AB 5) (AA (Ah Au (Sv (AB 2) AF AF) (BE Ly rfl B.int boot_int (AA (Hf (Bt hu) (AB 6) BL) AE))) AE))))))) (AJ (B9 (Ao (Bt hu) (AB 6) BL) (AJ (CI (Ah FV (AL AZ (AL AZ (AB 3) (AL AZ (AB 2) AF)) AF) (AL AZ (AB 2) AF)) (AL AZ (AB 3) (AL AZ (AB 2) AF)) AF)) (AJ (Br (AH GX (hr.mono (by decide)) rfl (AA (AB 0) (AA (AB 1) (AA (AB 2) AE))))))))))))))))
theorem EI : AQ ["_law_pen_here", "_law_most", "_law_train_here", "_law_first_here", "_law_state", "_law_deeds", "_law_k", "_law_deed_here"] ["_law_pen_here", "_law_most"] (AI s_law_book) := ⟨rfl, rfl, rfl, by decide +kernel, rfl, by decide +kernel, by decide +kernel⟩
theorem OU : Ab ["_law_pen_here", "_law_most", "_law_train_here", "_law_first_here", "_law_state", "_law_deeds", "_law_k", "_law_deed_here"] (AI s_law_book) ["_law_one"] (ixC [] 1) (IL s_law_book 0) := ⟨rfl, by decide +kernel, by decide +kernel, by decide +kernel, by decide +kernel⟩
theorem Nk : (["_law_one"] : List Str).Nodup := by decide +kernel
theorem FQ  (S : St.Src K mg "_law_book" s_law_book) (B : Bts mg) (AN : C2 P w K mg base) (Fj : LN P w K mg base) (FU : Le P w K mg base) (Fq : MH P w K mg base) (GV : NA P w K mg base) (Jt : Q0 P w K mg base) : NO P w K mg base := by
 refine Af (k := 7) S EI rfl (fun f fd F => F.binds fun _ _ _ _ _ _ us hl => match us, hl with | [_, _], _ => rfl) fun f cdv A outer s H E hr => ?_
 have hu := AS hr
 exact (AG (Ap 2 (AH Fj (hr.mono (by decide)) rfl (AA (AB 0) AE)) EI.nd)
    (AG (Ap 3 (AH FU (hr.mono (by decide)) rfl (AA (AB 0) (AA (AB 2) AE))) EI.nd)
    (AG (L3 (i := 4) (j := 5) rfl EI.nd rfl rfl (by decide) rfl rfl (AH Fq (hr.mono (by decide)) rfl (AA (BJ (AA (AB 2) (AA (AB 3) (AA (BJ AE) AE)))) AE)) (B6 AE))
    (AG (EG PassesOwn.never rfl (E5 rfl B.range (AA (AH AN (hr.mono (by decide)) rfl (AA (AB 0) (AA (Ah As (AB 1) AF) AE))) AE)) (Aj 6 EI.nd) (AG (Ap 7 (AH GV (hr.mono (by decide)) rfl (AA (AB 0) (AA (AB 2) (AA (AB 4) AE)))) EI.nd)
    (AJ (B9 (DW.dt (YU (Ao (GY hu) (AL AZ (AB 7) AF) BL) (T8 (Ao NH (A7 CM rfl B.len boot_len (AA (B4 [] 1 ["_law_one"] rfl OU (CG (AB 5)) (fun s H fp => ⟨(Aj 0 Nk), (Hj (Ao (Bt hu) (AL AZ (AB 0) AF) BL)), (AB 0)⟩)) AE)) AF)))) (AG (Br (AH Jt (hr.mono (by decide)) rfl (AA (AB 2) (AA (AB 4) (AA (AB 7) AE)))))
    (AJ (Br (HB PySem.F.slot_list_append PySem.F.type_list_append Fh (AB 5) (AA (AB 7) AE))))) Ay))))
    (AJ (AU (BJ (AA (AB 2) (AA (AB 3) (AA (BE BG rfl B.tuple boot_tuple (AA (AB 5) AE)) AE))))))))))
theorem ET : AQ ["_law_pen_here", "_law_most", "_law_word", "_law_book_here", "_law_turn_here"] ["_law_pen_here", "_law_most", "_law_word"] (AI s_law_book_of) := ⟨rfl, rfl, rfl, by decide +kernel, rfl, by decide +kernel, by decide +kernel⟩
theorem K2 : Ab ["_law_pen_here", "_law_most", "_law_word", "_law_book_here", "_law_turn_here"] (AI s_law_book_of) ["_law_word", "_law_deed_here"] (ixC [2] 1) (IL s_law_book_of 0) := ⟨rfl, by decide +kernel, by decide +kernel, by decide +kernel, by decide +kernel⟩
theorem K6 : (["_law_word", "_law_deed_here"] : List Str).Nodup := by decide +kernel
theorem ED  (S : St.Src K mg "_law_book_of" s_law_book_of) (B : Bts mg) (FQ : NO P w K mg base) : JJ P w K mg base := by
 refine Af (k := 8) S ET rfl (fun f fd F => F.binds fun _ _ _ _ _ _ us hl => match us, hl with | [_, _, _], _ => rfl) fun f cdv A outer s H E hr => ?_
 have hu := AS hr
 exact (AG (Ap 3 (AH FQ (hr.mono (by decide)) rfl (AA (AB 0) (AA (AB 1) AE))) ET.nd)
    (AG (EG PassesOwn.never rfl (E5 rfl B.range (AA AF AE)) (Aj 4 ET.nd) (AG (B9 (Ao (GY hu) (B4 [2] 1 ["_law_word", "_law_deed_here"] rfl K2 (CG (AL AZ (AB 3) AF)) (fun s H fp => ⟨(Aj 1 K6), (Hj (Ao (Bt hu) (AL AZ (AB 1) AF) (AB 0))), (AB 1)⟩)) (B6 AE)) (AJ (AU (AB 3))) Ay)
    (AJ (Ap 3 (AH FQ (hr.mono (by decide)) rfl (AA (AB 0) (AA (AB 1) AE))) ET.nd))))
    (AJ (AU (AB 3)))))
theorem GC : AQ ["_law_book_here", "_law_words", "_law_deeds", "_law_deed_here"] ["_law_book_here", "_law_words"] (AI s_law_without) := ⟨rfl, rfl, rfl, by decide +kernel, rfl, by decide +kernel, by decide +kernel⟩
theorem D7  (S : St.Src K mg "_law_without" s_law_without) (B : Bts mg) : Jr P w K mg base := by
 refine Af (k := 0) S GC rfl (fun f fd F => F.binds fun _ _ _ _ _ _ us hl => match us, hl with | [_, _], _ => rfl) fun f cdv A outer s H E hr => ?_
 have hu := AS hr
 exact (AG (Ap 2 (B6 AE) GC.nd)
    (AG (EG PassesOwn.never rfl (CG (AL AZ (AB 0) AF)) (Aj 3 GC.nd) (AJ (B9 (Ao (Bt hu) (AL AZ (AB 3) AF) BL) (AJ (Br (HB PySem.F.slot_list_append PySem.F.type_list_append Fh (AB 2) (AA (Ah As (BJ (AA BL AE)) (Sv (AB 3) AF AF)) AE)))) (AJ (B9 (Ao L6 (AL AZ (AB 3) AF) (AB 1)) (AJ (Br (HB PySem.F.slot_list_append PySem.F.type_list_append Fh (AB 2) (AA (AB 3) AE)))) Ay)))))
    (AJ (AU (Ah As (HW (AB 0) AF) (BJ (AA (BE BG rfl B.tuple boot_tuple (AA (AB 2) AE)) AE)))))))
theorem ID : AQ ["_law_some", "_law_found", "_law_one"] ["_law_some"] (AI s_law_sum) := ⟨rfl, rfl, rfl, by decide +kernel, rfl, by decide +kernel, by decide +kernel⟩
theorem Hq  (S : St.Src K mg "_law_sum" s_law_sum) (BN : FP P w K mg base) : Pm P w K mg base := by
 refine Af (k := 3) S ID rfl (fun f fd F => F.binds fun _ _ _ _ _ _ us hl => match us, hl with | [_], _ => rfl) fun f cdv A outer s H E hr => ?_
 have hu := AS hr
 exact (AG (Ap 1 (BJ (AA AF (AA AF AE))) ID.nd)
    (AG (EG PassesOwn.never rfl (CG (AB 0)) (Aj 2 ID.nd) (AJ (Ap 1 (AH BN (hr.mono (by decide)) rfl (AA (AB 1) (AA (AB 2) AE))) ID.nd)))
    (AJ (AU (AB 1)))))
end
section
open PyProof.Rows (boot_isinstance boot_int boot_bool boot_tuple boot_str boot_list boot_abs boot_all boot_any boot_sum boot_max boot_min boot_range boot_enumerate boot_zip boot_sorted boot_set boot_divmod)
variable {P : Program} {w : World} {K : PySem.W.Frag} {mg : Str -> Option Value} {base : Heap}
theorem QB : AQ ["_law_rows"] ["_law_rows"] (AI s_law_sums) := ⟨rfl, rfl, rfl, by decide +kernel, rfl, by decide +kernel, by decide +kernel⟩
theorem Nz : Ab ["_law_rows"] (AI s_law_sums) ["_law_rows", "_law_at"] (ixC [0] 1) (IL s_law_sums 0) := ⟨rfl, by decide +kernel, by decide +kernel, by decide +kernel, by decide +kernel⟩
theorem N6 : (["_law_rows", "_law_at"] : List Str).Nodup := by decide +kernel
theorem Nu : Ab ["_law_rows", "_law_at"] (Yk (IL s_law_sums 0) (AI s_law_sums)) ["_law_at", "_law_row"] (ixC [1] 1) (IL s_law_sums 1) := ⟨rfl, by decide +kernel, by decide +kernel, by decide +kernel, by decide +kernel⟩
theorem N4 : (["_law_at", "_law_row"] : List Str).Nodup := by decide +kernel
theorem FK  (S : St.Src K mg "_law_sums" s_law_sums) (B : Bts mg) (Hq : Pm P w K mg base) : NG P w K mg base := by
 refine Af (k := 4) S QB rfl (fun f fd F => F.binds fun _ _ _ _ _ _ us hl => match us, hl with | [_], _ => rfl) fun f cdv A outer s H E hr => ?_
 have hu := AS hr
 exact (AJ (AU (B4 [0] 1 ["_law_rows", "_law_at"] rfl Nz (E5 rfl B.range (AA (A7 CM rfl B.len boot_len (AA (AL AZ (AB 0) AF) AE)) AE)) (fun s H fp => ⟨(Aj 1 N6), B3, (AH Hq (hr.mono (by decide)) rfl (AA (B4 [1] 1 ["_law_at", "_law_row"] rfl Nu (CG (AB 0)) (fun s H fp => ⟨(Aj 1 N4), B3, (AL AZ (AB 1) (AB 0))⟩)) AE))⟩))))
theorem OO : AQ ["_law_book_here", "_law_word"] ["_law_book_here", "_law_word"] (AI s_law_places) := ⟨rfl, rfl, rfl, by decide +kernel, rfl, by decide +kernel, by decide +kernel⟩
theorem MR : Ab ["_law_book_here", "_law_word"] (AI s_law_places) ["_law_word", "_law_at", "_law_deed_here"] (ixC [1] 2) (IL s_law_places 0) := ⟨rfl, by decide +kernel, by decide +kernel, by decide +kernel, by decide +kernel⟩
theorem Hr : (["_law_word", "_law_at", "_law_deed_here"] : List Str).Nodup := by decide +kernel
theorem EZ  (S : St.Src K mg "_law_places" s_law_places) (B : Bts mg) : Kf P w K mg base := by
 refine Af (k := 0) S OO rfl (fun f fd F => F.binds fun _ _ _ _ _ _ us hl => match us, hl with | [_, _], _ => rfl) fun f cdv A outer s H E hr => ?_
 have hu := AS hr
 exact (AJ (AU (B4 [1] 2 ["_law_word", "_law_at", "_law_deed_here"] rfl MR (Sx rfl B.enumerate (AL AZ (AB 0) AF)) (fun s H fp => ⟨(EF rfl (AO (Aj 1 Hr) (AO (Aj 2 Hr) Bf))), (Hj (Ao (Bt hu) (AL AZ (AB 2) AF) (AB 0))), (AB 1)⟩))))
theorem DU : AQ ["_law_script", "_law_k", "_law_pen_here", "_law_book_here", "_law_plain", "_law_everybody", "_law_one", "_law_stock", "_law_more", "_law_partner", "_law_due", "_law_at"] ["_law_script"] (AI s_p_law) := ⟨rfl, rfl, rfl, by decide +kernel, rfl, by decide +kernel, by decide +kernel⟩
theorem Rv : Ab ["_law_script", "_law_k", "_law_pen_here", "_law_book_here", "_law_plain", "_law_everybody", "_law_one", "_law_stock", "_law_more", "_law_partner", "_law_due", "_law_at"] (AI s_p_law) ["_law_pieces_here"] (ixC [] 1) (IL s_p_law 0) := ⟨rfl, by decide +kernel, by decide +kernel, by decide +kernel, by decide +kernel⟩
theorem Rj : (["_law_pieces_here"] : List Str).Nodup := by decide +kernel
theorem RU : Ab ["_law_script", "_law_k", "_law_pen_here", "_law_book_here", "_law_plain", "_law_everybody", "_law_one", "_law_stock", "_law_more", "_law_partner", "_law_due", "_law_at"] (AI s_p_law) ["_law_one", "_law_partner"] (ixC [6] 1) (IL s_p_law 1) := ⟨rfl, by decide +kernel, by decide +kernel, by decide +kernel, by decide +kernel⟩
theorem R7 : (["_law_one", "_law_partner"] : List Str).Nodup := by decide +kernel
theorem R5 : Ab ["_law_script", "_law_k", "_law_pen_here", "_law_book_here", "_law_plain", "_law_everybody", "_law_one", "_law_stock", "_law_more", "_law_partner", "_law_due", "_law_at"] (AI s_p_law) ["_law_one", "_law_partner"] (ixC [6] 1) (IL s_p_law 2) := ⟨rfl, by decide +kernel, by decide +kernel, by decide +kernel, by decide +kernel⟩
theorem RX : (["_law_one", "_law_partner"] : List Str).Nodup := by decide +kernel
end
theorem nr {α : Sort _} {a b : α} (h : a = b) : a = b := h
@[simp high] theorem DM {α β : Type} (a : α) (f : α -> Option β) : (some a).bind f = f a := Eq.mp (congrArg (fun z => z = f a) rfl) (Eq.refl (f a))
@[simp high] theorem eg {α β : Type} (a : α) (f : α -> β) : (some a).map f = some (f a) := Eq.mp (congrArg (fun z => z = some (f a)) rfl) (Eq.refl (some (f a)))
section
variable {E : En} {S : Sto} {op : OpN} {f g c : Ev} {d : D} {i : Nat} {w : Wv} {a b e h r' : D} {r : List D} {fs : List Ev}
@[simp] theorem iZ {o : Option D} {E : En} : at? (o :: E) 0 = o := nr rfl
@[simp] theorem ia {o : Option D} {E : En} {i : Nat} : at? (o :: E) (i + 1) = at? E i := nr rfl
@[simp] theorem gM : eC d E S = some (d, S) := nr rfl
@[simp] theorem fw : eV i E S = (at? E i).map fun d => (d, S) := nr rfl
@[simp] theorem Yp : evs [] E S = some ([], S) := nr rfl
@[simp] theorem JL : evs (f :: fs) E S = (f E S).bind fun r => (evs fs E r.2).map fun q => (r.1 :: q.1, q.2) := nr rfl
@[simp] theorem eK {cf : Bool} : QQ cf op fs E S = (evs fs E S).bind fun r => (op (r.1.map (dr r.2))).bind fun w => fin cf w r.2 := nr rfl
@[simp] theorem gy {cf : Bool} : fin cf (.val d) S = some (d, S) := by cases cf <;> rfl
@[simp] theorem gd : fin false (.own r) S = some (.lst r, S) := nr rfl
@[simp] theorem gf : fin true (.own r) S = some (.ref S.length, S ++ [.lst r]) := nr rfl
@[simp] theorem fU : dr S .non = .val .non := nr rfl
@[simp] theorem gj {b : Bool} : dr S (.bl b) = .val (.bl b) := nr rfl
@[simp] theorem fS {i : Int} : dr S (.int i) = .val (.int i) := nr rfl
@[simp] theorem fc {x : Str} : dr S (.str x) = .val (.str x) := nr rfl
@[simp] theorem gm {x : String} : dr S (.ty x) = .val (.ty x) := nr rfl
@[simp] theorem f9 : dr S (.tup r) = .val (.tup r) := nr rfl
@[simp] theorem gL : dr S (.lst r) = .val (.lst r) := nr rfl
@[simp] theorem fv {ns : List Int} : dr S (.scr ns) = .val (.scr ns) := nr rfl
theorem BH {n : Nat} (h : S[n]? = some (.lst r)) : dr S (.ref n) = .own r := by
 show (match S[n]? with | some (.lst ds) => Wv.own ds | _ => .val (.ref n)) = _
 rw [h]
theorem Aa {n : Nat} (h : S[n]? = some (.lst r)) : Eu S n = some r := by
 unfold Eu
 rw [h]
@[simp] theorem gB {f : Op1} : o1 f [w] = f w := nr rfl
@[simp] theorem gE {f : Op2} {w' : Wv} : o2 f [w, w'] = f w w' := nr rfl
@[simp] theorem Xk : fz (.val d) = d := nr rfl
def eF (g : Ev) (E : En) (r : D × Sto) : Option (D × Sto) := match r.1 with | .bl true => g E r.2 | .bl false => some (.bl false, r.2) | _ => none
def orK (g : Ev) (E : En) (r : D × Sto) : Option (D × Sto) := match r.1 with | .bl false => g E r.2 | .bl true => some (.bl true, r.2) | _ => none
def fm (r : D × Sto) : Option (D × Sto) := match r.1 with | .bl b => some (.bl (!b), r.2) | _ => none
def ifK (f g : Ev) (E : En) (r : D × Sto) : Option (D × Sto) := match r.1 with | .bl true => f E r.2 | .bl false => g E r.2 | _ => none
@[simp] theorem gF : eF g E (.bl true, S) = g E S := nr rfl
@[simp] theorem gP : eF g E (.bl false, S) = some (.bl false, S) := nr rfl
@[simp] theorem iS : orK g E (.bl false, S) = g E S := nr rfl
@[simp] theorem iK : orK g E (.bl true, S) = some (.bl true, S) := nr rfl
@[simp] theorem gG {b : Bool} : fm (.bl b, S) = some (.bl (!b), S) := nr rfl
@[simp] theorem iE : ifK f g E (.bl true, S) = f E S := nr rfl
@[simp] theorem gU : ifK f g E (.bl false, S) = g E S := nr rfl
@[simp] theorem cP : LG f g E S = (f E S).bind (eF g E) := nr rfl
@[simp] theorem Pw : eOr f g E S = (f E S).bind (orK g E) := nr rfl
@[simp] theorem bP : WR f E S = (f E S).bind fm := nr rfl
@[simp] theorem dU : eIf c f g E S = (c E S).bind (ifK f g E) := nr rfl
@[simp] theorem b9 : DF fs E S = (evs fs E S).bind fun r => if r.1.length ≤ sizeLine then some (.tup r.1, r.2) else none := nr rfl
@[simp] theorem cU {cf : Bool} : VF cf fs E S = (evs fs E S).bind fun r => if r.1.length ≤ sizeLine then fin cf (.own r.1) r.2 else none := nr rfl
@[simp] theorem Zd {F : Fn} : AK F fs E S = (evs fs E S).bind fun r => F r.1 r.2 := nr rfl
def fX (op : Mo) (fs : List Ev) (E : En) (r : D × Sto) : Option (D × Sto) := match r.1 with
 | .ref n => (Eu r.2 n).bind fun _ => (evs fs E r.2).bind fun p => (Eu p.2 n).bind fun ds => (op p.2 ds p.1).map fun q => (q.1, p.2.set n (.lst q.2))
 | _ => none
@[simp] theorem cv {op : Mo} {n : Nat} : fX op fs E (.ref n, S) = (Eu S n).bind fun _ => (evs fs E S).bind fun p => (Eu p.2 n).bind fun ds => (op p.2 ds p.1).map fun q => (q.1, p.2.set n (.lst q.2)) := nr rfl
@[simp] theorem cV {op : Mo} : LJ op f fs E S = (f E S).bind (fX op fs E) := nr rfl
@[simp] theorem cT : Lb S r [d] = if r.length < sizeLine then some (.non, r ++ [d]) else none := nr rfl
variable {x y : Ex}
def ZR (y : Ex) (r : Fl × En × Sto) : Option (Fl × En × Sto) := match r.1 with | .nx => y r.2.1 r.2.2 | .ret w => some (.ret w, r.2)
def ek (x y : Ex) (E : En) (r : D × Sto) : Option (Fl × En × Sto) := match r.1 with | .bl true => x E r.2 | .bl false => y E r.2 | _ => none
@[simp] theorem QR : ZR y (.nx, E, S) = y E S := nr rfl
@[simp] theorem cC {w : D} : ZR y (.ret w, E, S) = some (.ret w, E, S) := nr rfl
@[simp] theorem fk : ek x y E (.bl true, S) = x E S := nr rfl
@[simp] theorem gA : ek x y E (.bl false, S) = y E S := nr rfl
@[simp] theorem cZ : Am x y E S = (x E S).bind (ZR y) := nr rfl
@[simp] theorem ba : EB E S = some (.nx, E, S) := nr rfl
@[simp] theorem P6 : xIf c x y E S = (c E S).bind (ek x y E) := nr rfl
@[simp] theorem bu : BV f E S = (f E S).map fun r => (.ret r.1, E, r.2) := nr rfl
@[simp] theorem cb : Bs i f E S = (f E S).map fun r => (.nx, E.set i (some r.1), r.2) := nr rfl
@[simp] theorem Zf : Cp f E S = (f E S).map fun r => (.nx, E, r.2) := nr rfl
def gN (d b : D) (E : En) (i : D × Sto) : Option (Fl × En × Sto) := match b, i.1 with
 | .ref n, .int j => (Eu i.2 n).bind fun ds => (ixN ds.length j).map fun m => (.nx, E, i.2.set n (.lst (ds.set m d)))
 | _, _ => none
@[simp] theorem cI {n : Nat} {j : Int} : gN d (.ref n) E (.int j, S) = (Eu S n).bind fun ds => (ixN ds.length j).map fun m => (.nx, E, S.set n (.lst (ds.set m d))) := nr rfl
@[simp] theorem bQ {k o : Ev} : MW k f o E S = (k E S).bind fun r => (f E r.2).bind fun b => (o E b.2).bind (gN r.1 b.1 E) := nr rfl
@[simp] theorem cA {t : Tf} : NB t f E S = (f E S).bind fun r => (t r.1 E r.2).map fun E' => (.nx, E', r.2) := nr rfl
@[simp] theorem cw {i j : Nat} : SA i j f g E S = (f E S).bind fun r => (g E r.2).map fun q => (.nx, (E.set i (some r.1)).set j (some q.1), q.2) := by
  unfold SA
  rw [JL]
  cases f E S with
  | none => rfl
  | some r =>
    rw [DM, DM, JL]
    cases g E r.2 with
    | none => rfl
    | some q => rfl
@[simp] theorem QH : tNm i d E S = some (E.set i (some d)) := nr rfl
@[simp] theorem dA {ts : List Tf} {ds : List D} : tTp ts (.tup ds) E S = tMs ts ds E S := nr rfl
@[simp] theorem eR {ts : List Tf} {ds : List D} : tTp ts (.lst ds) E S = tMs ts ds E S := nr rfl
@[simp] theorem fL {ts : List Tf} {n : Nat} : tTp ts (.ref n) E S = (Eu S n).bind fun ds => tMs ts ds E S := nr rfl
@[simp] theorem di : tMs [] [] E S = some E := nr rfl
@[simp] theorem bw {t : Tf} {ts : List Tf} {ds : List D} : tMs (t :: ts) (d :: ds) E S = (t d E S).bind fun E1 => tMs ts ds E1 S := nr rfl
@[simp] theorem Z8 {N : Nat} {ds : List D} : Az (A3 N x) ds S = (x (ds.map some ++ List.replicate (N - ds.length) none) S).map fun r => (flD r.1, r.2.2) := by rw [TM]; rfl
@[simp] theorem fe : flD .nx = .non := nr rfl
@[simp] theorem dB : flD (.ret d) = d := nr rfl
@[simp] theorem fD {i j : Int} : Dq (.val (.int i)) (.val (.int j)) = some (.val (.int (i + j))) := nr rfl
@[simp] theorem dG {xs ys : List D} : Dq (.val (.tup xs)) (.val (.tup ys)) = if xs.length + ys.length ≤ sizeLine then some (.val (.tup (xs ++ ys))) else none := nr rfl
@[simp] theorem dy {xs ys : List D} : Dq (.val (.lst xs)) (.val (.lst ys)) = if xs.length + ys.length ≤ sizeLine then some (.own (xs ++ ys)) else none := nr rfl
@[simp] theorem bX {i j : Int} : B8 (.val (.int i)) (.val (.int j)) = if Dp i j = true then some (.val (.int (i * j))) else none := nr rfl
@[simp] theorem Qc {k : Int} : B8 (.val (.tup r)) (.val (.int k)) = if (!r.isEmpty && decide (k ≤ 0) && decide (-(2 ^ 63) ≤ k)) = true then some (.val (.tup [])) else if (!r.isEmpty && decide (1 ≤ k) && decide (r.length * k.toNat ≤ sizeLine)) = true then some (.val (.tup (List.replicate k.toNat r).flatten)) else none := nr rfl
@[simp] theorem LB {k : Int} : B8 (.val (.lst r)) (.val (.int k)) = if (decide (k < 2 ^ 63) && decide (-(2 ^ 63) ≤ k) && decide (r.length * k.toNat ≤ sizeLine)) = true then some (.own (List.replicate k.toNat r).flatten) else none := nr rfl
@[simp] theorem eG : asS (.own r) = some r := nr rfl
@[simp] theorem fG : asS (.val (.lst r)) = some r := nr rfl
@[simp] theorem eQ : asS (.val (.tup r)) = some r := nr rfl
@[simp] theorem fR {ns : List Int} : asS (.val (.scr ns)) = some (ns.map .int) := nr rfl
@[simp] theorem Sk {j : Int} : wIx w (.val (.int j)) = (asS w).bind fun ds => (atI ds j).map .val := nr rfl
theorem CV {α : Type} {xs : List α} {n : Nat} {x : α} (h : xs[n]? = some x) : atI xs (n : Int) = some x := Xx h
theorem XW {α : Type} {xs : List α} {i : Int} (h0 : 0 ≤ i) (h1 : i < xs.length) : atI xs i = some (xs[i.toNat]'(by omega)) := by
 have : atI xs ((i.toNat : Nat) : Int) = some (xs[i.toNat]'(by omega)) := CV (List.getElem?_eq_getElem (by omega))
 rwa [Int.toNat_of_nonneg h0] at this
@[simp] theorem iT : atI (a :: r) 0 = some a := CV (n := 0) rfl
@[simp] theorem gk : atI (a :: b :: r) 1 = some b := CV (n := 1) rfl
@[simp] theorem iB : atI (a :: b :: e :: r) 2 = some e := CV (n := 2) rfl
@[simp] theorem gq : atI (a :: b :: e :: h :: r) 3 = some h := CV (n := 3) rfl
@[simp] theorem hV {k : D} : atI (a :: b :: e :: h :: k :: r) 4 = some k := CV (n := 4) rfl
theorem L5 {n k : Nat} (h : k < n) : ixN n (k : Int) = some k := by
 unfold ixN
 simp
 omega
theorem Q5 {n : Nat} {i : Int} (h0 : 0 ≤ i) (h1 : i < n) : ixN n i = some i.toNat := by
 have := L5 (n := n) (k := i.toNat) (by omega)
 rwa [Int.toNat_of_nonneg h0] at this
@[simp] theorem gz {n : Nat} : ixN (n + 1) 0 = some 0 := Q5 (by decide) (by omega)
@[simp] theorem gw {n : Nat} : ixN (n + 2) 1 = some 1 := Q5 (by decide) (by omega)
@[simp] theorem iO {n : Nat} : ixN (n + 3) 2 = some 2 := Q5 (by decide) (by omega)
@[simp] theorem fV {i j : Int} : deq (.int i) (.int j) = (i == j) := nr rfl
@[simp] theorem fA {i j : Int} : Dd (.int i) (.int j) = true := nr rfl
@[simp] theorem dY {w' : Wv} : wEq w w' = if Dd (fz w) (fz w') = true then some (.val (.bl (deq (fz w) (fz w')))) else none := nr rfl
@[simp] theorem QG {w' : Wv} : wNe w w' = if Dd (fz w) (fz w') = true then some (.val (.bl (!deq (fz w) (fz w')))) else none := nr rfl
@[simp] theorem dO {i j : Int} : wLt (.val (.int i)) (.val (.int j)) = some (.val (.bl (decide (i < j)))) := nr rfl
@[simp] theorem fM {i j : Int} : wLe (.val (.int i)) (.val (.int j)) = some (.val (.bl (decide (i ≤ j)))) := nr rfl
@[simp] theorem eS {i j : Int} : wGt (.val (.int i)) (.val (.int j)) = some (.val (.bl (decide (j < i)))) := nr rfl
@[simp] theorem dZ {i j : Int} : wGe (.val (.int i)) (.val (.int j)) = some (.val (.bl (decide (j ≤ i)))) := nr rfl
@[simp] theorem cF {i j : Int} : QI (.val (.int i)) (.val (.int j)) = some (.val (.int (i - j))) := nr rfl
@[simp] theorem cD {i : Int} : Xu (.val (.int i)) = some (.val (.int (-i))) := nr rfl
@[simp] theorem cj {i j : Int} : Pt (.val (.int i)) (.val (.int j)) = (if 0 < j then some (.val (.int (i % j))) else none) := by
 show Option.map Wv.val (if 0 < j then some (D.int (i % j)) else none) = _
 split <;> rfl
@[simp] theorem ay {i j : Int} : Nq (.val (.int i)) (.val (.int j)) = (if (decide (0 < j) && decide (j.natAbs < F6)) = true then some (.val (.int (i / j))) else none) := by
 show Option.map Wv.val (if (decide (0 < j) && decide (j.natAbs < F6)) = true then some (D.int (i / j)) else none) = _
 split <;> rfl
@[simp] theorem bp {i j : Int} : cM (.val (.int i)) (.val (.int j)) = if (decide (0 ≤ j) && decide (j ≤ 1000) && decide (i.natAbs < 2 ^ 64)) = true then some (.val (.int (i ^ j.toNat))) else none := by
 show Option.map Wv.val (if (decide (0 ≤ j) && decide (j ≤ 1000) && decide (i.natAbs < 2 ^ 64)) = true then some (D.int (i ^ j.toNat)) else none) = _
 split <;> rfl
@[simp] theorem cK {i : Int} : ZI (.val (.int i)) = some (.val (.int (i.natAbs : Int))) := by
 show some (Wv.val (D.int (if i < 0 then -i else i))) = _
 congr 3
 split <;> omega
@[simp] theorem VL : Jm (.val (.lst r)) = some (.val (.int r.length)) := nr rfl
@[simp] theorem cH : Jm (.val (.tup r)) = some (.val (.int r.length)) := nr rfl
@[simp] theorem bx {ns : List Int} : Jm (.val (.scr ns)) = some (.val (.int ns.length)) := by
 show some (Wv.val (D.int ((ns.map D.int).length : Nat))) = _
 rw [List.length_map]
@[simp] theorem ZN : Dm w = (asS w).map fun ds => .val (.tup ds) := nr rfl
@[simp] theorem ao : Pl w = (asS w).map fun ds => .own ds := nr rfl
@[simp] theorem gQ {b : Bool} : Ye (.val (.bl b)) = some (.val (.int (if b then 1 else 0))) := nr rfl
@[simp] theorem cx {i j : Int} : bh (.val (.int i)) (.val (.int j)) = some (.val (.int (if j > i then j else i))) := nr rfl
@[simp] theorem bL {i j : Int} : ZM (.val (.int i)) (.val (.int j)) = some (.val (.int (if j < i then j else i))) := nr rfl
@[simp] theorem bc {T : String} : aO w (.val (.ty T)) = if R8 T = true then (kdW w).map fun k => .val (.bl (k.isA T)) else none := nr rfl
@[simp] theorem fO : R8 "int" = true := by decide
@[simp] theorem bM : R8 "bool" = true := by decide
theorem AX {n : Nat} (h : n ≤ 1000) : n ≤ sizeLine := Nat.le_trans h (by decide)
@[simp] theorem sz1 : (1 : Nat) ≤ sizeLine := AX (by decide)
@[simp] theorem sz2 : (2 : Nat) ≤ sizeLine := AX (by decide)
@[simp] theorem sz3 : (3 : Nat) ≤ sizeLine := AX (by decide)
@[simp] theorem sz4 : (4 : Nat) ≤ sizeLine := AX (by decide)
@[simp] theorem sz5 : (5 : Nat) ≤ sizeLine := AX (by decide)
@[simp] theorem sz6 : (6 : Nat) ≤ sizeLine := AX (by decide)
@[simp] theorem GS : Bx E S = some (.bl true, S) := nr rfl
@[simp] theorem bW {s : Sr} {t : Tf} {b : Ex} : KG s t b E S = (s E S).bind fun r => K4 r.1.2 t b r.1.1 E r.2 := nr rfl
@[simp] theorem Al : gOk [] S := fun _ h => (nomatch h)
theorem IJ {gs : Gd} {t : Tf} {b : Ex} (h : gOk gs S) : K4 gs t b [] E S = some (.nx, E, S) := by
 unfold K4
 rw [if_pos h]
theorem Td {gs : Gd} {t : Tf} {b : Ex} {ds : List D} (h : gOk gs S) : K4 gs t b (d :: ds) E S = (t d E S).bind fun E1 => (b E1 S).bind fun r => match r.1 with
  | .nx => K4 gs t b ds r.2.1 r.2.2
  | .ret w => some (.ret w, r.2) := by
 rw [K4, if_pos h]
 all_goals rfl
theorem C7 {gs : Gd} {t : Tf} {b : Ex} {ds : List D} (h : gOk gs S) : K4 gs t b (d :: ds) E S = (t d E S).bind fun E1 => (b E1 S).bind (ZR (K4 gs t b ds)) := by
 rw [Td h]
 rfl
@[simp] theorem bO : FT f E S = (f E S).bind fun r => (sqD r.2 r.1).map fun p => (p, r.2) := nr rfl
@[simp] theorem dm : sqD S (.tup r) = some (r, []) := nr rfl
@[simp] theorem dc : sqD S (.lst r) = some (r, []) := nr rfl
theorem Gw {n : Nat} (h : S[n]? = some (.lst r)) : sqD S (.ref n) = some (r, [(n, r)]) := by
 show (Eu S n).map (fun ds => (ds, [(n, ds)])) = _
 rw [Aa h]
 rfl
@[simp] theorem bV : ZH f E S = (f E S).bind fun r => (sqD r.2 r.1).map fun p => ((QE 0 p.1, p.2), r.2) := nr rfl
@[simp] theorem cg : Xq f g E S = (f E S).bind fun r => (g E r.2).bind fun q => (sqD q.2 r.1).bind fun a => (sqD q.2 q.1).map fun b => ((MY a.1 b.1, a.2 ++ b.2), q.2) := by
  unfold Xq
  rw [JL]
  cases f E S with
  | none => rfl
  | some r =>
    rw [DM, DM, JL]
    cases g E r.2 with
    | none => rfl
    | some q => rfl
def IW (j : Int) : Bool := decide (-(2 ^ 62) ≤ j) && decide (j < 2 ^ 62)
theorem DR {j : Int} (h : -1000000 ≤ j) (g : j ≤ 1000000) : IW j = true := by
 unfold IW
 rw [Bool.and_eq_true]
 exact ⟨decide_eq_true (by omega), decide_eq_true (by omega)⟩
def gH (S : Sto) : D -> Option ((List D × Gd) × Sto)
 | .int j => if IW j = true then some ((GA 0 j.toNat, []), S) else none
 | _ => none
@[simp] theorem cQ {j : Int} : gH S (.int j) = if IW j = true then some ((GA 0 j.toNat, []), S) else none := nr rfl
@[simp] theorem bS : OZ [f] E S = (f E S).bind fun r => gH r.2 r.1 := by
  unfold OZ
  rw [JL]
  cases f E S with
  | none => rfl
  | some r =>
    obtain ⟨d, S1⟩ := r
    rw [DM, Yp, eg, DM, DM]
    cases d <;> rfl
@[simp] theorem aH {cf : Bool} {cap : List Nat} {m : Nat} {s : Sr} {t : Tf} : ND cf cap m s t c f E S = (s E S).bind fun r => (CJ r.1.2 t c f r.1.1 [] (Pr cap m E) r.2).bind fun q => fin cf (.own q.1) q.2 := nr rfl
@[simp] theorem ck {cap : List Nat} {m : Nat} : Pr cap m E = cap.map (at? E) ++ List.replicate m none := nr rfl
@[simp] theorem Rm {i : Int} : K1 (.int i :: r) = (K1 r).map fun ns => i :: ns := by
 unfold K1
 rw [List.mapM_cons]
 show (do let r1 ← some i; let rs ← List.mapM intD r; pure (r1 :: rs)) = _
 cases List.mapM intD r <;> rfl
theorem FY : ∀ (ns : List Int), K1 (ns.map D.int) = some ns
 | [] => rfl
 | n :: ns => by rw [List.map_cons, Rm, FY ns]; rfl
@[simp] theorem bY : TR (.own r) = (K1 r).map fun ns => .val (.int ns.sum) := nr rfl
@[simp] theorem br : TR (.val (.lst r)) = (K1 r).map fun ns => .val (.int ns.sum) := nr rfl
@[simp] theorem fT : bZ true w (.val .non) = some (.val (.bl (!isN w))) := nr rfl
@[simp] theorem gh {i : Int} {w : Wv} : Ju true false [w, .val (.int i)] = wSl (some i) none w := nr rfl
@[simp] theorem gY {i : Int} {w : Wv} : Ju false true [w, .val (.int i)] = wSl none (some i) w := nr rfl
@[simp] theorem gZ {i j : Int} {w : Wv} : Ju true true [w, .val (.int i), .val (.int j)] = wSl (some i) (some j) w := nr rfl
@[simp] theorem eE {lo hi : Option Int} : wSl lo hi (.val (.tup r)) = some (.val (.tup (Jv r lo hi))) := nr rfl
@[simp] theorem eL {lo hi : Option Int} : wSl lo hi (.val (.lst r)) = some (.own (Jv r lo hi)) := nr rfl
end
structure Ci (A : List Nat) (S S' : Sto) : Prop where
 len : S.length ≤ S'.length
 keep : ∀ n, n < S.length -> n ∉ A -> S'[n]? = S[n]?
theorem Ci.refl {A : List Nat} {S : Sto} : Ci A S S := ⟨Nat.le_refl _, fun _ _ _ => rfl⟩
theorem Ci.trans {A : List Nat} {S S' S2 : Sto} (h : Ci A S S') (g : Ci A S' S2) : Ci A S S2 := ⟨Nat.le_trans h.len g.len, fun n hn ha => (g.keep n (Nat.lt_of_lt_of_le hn h.len) ha).trans (h.keep n hn ha)⟩
theorem Ci.mono {A B : List Nat} {S S' : Sto} (h : Ci A S S') (s : ∀ n ∈ A, n ∈ B) : Ci B S S' := ⟨h.len, fun n hn hb => h.keep n hn fun z => hb (s n z)⟩
theorem Ci.get {A : List Nat} {S S' : Sto} (h : Ci A S S') {n : Nat} {c : Cl} (e : S[n]? = some c) (ha : n ∉ A) : S'[n]? = some c := by
 rw [h.keep n (List.getElem?_eq_some_iff.mp e).1 ha]; exact e
theorem Ci.app {A : List Nat} {S T : Sto} : Ci A S (S ++ T) := ⟨by simp, fun n hn _ => List.getElem?_append_left hn⟩
theorem Ci.set {A : List Nat} {S : Sto} {n : Nat} {c : Cl} (h : n ∈ A) : Ci A S (S.set n c) := ⟨by simp, fun m hm ha => List.getElem?_set_ne (fun z => ha (by rw [← z]; exact h))⟩
theorem Ci.new {A : List Nat} {S S' S2 : Sto} (h : Ci A S S') (g : Ci (A ++ B) S' S2) (hb : ∀ n ∈ B, S.length ≤ n) : Ci A S S2 := ⟨Nat.le_trans h.len g.len, fun n hn ha => (g.keep n (Nat.lt_of_lt_of_le hn h.len) (fun z => by
 rcases List.mem_append.mp z with z | z
 ·exact ha z
 ·have := hb n z; omega)).trans (h.keep n hn ha)⟩
theorem Aw {S : Sto} {n : Nat} {c : Cl} (h : S[n]? = some c) : n < S.length := (List.getElem?_eq_some_iff.mp h).1
section
theorem mulL {i j : Int} (h : -18446744073709551616 < i) (g : i < 18446744073709551616) : Dp i j = true := by
 unfold Dp
 rw [Bool.or_eq_true]
 exact .inl (decide_eq_true (by omega))
theorem mulR {i j : Int} (h : -18446744073709551616 < j) (g : j < 18446744073709551616) : Dp i j = true := by
 unfold Dp
 rw [Bool.or_eq_true, Bool.or_eq_true]
 exact .inr (.inl (decide_eq_true (by omega)))
theorem DL {n k : Nat} (h : n < 2 ^ k) (hk : k ≤ 8000) : n < F6 := Nat.lt_of_lt_of_le h (Nat.pow_le_pow_right (by decide) hk)
theorem EW {n : Int} (h0 : 0 < n) (h1 : n < 1152921504606846976) : n.natAbs < F6 := DL (k := 60) (show n.natAbs < 2 ^ 60 by omega) (by decide)
variable {S : Sto}
def Pq (a b : Int) : Int := ((Nat.gcd a.natAbs b.natAbs : Nat) : Int)
theorem Lw {c : Ev} {b : Ex} {k : Nat} {E : En} : HN c b (k + 1) E S = (c E S).bind fun r => match r.1 with
    | .bl true => (b E r.2).bind fun p => match p.1 with
      | .nx => HN c b k p.2.1 p.2.2
      | .ret w => some (.ret w, p.2)
    | .bl false => some (.nx, E, r.2)
    | _ => none := rfl
theorem RJ {c : Ev} {b : Ex} {k : Nat} {E E2 : En} {S1 S2 : Sto} (e1 : c E S = some (.bl true, S1)) (e2 : b E S1 = some (.nx, E2, S2)) : HN c b (k + 1) E S = HN c b k E2 S2 := by
 rw [Lw, e1]
 show (b E S1).bind _ = _
 rw [e2]
 rfl
theorem Ql {c : Ev} {b : Ex} {k : Nat} {E : En} {S1 : Sto} (e1 : c E S = some (.bl false, S1)) : HN c b (k + 1) E S = some (.nx, E, S1) := by
 rw [Lw, e1]
 rfl
theorem Qi : ∀ (k : Nat) (x y : Nat), y < k -> HN (eOp (o2 wNe) [(eV 1), (eC (.int 0))]) (SA 0 1 (eV 1) (eOp (o2 Pt) [(eV 0), (eV 1)])) k [some (.int x), some (.int y)] S = some (.nx, [some (.int (Nat.gcd x y : Nat)), some (.int 0)], S)
  | 0, x, y, h => absurd h (Nat.not_lt_zero _)
  | k + 1, x, y, h => by
    by_cases hy : y = 0
    · subst hy
      rw [Ql (S1 := S) (by simp)]
      simp
    · have hy2 : (((y : Nat) : Int) == 0) = false := by simpa using hy
      have ih := Qi k y (x % y) (by have := Nat.mod_lt x (Nat.pos_of_ne_zero hy); omega)
      rw [show ((x % y : Nat) : Int) = (x : Int) % (y : Int) by omega] at ih
      have hy4 : 0 < y := Nat.pos_of_ne_zero hy
      rw [RJ (S1 := S) (S2 := S) (E2 := [some (.int y), some (.int ((x : Int) % (y : Int)))]) (by simp [hy2]) (by simp [hy4]), ih]
      rw [Nat.gcd_comm x y, Nat.gcd_rec y x, Nat.gcd_comm]
theorem Zg (a b : Int) : CP [.int a, .int b] S = some (.int (Pq a b), S) := by
 have := Qi (S := S) (b.natAbs + 2) a.natAbs b.natAbs (by omega)
 simp [CP, FA, Oi, Rz, this, Pq]
theorem MB : ∀ (k : Nat) (x y : Nat), y < k -> HN (eOp (o2 wGt) [(eV 1), (eC (.int 0))]) (SA 0 1 (eV 1) (eOp (o2 Pt) [(eV 0), (eV 1)])) k [some (.int x), some (.int y)] S = some (.nx, [some (.int (Nat.gcd x y : Nat)), some (.int 0)], S)
  | 0, x, y, h => absurd h (Nat.not_lt_zero _)
  | k + 1, x, y, h => by
    by_cases hy : y = 0
    · subst hy
      rw [Ql (S1 := S) (by simp)]
      simp
    · have ih := MB k y (x % y) (by have := Nat.mod_lt x (Nat.pos_of_ne_zero hy); omega)
      rw [show ((x % y : Nat) : Int) = (x : Int) % (y : Int) by omega] at ih
      have hy4 : 0 < y := Nat.pos_of_ne_zero hy
      rw [RJ (S1 := S) (S2 := S) (E2 := [some (.int y), some (.int ((x : Int) % (y : Int)))]) (by simp [hy4]) (by simp [hy4]), ih]
      rw [Nat.gcd_comm x y, Nat.gcd_rec y x, Nat.gcd_comm]
theorem SF (a b : Int) (ha : 0 ≤ a) (hb : 0 ≤ b) : Fv [.int a, .int b] S = some (.int (Pq a b), S) := by
 have := MB (S := S) (b.natAbs + 2) a.natAbs b.natAbs (by omega)
 have e1 : ((a.natAbs : Nat) : Int) = a := by omega
 have e2 : ((b.natAbs : Nat) : Int) = b := by omega
 rw [e1, e2] at this
 simp [Fv, Kl, Oi, Rz, this, Pq]
def lowP (t b : Int) : Int × Int := (t / Pq t b, b / Pq t b)
theorem Qo {t b : Int} (h : 0 < b) : 0 < Pq t b := by
 unfold Pq
 have : 0 < Nat.gcd t.natAbs b.natAbs := Nat.gcd_pos_of_pos_right _ (by omega)
 omega
theorem SU {t b : Int} (h : 0 < b) : (Pq t b).natAbs ≤ b.natAbs := by
 unfold Pq
 have : Nat.gcd t.natAbs b.natAbs ≤ b.natAbs := Nat.gcd_le_right _ (by omega)
 omega
def amD (p : Int × Int) : D := .tup [.int p.1, .int p.2]
theorem Jn {t b : Int} (h : 0 < b) (hb : b.natAbs < F6) : C4 [.int t, .int b] S = some (amD (lowP t b), S) := by
 have h1 := Qo (t := t) h
 have h2 : (Pq t b).natAbs < F6 := Nat.lt_of_le_of_lt (SU h) hb
 simp [C4, NI, Zg, h1, h2, amD, lowP]
theorem VZ {t b : Int} : Pq (t.natAbs : Int) b = Pq t b := by
 unfold Pq
 rw [Int.natAbs_natCast]
theorem QN {t b : Int} (h : 0 < b) (hb : b.natAbs < F6) : B2 [.int t, .int b] S = some (amD (lowP t b), S) := by
 have h1 := Qo (t := t) h
 have h2 : (Pq t b).natAbs < F6 := Nat.lt_of_le_of_lt (SU h) hb
 have h3 := SF (S := S) (t.natAbs : Int) b (by omega) (by omega)
 rw [VZ] at h3
 simp [B2, M9, h3, h1, h2, amD, lowP]
def aD (q : Rat) : D := .tup [.int q.num, .int q.den]
def Sz (k : Nat) (q : Rat) : Prop := q.num.natAbs < 2 ^ k /\ q.den < 2 ^ k
theorem D9 (q : Rat) : (q.num : Rat) / (q.den : Rat) = q := by
 rw [← Rat.mkRat_eq_div, Rat.mkRat_self]
theorem Ij (q : Rat) : (q.den : Rat) ≠ 0 := by
 have := q.den_nz
 exact_mod_cast this
theorem La (t : Int) (n : Nat) (h : 0 < n) : ((t : Rat) / (n : Rat)).num = t / (Nat.gcd t.natAbs n : Nat) /\ ((t : Rat) / (n : Rat)).den = n / Nat.gcd t.natAbs n := by
 have e : (t : Rat) / (n : Rat) = mkRat t n := by rw [Rat.mkRat_eq_div]
 rw [e, Rat.mkRat_def, dif_neg (by omega), Rat.normalize_eq]
 exact ⟨rfl, rfl⟩
theorem Iu {t b : Int} (h : 0 < b) : amD (lowP t b) = aD ((t : Rat) / (b : Rat)) := by
 obtain ⟨n, rfl⟩ : ∃ n : Nat, b = n := ⟨b.natAbs, by omega⟩
 obtain ⟨h1, h2⟩ := La t n (by omega)
 unfold amD aD lowP Pq
 rw [show (((n : Nat) : Int) : Rat) = ((n : Nat) : Rat) from rfl, h1, h2]
 simp
theorem MO {t b : Int} {k : Nat} (h : 0 < b) (ht : t.natAbs < 2 ^ k) (hb : b.natAbs < 2 ^ k) : Sz k ((t : Rat) / (b : Rat)) := by
 obtain ⟨n, rfl⟩ : ∃ n : Nat, b = n := ⟨b.natAbs, by omega⟩
 obtain ⟨h1, h2⟩ := La t n (by omega)
 unfold Sz
 rw [show (((n : Nat) : Int) : Rat) = ((n : Nat) : Rat) from rfl, h1, h2]
 exact ⟨Nat.lt_of_le_of_lt (Int.natAbs_ediv_le_natAbs _ _) ht, Nat.lt_of_le_of_lt (Nat.div_le_self _ _) (by simpa using hb)⟩
theorem Co {a b j k : Nat} (ha : a < 2 ^ j) (hb : b < 2 ^ k) : a * b < 2 ^ (j + k) := by
 rw [Nat.pow_add]
 exact Nat.mul_lt_mul'' ha hb
theorem G3 {i j : Int} {k m : Nat} (hi : i.natAbs < 2 ^ k) (hj : j.natAbs < 2 ^ m) (h : k ≤ 60000) (g : m ≤ 60000) : Dp i j = true := by
 unfold Dp
 rw [Bool.or_eq_true, Bool.or_eq_true, Bool.and_eq_true]
 exact .inr (.inr ⟨decide_eq_true (Nat.lt_of_lt_of_le hi (Nat.pow_le_pow_right (by decide) h)), decide_eq_true (Nat.lt_of_lt_of_le hj (Nat.pow_le_pow_right (by decide) g))⟩)
theorem den_pos (q : Rat) : 0 < (q.den : Int) := by have := q.den_pos; omega
theorem Yi {x : Int} {n m : Nat} (h : x.natAbs < 2 ^ n) (g : n ≤ m) : x.natAbs < 2 ^ m := Nat.lt_of_lt_of_le h (Nat.pow_le_pow_right (by decide) g)
section
variable {p q : Rat} {j k : Nat}
theorem De (hp : Sz j p) (hq : Sz k q) : (p.num * q.den + q.num * p.den).natAbs < 2 ^ (j + k + 1) /\ ((p.den : Int) * q.den).natAbs < 2 ^ (j + k) /\ (p.num * q.den - q.num * p.den).natAbs < 2 ^ (j + k + 1) := by
 have a1 := Co hp.1 hq.2
 have a2 := Co hq.1 hp.2
 have a3 := Co hp.2 hq.2
 rw [Nat.add_comm k j] at a2
 have e : 2 ^ (j + k + 1) = 2 ^ (j + k) + 2 ^ (j + k) := by rw [Nat.pow_succ]; omega
 refine ⟨?_, ?_, ?_⟩
 ·refine Nat.lt_of_le_of_lt (Int.natAbs_add_le _ _) ?_
  rw [Int.natAbs_mul, Int.natAbs_mul, Int.natAbs_natCast, Int.natAbs_natCast, e]
  omega
 ·rw [Int.natAbs_mul, Int.natAbs_natCast, Int.natAbs_natCast]; exact a3
 ·refine Nat.lt_of_le_of_lt (Int.natAbs_sub_le _ _) ?_
  rw [Int.natAbs_mul, Int.natAbs_mul, Int.natAbs_natCast, Int.natAbs_natCast, e]
  omega
theorem N0 : (((p.num * q.den + q.num * p.den : Int) : Rat) / (((p.den : Int) * q.den : Int) : Rat)) = p + q := by
 have h1 := D9 p; have h2 := D9 q
 have d1 := Ij p; have d2 := Ij q
 push_cast
 grind
theorem Qj : (((p.num * q.den - q.num * p.den : Int) : Rat) / (((p.den : Int) * q.den : Int) : Rat)) = p - q := by
 have h1 := D9 p; have h2 := D9 q
 have d1 := Ij p; have d2 := Ij q
 push_cast
 grind
theorem LZ : (((p.num * q.num : Int) : Rat) / (((p.den : Int) * q.den : Int) : Rat)) = p * q := by
 have h1 := D9 p; have h2 := D9 q
 have d1 := Ij p; have d2 := Ij q
 push_cast
 grind
theorem Z1 (hp : Sz j p) (hq : Sz k q) : Sz (j + k + 1) (p + q) := by
 rw [← N0]
 have := De hp hq
 exact MO (Int.mul_pos (den_pos _) (den_pos _)) this.1 (Yi this.2.1 (by omega))
theorem bK (hp : Sz j p) (hq : Sz k q) : Sz (j + k + 1) (p - q) := by
 rw [← Qj]
 have := De hp hq
 exact MO (Int.mul_pos (den_pos _) (den_pos _)) this.2.2 (Yi this.2.1 (by omega))
theorem NN (hp : Sz j p) (hq : Sz k q) : Sz (j + k) (p * q) := by
 rw [← LZ]
 have := De hp hq
 exact MO (Int.mul_pos (den_pos _) (den_pos _)) (by rw [Int.natAbs_mul]; exact Co hp.1 hq.1) this.2.1
end
section
variable {p q : Rat} {j k : Nat}
theorem NK (hp : Sz j p) (hq : Sz k q) (hj : j + k ≤ 7990) : Dp p.num q.den = true /\ Dp q.num p.den = true /\ Dp p.den q.den = true /\ Dp p.num q.num = true := by
 refine ⟨G3 hp.1 (by simpa using hq.2) (by omega) (by omega), G3 hq.1 (by simpa using hp.2) (by omega) (by omega), G3 (by simpa using hp.2) (by simpa using hq.2) (by omega) (by omega), G3 hp.1 hq.1 (by omega) (by omega)⟩
theorem Z4 (hp : Sz j p) (hq : Sz k q) (hj : j + k ≤ 7990) : G8 [(aD p), (aD q)] S = some ((aD (p + q)), S) := by
 obtain ⟨m1, m2, m3, m4⟩ := NK hp hq (by omega)
 have b := De hp hq
 have l := Jn (S := S) (t := p.num * q.den + q.num * p.den) (b := p.den * q.den) (Int.mul_pos (den_pos _) (den_pos _)) (DL b.2.1 (by omega))
 rw [Iu (Int.mul_pos (den_pos _) (den_pos _)), N0] at l
 simp only [aD] at l ⊢
 simp [G8, RI, m1, m2, m3, l]
theorem Zy (hp : Sz j p) (hq : Sz k q) (hj : j + k ≤ 7990) : G7 [(aD p), (aD q)] S = some ((aD (p - q)), S) := by
 obtain ⟨m1, m2, m3, m4⟩ := NK hp hq (by omega)
 have b := De hp hq
 have l := Jn (S := S) (t := p.num * q.den - q.num * p.den) (b := p.den * q.den) (Int.mul_pos (den_pos _) (den_pos _)) (DL b.2.1 (by omega))
 rw [Iu (Int.mul_pos (den_pos _) (den_pos _)), Qj] at l
 simp only [aD] at l ⊢
 simp [G7, Qt, m1, m2, m3, l]
theorem XI (hp : Sz j p) (hq : Sz k q) (hj : j + k ≤ 7990) : FX [(aD p), (aD q)] S = some ((aD (p * q)), S) := by
 obtain ⟨m1, m2, m3, m4⟩ := NK hp hq (by omega)
 have b := De hp hq
 have l := Jn (S := S) (t := p.num * q.num) (b := p.den * q.den) (Int.mul_pos (den_pos _) (den_pos _)) (DL b.2.1 (by omega))
 rw [Iu (Int.mul_pos (den_pos _) (den_pos _)), LZ] at l
 simp only [aD] at l ⊢
 simp [FX, Ow, m3, m4, l]
theorem NV (hp : Sz j p) (hq : Sz k q) (hj : j + k ≤ 7990) : Bn [(aD p), (aD q)] S = some ((aD (p + q)), S) := by
 obtain ⟨m1, m2, m3, m4⟩ := NK hp hq (by omega)
 have b := De hp hq
 have l := QN (S := S) (t := p.num * q.den + q.num * p.den) (b := p.den * q.den) (Int.mul_pos (den_pos _) (den_pos _)) (DL b.2.1 (by omega))
 rw [Iu (Int.mul_pos (den_pos _) (den_pos _)), N0] at l
 simp only [aD] at l ⊢
 simp [Bn, My, m1, m2, m3, l]
theorem J2 (hp : Sz j p) (hq : Sz k q) (hj : j + k ≤ 7990) : BC [(aD p), (aD q)] S = some ((aD (p * q)), S) := by
 obtain ⟨m1, m2, m3, m4⟩ := NK hp hq (by omega)
 have b := De hp hq
 have l := QN (S := S) (t := p.num * q.num) (b := p.den * q.den) (Int.mul_pos (den_pos _) (den_pos _)) (DL b.2.1 (by omega))
 rw [Iu (Int.mul_pos (den_pos _) (den_pos _)), LZ] at l
 simp only [aD] at l ⊢
 simp [BC, LY, m3, m4, l]
theorem bH : aD (-q) = .tup [.int (0 - q.num), .int q.den] := by
 unfold aD
 rw [show (-q).num = 0 - q.num by simp, show (-q).den = q.den by simp]
theorem ZU (hq : Sz k q) : Sz k (-q) := by
 unfold Sz
 rw [show (-q).num = - q.num by simp, show (-q).den = q.den by simp, Int.natAbs_neg]
 exact hq
theorem XH (hp : Sz j p) (hq : Sz k q) (hj : j + k ≤ 7990) : Di [(aD p), (aD q)] S = some ((aD (p - q)), S) := by
 have l := NV (S := S) hp (ZU hq) hj
 rw [bH] at l
 rw [Rat.sub_eq_add_neg]
 simp only [aD] at l ⊢
 simp at l
 simp [Di, Mz, l]
end
theorem Sn {t b : Int} (h : 0 < b) (hb : b.natAbs < F6) : C4 [(.int t), (.int b)] S = some ((aD (t / b)), S) := by
 rw [Jn h hb, Iu h]
theorem Wy {t b : Int} (h : 0 < b) (hb : b.natAbs < F6) : B2 [(.int t), (.int b)] S = some ((aD (t / b)), S) := by
 rw [QN h hb, Iu h]
theorem II {a b : Int} {k : Nat} (ha : a.natAbs < 2 ^ k) (hb : b.natAbs < 2 ^ k) : (a + b).natAbs < 2 ^ (k + 1) := by
 have e : 2 ^ (k + 1) = 2 ^ k + 2 ^ k := by rw [Nat.pow_succ]; omega
 have := Int.natAbs_add_le a b
 omega
theorem Jq {a b : Int} {j k : Nat} (ha : a.natAbs < 2 ^ j) (hb : b.natAbs < 2 ^ k) : (a * b).natAbs < 2 ^ (j + k) := by
 rw [Int.natAbs_mul]; exact Co ha hb
theorem SJ {p q : Rat} {w m : Int} (h : 0 < w + m) : ((p.num * q.den * w + q.num * p.den * m : Int) : Rat) / (((p.den : Int) * q.den * (w + m) : Int) : Rat) = (p * w + q * m) / (w + m) := by
 have h1 := D9 p; have h2 := D9 q
 have d1 := Ij p; have d2 := Ij q
 have d3 : ((w : Rat) + (m : Rat)) ≠ 0 := by
  intro e
  have : ((w + m : Int) : Rat) = 0 := by push_cast; exact e
  have := Rat.intCast_eq_zero_iff.mp this
  omega
 push_cast
 grind
section
variable {p q : Rat} {w m : Int} {j k n : Nat}
theorem W3 (hp : Sz j p) (hq : Sz k q) (hw : w.natAbs < 2 ^ n) (hm : m.natAbs < 2 ^ n) : (p.num * q.den * w + q.num * p.den * m).natAbs < 2 ^ (j + k + n + 1) /\ ((p.den : Int) * q.den * (w + m)).natAbs < 2 ^ (j + k + (n + 1)) := by
 have d1 : ((p.den : Int)).natAbs < 2 ^ j := by simpa using hp.2
 have d2 : ((q.den : Int)).natAbs < 2 ^ k := by simpa using hq.2
 refine ⟨II (Jq (Jq hp.1 d2) hw) ?_, Jq (Jq d1 d2) (II hw hm)⟩
 have := Jq (Jq hq.1 d1) hm
 rwa [Nat.add_comm k j] at this
theorem Zt (hp : Sz j p) (hq : Sz k q) (hw : w.natAbs < 2 ^ n) (hm : m.natAbs < 2 ^ n) (h : 0 < w + m) (hj : j + k + n + 1 ≤ 7990) :
  Hx [(aD p), (.int w), (aD q), (.int m)] S = some ((aD ((p * w + q * m) / (w + m))), S) := by
 obtain ⟨m1, m2, m3, m4⟩ := NK hp hq (by omega)
 have d1 : ((p.den : Int)).natAbs < 2 ^ j := by simpa using hp.2
 have d2 : ((q.den : Int)).natAbs < 2 ^ k := by simpa using hq.2
 have b := W3 hp hq hw hm
 have m5 : Dp (p.num * q.den) w = true := G3 (Jq hp.1 d2) hw (by omega) (by omega)
 have m6 : Dp (q.num * p.den) m = true := G3 (Jq hq.1 d1) hm (by omega) (by omega)
 have m7 : Dp ((p.den : Int) * q.den) (w + m) = true := G3 (Jq d1 d2) (II hw hm) (by omega) (by omega)
 have l := Sn (S := S) (t := p.num * q.den * w + q.num * p.den * m) (b := p.den * q.den * (w + m)) (Int.mul_pos (Int.mul_pos (den_pos _) (den_pos _)) h) (DL b.2 (by omega))
 rw [SJ h] at l
 simp only [aD] at l ⊢
 simp [Hx, PQ, m1, m2, m3, m5, m6, m7, l]
end
end
section
variable {S : Sto} {p : Nat}
theorem Xh {r : List D} (h : p < S.length) : dr (S.set p (.lst r)) (.ref p) = .own r := BH (List.getElem?_set_self h)
def Pen (ds : List D) : Prop := ∃ a b c d : Int, ds = [.int a, .int b, .int c, .int d] /\ 0 ≤ d /\ d < 1000000007
def Ew (p : Nat) (S : Sto) : Prop := ∃ ds, S[p]? = some (.lst ds) /\ Pen ds
structure Pn (p : Nat) (S S' : Sto) : Prop where
 same : Ci [p] S S'
 pen : Ew p S'
theorem Pn.trans {S S' S2 : Sto} (h : Pn p S S') (g : Pn p S' S2) : Pn p S S2 := ⟨h.same.trans g.same, g.pen⟩
theorem Pn.get {S S' : Sto} (h : Pn p S S') {n : Nat} {c : Cl} (e : S[n]? = some c) (ha : n ≠ p) : S'[n]? = some c := h.same.get e (by simpa using ha)
theorem Pn.refl (h : Ew p S) : Pn p S S := ⟨.refl, h⟩
theorem Ew.lt (h : Ew p S) : p < S.length := by obtain ⟨ds, e, _⟩ := h; exact Aw e
theorem Ew.app (h : Ew p S) (T : Sto) : Ew p (S ++ T) := by obtain ⟨ds, e, hp⟩ := h; exact ⟨ds, by rw [List.getElem?_append_left (Aw e)]; exact e, hp⟩
theorem A8 (h : Ew p S) {n : Int} (h0 : 0 < n) (h1 : n < 1152921504606846976) : ∃ r S', AM [.ref p, .int n] S = some (.int r, S') /\ 0 ≤ r /\ r < n /\ Pn p S S' := by
 obtain ⟨ds, hp, a, b, c, d, rfl, hd0, hd1⟩ := h
 have hl := Aw hp
 have hs := EW h0 h1
 have hr := BH hp
 have hc := Aa hp
 by_cases hb : b = 1 /\ 0 < a
 ·obtain ⟨rfl, ha⟩ := hb
  refine ⟨a % n, S.set p (.lst [.int (a / n), .int 1, .int c, .int d]), ?_, Int.emod_nonneg _ (by omega), Int.emod_lt_of_pos _ h0, .set (by simp), _, List.getElem?_set_self hl, _, _, _, _, rfl, hd0, hd1⟩
  simp [AM, IF, ha, h0, hs, hr, hc]
 ·have m1 : Dp (d + 17) (69621 + 2 * (c + 1)) = true := mulL (by omega) (by omega)
  have m2 : Dp 2 (c + 1) = true := mulL (by decide) (by decide)
  generalize ht : (d + 17) * (69621 + 2 * (c + 1)) % 2147483647 = t at *
  have t0 : 0 ≤ t := by rw [← ht]; exact Int.emod_nonneg _ (by decide)
  have t1 : t < 2147483647 := by rw [← ht]; exact Int.emod_lt_of_pos _ (by decide)
  have m3 : Dp t t = true := mulL (by omega) (by omega)
  have m4 : Dp 40503 (c + 1) = true := mulL (by decide) (by decide)
  generalize hu : (t * t + 40503 * (c + 1) + 5) % 2147483629 = u at *
  have u0 : 0 ≤ u := by rw [← hu]; exact Int.emod_nonneg _ (by decide)
  have u1 : u < 2147483629 := by rw [← hu]; exact Int.emod_lt_of_pos _ (by decide)
  have m5 : Dp u 48271 = true := mulL (by omega) (by omega)
  have d32 : (32 : Int).natAbs < F6 := EW (by decide) (by decide)
  have d32' : (32 : Nat) < F6 := d32
  refine ⟨u * 48271 % 2147483647 / 32 % n, S.set p (.lst [.int a, .int b, .int (c + 1), .int d]), ?_, Int.emod_nonneg _ (by omega), Int.emod_lt_of_pos _ h0, .set (by simp), _, List.getElem?_set_self hl, _, _, _, _, rfl, hd0, hd1⟩
  by_cases hb1 : b = 1
  ·subst hb1
   have ha : ¬ 0 < a := fun z => hb ⟨rfl, z⟩
   simp [AM, IF, ha, h0, hs, hr, hc, Xh, hl, m1, m2, m3, m4, m5, ht, hu, d32']
  ·have hb2 : (b == 1) = false := by simpa using hb1
   simp [AM, IF, hb2, h0, hs, hr, hc, Xh, hl, m1, m2, m3, m4, m5, ht, hu, d32']
theorem bJ (c : Int) : ∃ p S', Hw [.int c] S = some (.ref p, S') /\ Ew p S' /\ Ci [] S S' /\ S.length ≤ p := by
 refine ⟨S.length, S ++ [.lst [.int c, .int (if (10 : Int) ^ 18 ≤ c then 1 else 0), .int 0, .int (c % 1000000007)]], ?_, ⟨_, List.getElem?_concat_length, _, _, _, _, rfl, Int.emod_nonneg _ (by decide), Int.emod_lt_of_pos _ (by decide)⟩, .app, Nat.le_refl _⟩
 simp [Hw, Pp]
theorem El {gs : Gd} {t : Tf} {c f : Ev} {acc : List D} {E : En} (h : gOk gs S) : CJ gs t c f [] acc E S = some (acc, S) := by
 unfold CJ
 rw [if_pos h]
theorem NC {gs : Gd} {t : Tf} {c f : Ev} {d : D} {ds acc : List D} {E : En} (h : gOk gs S) (hz : acc.length < sizeLine) : CJ gs t c f (d :: ds) acc E S = (t d E S).bind fun E1 => (c E1 S).bind fun r => match r.1 with
   | .bl true => (f E1 r.2).bind fun p => CJ gs t c f ds (acc ++ [p.1]) E1 p.2
   | .bl false => CJ gs t c f ds acc E1 r.2
   | _ => none := by
 rw [CJ, if_pos h, if_pos hz]
 all_goals rfl
theorem HX {gs : Gd} {t : Tf} {c f : Ev} {d : D} {ds acc : List D} {E E1 : En} {S1 : Sto} (h : gOk gs S) (hz : acc.length < sizeLine) (e1 : t d E S = some E1) (e2 : c E1 S = some (.bl true, S1)) : CJ gs t c f (d :: ds) acc E S = (f E1 S1).bind fun p => CJ gs t c f ds (acc ++ [p.1]) E1 p.2 := by
 rw [NC h hz, e1]
 show (c E1 S).bind _ = _
 rw [e2]
 rfl
theorem Iw {gs : Gd} {t : Tf} {c f : Ev} {d : D} {ds acc : List D} {E E1 : En} {S1 : Sto} (h : gOk gs S) (hz : acc.length < sizeLine) (e1 : t d E S = some E1) (e2 : c E1 S = some (.bl false, S1)) : CJ gs t c f (d :: ds) acc E S = CJ gs t c f ds acc E1 S1 := by
 rw [NC h hz, e1]
 show (c E1 S).bind _ = _
 rw [e2]
 rfl
theorem OW {gs : Gd} {t : Tf} {f : Ev} {C : En} {m : Nat} {I : Sto -> Prop} {R : D -> D -> Prop} (hg : ∀ S, I S -> gOk gs S) : ∀ {ds acc : List D} {os : En} {S : Sto}, os.length = m -> I S -> acc.length + ds.length ≤ sizeLine ->
    (∀ d ∈ ds, ∀ os S, os.length = m -> I S -> ∃ us y S', us.length = m /\ t d (C ++ os) S = some (C ++ us) /\ f (C ++ us) S = some (y, S') /\ I S' /\ R d y) ->
    ∃ ys S', CJ gs t Bx f ds acc (C ++ os) S = some (acc ++ ys, S') /\ I S' /\ ys.length = ds.length /\ Paired R ds ys
  | [], acc, os, S, ho, hI, hz, h => ⟨[], S, by rw [El (hg S hI)]; simp, hI, rfl, .nil⟩
  | d :: ds, acc, os, S, ho, hI, hz, h => by
    obtain ⟨us, y, S1, hu, e1, e2, I1, r1⟩ := h d List.mem_cons_self os S ho hI
    obtain ⟨ys, S2, e3, I2, l2, r2⟩ := OW hg (ds := ds) (acc := acc ++ [y]) (os := us) (S := S1) hu I1 (by simp at hz ⊢; omega) fun d' hd => h d' (List.mem_cons_of_mem _ hd)
    refine ⟨y :: ys, S2, ?_, I2, by simp [l2], .cons r1 r2⟩
    rw [HX (hg S hI) (by simp at hz; omega) e1 GS, e2, DM, e3]
    simp
theorem comp_map {gs : Gd} {t : Tf} {f : Ev} {C : En} {m : Nat} {g : D -> D} {S : Sto} (hg : gOk gs S) : ∀ {ds acc : List D} {os : En}, os.length = m -> acc.length + ds.length ≤ sizeLine ->
    (∀ d ∈ ds, ∀ os, os.length = m -> ∃ us, us.length = m /\ t d (C ++ os) S = some (C ++ us) /\ f (C ++ us) S = some (g d, S)) ->
    CJ gs t Bx f ds acc (C ++ os) S = some (acc ++ ds.map g, S)
  | [], acc, os, ho, hz, h => by rw [El hg]; simp
  | d :: ds, acc, os, ho, hz, h => by
    obtain ⟨us, hu, e1, e2⟩ := h d List.mem_cons_self os ho
    rw [HX hg (by simp at hz; omega) e1 GS, e2, DM]
    rw [comp_map hg hu (by simp at hz ⊢; omega) fun d' hd => h d' (List.mem_cons_of_mem _ hd)]
    simp
theorem EN {gs : Gd} {t : Tf} {b : Ex} {I : List D -> En -> Sto -> Prop} (hg : ∀ ds E S, I ds E S -> gOk gs S) : ∀ {ds : List D} {E : En} {S : Sto}, I ds E S ->
    (∀ d ds E S, I (d :: ds) E S -> ∃ E1 E2 S2, t d E S = some E1 /\ b E1 S = some (.nx, E2, S2) /\ I ds E2 S2) ->
    ∃ E' S', K4 gs t b ds E S = some (.nx, E', S') /\ I [] E' S'
  | [], E, S, hI, h => ⟨E, S, IJ (hg _ _ _ hI), hI⟩
  | d :: ds, E, S, hI, h => by
    obtain ⟨E1, E2, S2, e1, e2, I2⟩ := h d ds E S hI
    obtain ⟨E', S', e3, I3⟩ := EN hg I2 h
    exact ⟨E', S', by rw [C7 (hg _ _ _ hI), e1]; simp [e2, e3], I3⟩
theorem pick {xs : List D} {r : Int} (h0 : 0 ≤ r) (h1 : r < xs.length) : ∃ x, atI xs r = some x /\ x ∈ xs := ⟨_, XW h0 h1, List.getElem_mem _⟩
theorem KN {α β : Type} {P : β -> Prop} : ∀ {xs : List α} {ys : List β}, Paired (fun _ y => P y) xs ys -> ∀ y ∈ ys, P y
  | _, _, .nil, y, h => by cases h
  | _, _, .cons r t, y, h => by
    rcases List.mem_cons.mp h with h | h
    · rw [h]; exact r
    · exact KN t y h
theorem Hy {lo : Int} {n : Nat} : (GA lo n).length = n := by simp [GA]
end
def Ok (G B : Nat) (r : Rat) : Prop := ∃ z : Nat, r * (G : Rat) = (z : Rat) /\ z ≤ B
theorem KP {n : Nat} (h : 0 < n) : (n : Rat) ≠ 0 := by
 have : n ≠ 0 := by omega
 exact_mod_cast this
theorem Ok.sz {G B k : Nat} {r : Rat} (h : Ok G B r) (hG : 0 < G) (g : G < 2 ^ k) (b : B < 2 ^ k) : Sz k r := by
 obtain ⟨z, e, hz⟩ := h
 have e2 : r = ((z : Int) : Rat) / ((G : Int) : Rat) := by
  have := KP hG
  rw [show (((z : Nat) : Int) : Rat) = (z : Rat) from rfl, show (((G : Nat) : Int) : Rat) = (G : Rat) from rfl, ← e]
  grind
 rw [e2]
 exact MO (by omega) (by simpa using Nat.lt_of_le_of_lt hz b) (by simpa using g)
theorem Ok.up {G B t B' : Nat} {r : Rat} (h : Ok G B r) (hB : B * t ≤ B') : Ok (G * t) B' r := by
 obtain ⟨z, e, hz⟩ := h
 refine ⟨z * t, ?_, Nat.le_trans (Nat.mul_le_mul_right t hz) hB⟩
 push_cast
 rw [← e]
 grind
theorem Ok.zero {G B : Nat} : Ok G B 0 := ⟨0, by simp, Nat.zero_le _⟩
theorem Ok.one {G B : Nat} (h : G ≤ B) : Ok G B 1 := ⟨G, by simp, h⟩
theorem Ok.mix {G B a b t : Nat} {r o : Rat} (hr : Ok G B r) (ho : Ok G B o) (ht : a + b = t) (h0 : 0 < t) : Ok (G * t) (B * t) ((r * (a : Rat) + o * (b : Rat)) / (t : Rat)) := by
 obtain ⟨z, e1, h1⟩ := hr
 obtain ⟨y, e2, h2⟩ := ho
 refine ⟨z * a + y * b, ?_, ?_⟩
 ·have := KP h0
  push_cast
  rw [← e1, ← e2]
  grind
 ·rw [← ht, Nat.mul_add]
  exact Nat.add_le_add (Nat.mul_le_mul_right a h1) (Nat.mul_le_mul_right b h2)
structure Tr where
 p : Nat
 k : Nat
 b : Nat
 ho : List Rat
 h : Int
 l : Int
structure Ld where
 k : Nat
 n : Int
 ow : List Rat
structure Stt where
 loads : List Ld
 hold : List Rat
 nums : List Int
inductive AV where
 | bring (p k : Nat) (n : Int)
 | pool (a b : Nat)
 | swap (l : Nat) (g : Int) (k : Nat) (n : Int)
 | trade (t : Int) (l : Nat) (g : Int) (k : Nat) (n : Int)
 | spoil (l : Nat) (n : Int)
 | thr (l : Nat) (n : Int) (ws : List Int)
 | sell (p q : Nat) (s : Rat)
def shD (rs : List Rat) : D := .tup (rs.map aD)
def Tr.d (t : Tr) : D := .tup [.int t.p, .int t.k, .int t.b, shD t.ho, .int t.h, .int t.l]
def Ld.d (l : Ld) : D := .tup [.int l.k, .int l.n, shD l.ow]
def AV.d : AV -> D
 | .bring p k n => .tup [.str "bring", .int p, .int k, .int n]
 | .pool a b => .tup [.str "pool", .int a, .int b]
 | .swap l g k n => .tup [.str "swap", .int l, .int g, .int k, .int n]
 | .trade t l g k n => .tup [.str "trade", .int t, .int l, .int g, .int k, .int n]
 | .spoil l n => .tup [.str "spoil", .int l, .int n]
 | .thr l n ws => .tup [.str "throw", .int l, .int n, .tup (ws.map .int)]
 | .sell p q s => .tup [.str "sell", .int p, .int q, aD s]
def GO (x : Rat) (os ss : List Rat) : List Rat := List.zipWith (fun s o => s * (1 - x) + o * x) ss os
def Fs (p q : Nat) (s : Rat) (ss : List Rat) : List Rat := (ss.set p (ss.getD p 0 - ss.getD p 0 * s)).set q (ss.getD q 0 + ss.getD p 0 * s)
def B5 (n m : Int) (ss os : List Rat) : List Rat := List.zipWith (fun s o => (s * n + o * m) / (n + m : Int)) ss os
def DN (t : Tr) (ls : List Ld) (ws : List Int) : Int := (ls.map fun l => l.n * ws.getD l.k 0).sum + t.b * ws.getD t.k 0
def JA (t : Tr) (ls : List Ld) (l : Nat) (n : Int) (ws : List Int) : Rat := ((n * ws.getD ((ls[l]?.map (·.k)).getD 0) 0 : Int) : Rat) / (DN t ls ws : Rat)
def AR (ls : List Ld) (l : Nat) : Ld := ls.getD l ⟨0, 0, []⟩
def less (ls : List Ld) (l : Nat) (n : Int) : List Ld := ls.set l { AR ls l with n := (AR ls l).n - n }
def Pc (p i : Nat) : List Rat := (List.range p).map fun j => if j = i then 1 else 0
def step (t : Tr) (s : Stt) : AV -> Stt
 | .bring p k n => { s with loads := s.loads ++ [⟨k, n, Pc t.p p⟩] }
 | .pool a b => { s with loads := less (less s.loads a (AR s.loads a).n) b (AR s.loads b).n ++ [⟨(AR s.loads a).k, (AR s.loads a).n + (AR s.loads b).n, B5 (AR s.loads a).n (AR s.loads b).n (AR s.loads a).ow (AR s.loads b).ow⟩] }
 | .swap l g k n => { s with loads := less s.loads l g ++ [⟨k, n, (AR s.loads l).ow⟩] }
 | .trade u l g k n => { s with loads := less s.loads l g ++ [⟨k, n, (AR s.loads l).ow⟩], nums := s.nums ++ [u] }
 | .spoil l n => { s with loads := less s.loads l n }
 | .thr l n ws => { s with loads := (less s.loads l n).map fun x => { x with ow := GO (JA t s.loads l n ws) (AR s.loads l).ow x.ow }, hold := GO (JA t s.loads l n ws) (AR s.loads l).ow s.hold }
 | .sell p q x => { s with loads := s.loads.map fun y => { y with ow := Fs p q x y.ow }, hold := Fs p q x s.hold }
def JE (t : Tr) : Prop := 1 ≤ t.p /\ t.p ≤ 4 /\ 1 ≤ t.k /\ t.k ≤ 5 /\ 1 ≤ t.b /\ t.b ≤ 20
def Can (t : Tr) (s : Stt) : AV -> Prop
 | .bring p k n => p < t.p /\ k < t.k /\ 1 ≤ n /\ n < 2 ^ 131
 | .pool a b => a ≠ b /\ a < s.loads.length /\ b < s.loads.length /\ 0 < (AR s.loads a).n /\ 0 < (AR s.loads b).n /\ (AR s.loads a).k = (AR s.loads b).k
 | .swap l g k n => l < s.loads.length /\ 1 ≤ g /\ g ≤ (AR s.loads l).n /\ k < t.k /\ k ≠ (AR s.loads l).k /\ 1 ≤ n /\ n < 2 ^ 131
 | .trade u l g k n => l < s.loads.length /\ 1 ≤ g /\ g ≤ (AR s.loads l).n /\ k < t.k /\ k ≠ (AR s.loads l).k /\ 1 ≤ n /\ n < 2 ^ 131 /\ u ∉ s.nums /\ 0 ≤ u /\ u ≤ 9
 | .spoil l n => l < s.loads.length /\ 1 ≤ n /\ n ≤ (AR s.loads l).n
 | .thr l n ws => l < s.loads.length /\ 1 ≤ n /\ n ≤ (AR s.loads l).n /\ ws.length = t.k + 1 /\ ∀ w ∈ ws, 1 ≤ w /\ w ≤ 99
 | .sell p q x => p ≠ q /\ p < t.p /\ q < t.p /\ 0 < x.num /\ x.num ≤ x.den /\ x.den ≤ 12
structure Es (t : Tr) (k : Nat) (s : Stt) : Prop where
 len : s.loads.length ≤ 4 + k
 kind : ∀ l ∈ s.loads, l.k < t.k
 pcs : ∀ l ∈ s.loads, 0 ≤ l.n /\ l.n < 2 ^ (131 + k)
 own : ∀ l ∈ s.loads, l.ow.length = t.p
 hold : s.hold.length = t.p
 nm : s.nums.length ≤ k
 gb : ∃ G B : Nat, 0 < G /\ G ≤ B /\ B < 2 ^ (30 + 170 * k) /\ (∀ l ∈ s.loads, ∀ r ∈ l.ow, Ok G B r) /\ ∀ r ∈ s.hold, Ok G B r
theorem Es.sz {t : Tr} {k : Nat} {s : Stt} (h : Es t k s) : (∀ l ∈ s.loads, ∀ r ∈ l.ow, Sz (30 + 170 * k) r) /\ ∀ r ∈ s.hold, Sz (30 + 170 * k) r := by
 obtain ⟨G, B, g0, gb, b, h1, h2⟩ := h.gb
 exact ⟨fun l hl r hr => (h1 l hl r hr).sz g0 (Nat.lt_of_le_of_lt gb b) b, fun r hr => (h2 r hr).sz g0 (Nat.lt_of_le_of_lt gb b) b⟩
theorem AW {ls : List Ld} {l : Nat} (h : l < ls.length) : AR ls l ∈ ls := by
 unfold AR
 rw [List.getD_eq_getElem?_getD, List.getElem?_eq_getElem h]
 exact List.getElem_mem h
theorem FD {ls : List Ld} {l : Nat} (h : l < ls.length) : ls[l]? = some (AR ls l) := by
 unfold AR
 rw [List.getD_eq_getElem?_getD, List.getElem?_eq_getElem h]
 rfl
theorem IE {ls : List Ld} {l : Nat} {n : Int} {x : Ld} (h : x ∈ less ls l n) (hl : l < ls.length) : x ∈ ls ∨ x = { AR ls l with n := (AR ls l).n - n } := by
 unfold less at h
 rcases List.mem_or_eq_of_mem_set h with h | h
 ·exact .inl h
 ·exact .inr h
theorem Ce {ls : List Ld} {l : Nat} {n : Int} : (less ls l n).length = ls.length := by simp [less]
section
variable {S : Sto} {p : Nat}
theorem QC {P : Int -> Prop} : ∀ {ys : List D}, (∀ y ∈ ys, ∃ i : Int, y = .int i /\ P i) -> ∃ ns : List Int, ys = ns.map D.int /\ ∀ n ∈ ns, P n
  | [], _ => ⟨[], rfl, fun n h => by cases h⟩
  | y :: ys, h => by
    obtain ⟨i, rfl, hi⟩ := h y List.mem_cons_self
    obtain ⟨ns, rfl, hn⟩ := QC (P := P) (ys := ys) fun z hz => h z (List.mem_cons_of_mem _ hz)
    exact ⟨i :: ns, rfl, fun n hn' => by
      rcases List.mem_cons.mp hn' with e | e
      · rw [e]; exact hi
      · exact hn n e⟩
theorem PY {ns : List Int} (h : ∀ n ∈ ns, 0 ≤ n /\ n ≤ 8) : 0 ≤ ns.sum /\ ns.sum ≤ 8 * ns.length /\ ∀ n ∈ ns, n ≤ ns.sum := by
  induction ns with
  | nil => simp
  | cons a l ih =>
    have h1 := h a List.mem_cons_self
    obtain ⟨i1, i2, i3⟩ := ih fun n hn => h n (List.mem_cons_of_mem _ hn)
    rw [List.sum_cons, List.length_cons]
    refine ⟨by omega, by push_cast; omega, fun n hn => ?_⟩
    rcases List.mem_cons.mp hn with e | e
    · omega
    · have := i3 n e; omega
theorem RK (h : Ew p S) {n : Nat} (hn : n ≤ 20) : ∃ (ns : List Int) (S' : Sto), CJ [] (tNm 1) Bx (eOp (o2 wIx) [(JF [(eC (.int 0)), (eC (.int 1)), (AK AM [(eV 0), (eC (.int 4))]), (AK AM [(eV 0), (eC (.int 9))])]), (AK AM [(eV 0), (eC (.int 4))])]) (GA 0 n) [] [some (.ref p), none] S = some (ns.map D.int, S') /\ Pn p S S' /\ ns.length = n /\ ∀ i ∈ ns, 0 ≤ i /\ i ≤ 8 := by
 obtain ⟨ys, S', e, hI, l, r⟩ := OW (gs := []) (t := tNm 1) (f := eOp (o2 wIx) [(JF [(eC (.int 0)), (eC (.int 1)), (AK AM [(eV 0), (eC (.int 4))]), (AK AM [(eV 0), (eC (.int 9))])]), (AK AM [(eV 0), (eC (.int 4))])]) (C := [some (.ref p)]) (m := 1) (I := Pn p S) (R := fun _ y => ∃ i : Int, y = .int i /\ 0 ≤ i /\ i ≤ 8)
  (fun _ _ => Al) (ds := GA 0 n) (acc := []) (os := [none]) rfl (Pn.refl h) (by rw [Hy]; simp; exact AX (by omega)) fun d _ os S0 ho I0 => by
   obtain ⟨o, rfl⟩ : ∃ o, os = [o] := by
    match os, ho with
    | [o], _ => exact ⟨o, rfl⟩
   obtain ⟨r1, S1, e1, a1, b1, p1⟩ := A8 I0.pen (n := 4) (by decide) (by decide)
   obtain ⟨r2, S2, e2, a2, b2, p2⟩ := A8 p1.pen (n := 9) (by decide) (by decide)
   obtain ⟨r3, S3, e3, a3, b3, p3⟩ := A8 p2.pen (n := 4) (by decide) (by decide)
   obtain ⟨x, ex, hx⟩ := pick (xs := [.int 0, .int 1, .int r1, .int r2]) (r := r3) a3 (by simpa using b3)
   refine ⟨[some d], x, S3, rfl, by simp, by simp [e1, e2, e3, ex], ((I0.trans p1).trans p2).trans p3, ?_⟩
   simp only [List.mem_cons, List.not_mem_nil, or_false] at hx
   rcases hx with rfl | rfl | rfl | rfl
   ·exact ⟨0, rfl, by decide, by decide⟩
   ·exact ⟨1, rfl, by decide, by decide⟩
   ·exact ⟨r1, rfl, by omega, by omega⟩
   ·exact ⟨r2, rfl, by omega, by omega⟩
 obtain ⟨ns, rfl, hns⟩ := QC (KN r)
 exact ⟨ns, S', by simpa using e, hI, by simpa [Hy] using l, hns⟩
def Ia (ns : List Int) : List Rat := ns.map fun (n : Int) => (n : Rat) / (ns.sum : Rat)
theorem Lj {ns : List Int} (h : ∀ n ∈ ns, 0 ≤ n /\ n ≤ 8) (hs : 0 < ns.sum) : ∀ r ∈ Ia ns, Ok ns.sum.toNat ns.sum.toNat r := by
 intro r hr
 obtain ⟨n, hn, rfl⟩ := List.mem_map.mp hr
 have h1 := h n hn
 have h2 := (PY h).2.2 n hn
 refine ⟨n.toNat, ?_, by omega⟩
 have e1 : ((ns.sum.toNat : Nat) : Rat) = (ns.sum : Rat) := by
  have : ((ns.sum.toNat : Nat) : Int) = ns.sum := by omega
  exact congrArg (fun z : Int => (z : Rat)) this
 have e2 : ((n.toNat : Nat) : Rat) = (n : Rat) := by
  have : ((n.toNat : Nat) : Int) = n := by omega
  exact congrArg (fun z : Int => (z : Rat)) this
 rw [e1, e2]
 have : (ns.sum : Rat) ≠ 0 := by
  intro z
  have := Rat.intCast_eq_zero_iff.mp z
  omega
 grind
theorem TX {s : Rat} : ∀ {ns : List Int}, (ns.map fun (n : Int) => (n : Rat) / s).sum = (ns.sum : Rat) / s
  | [] => by simp; grind
  | n :: ns => by
    rw [List.map_cons, List.sum_cons, List.sum_cons, TX (ns := ns)]
    push_cast
    grind
theorem PC {ns : List Int} (hs : 0 < ns.sum) : (Ia ns).sum = 1 := by
 unfold Ia
 rw [TX]
 have : (ns.sum : Rat) ≠ 0 := by
  intro z
  have := Rat.intCast_eq_zero_iff.mp z
  omega
 grind
theorem Q8 {ns : List Int} {q : Nat} (hq : S[q]? = some (.lst (ns.map D.int))) (hl : ns.length ≤ 20) (hn : ∀ n ∈ ns, 0 ≤ n /\ n ≤ 8) (hs : 0 < ns.sum) :
  CJ [(q, ns.map D.int)] (tNm 1) Bx (AK B2 [(eV 1), (eOp (o1 TR) [(eV 0)])]) (ns.map D.int) [] [some (.ref q), none] S = some ((Ia ns).map aD, S) := by
 obtain ⟨s1, s2, s3⟩ := PY hn
 have := comp_map (gs := [(q, ns.map D.int)]) (t := tNm 1) (f := AK B2 [(eV 1), (eOp (o1 TR) [(eV 0)])]) (C := [some (.ref q)]) (m := 1) (g := fun d => match d with | .int n => aD ((n : Rat) / (ns.sum : Rat)) | d => d) (S := S) (fun g hg => by rw [List.mem_singleton.mp hg]; exact Aa hq) (ds := ns.map D.int) (acc := []) (os := [none]) rfl (by simp; exact AX (by omega)) fun d hd os ho => by
   obtain ⟨o, rfl⟩ : ∃ o, os = [o] := by
    match os, ho with
    | [o], _ => exact ⟨o, rfl⟩
   obtain ⟨i, hi, rfl⟩ := List.mem_map.mp hd
   have m := Wy (S := S) (t := i) hs (EW (by omega) (by omega))
   exact ⟨[some (.int i)], rfl, by simp, by simp [BH hq, FY, m]⟩
 have e2 : (ns.map D.int).map (fun d => match d with | .int n => aD ((n : Rat) / (ns.sum : Rat)) | d => d) = (Ia ns).map aD := by
  unfold Ia
  rw [List.map_map, List.map_map]
  rfl
 rw [e2] at this
 simpa using this
theorem Qg (h : Ew p S) {n : Nat} (h1 : 1 ≤ n) (h2 : n ≤ 4) : ∃ rs S', DY [.ref p, .int n] S = some (shD rs, S') /\ Pn p S S' /\ (rs.length = n /\ rs.sum = 1) /\ ∃ G : Nat, 0 < G /\ G ≤ 32 /\ ∀ r ∈ rs, Ok G G r := by
 obtain ⟨ns, S1, e1, p1, l1, i1⟩ := RK (n := n) h (by omega)
 obtain ⟨s1, s2, s3⟩ := PY i1
 have hq : (S1 ++ [Cl.lst (ns.map D.int)])[S1.length]? = some (.lst (ns.map D.int)) := List.getElem?_concat_length
 have pp : Ew p (S1 ++ [Cl.lst (ns.map D.int)]) := p1.pen.app _
 have hlt := p1.pen.lt
 have r1 : IW (n : Int) = true := DR (by omega) (by omega)
 by_cases hz : ns.sum = 0
 ·obtain ⟨r, S2, e2, a2, b2, p2⟩ := A8 pp (n := n) (by omega) (by omega)
  have hq2 : S2[S1.length]? = some (.lst (ns.map D.int)) := p2.get hq (by omega)
  have hn' : ∀ x ∈ ns.set r.toNat 1, 0 ≤ x /\ x ≤ 8 := fun x hx => by
   rcases List.mem_or_eq_of_mem_set hx with hx | rfl
   ·exact i1 x hx
   ·exact ⟨by decide, by decide⟩
  have hs' : 0 < (ns.set r.toNat 1).sum := by
   have := (PY hn').2.2 1 (List.mem_set (by omega) 1)
   omega
  have hq3 : (S2.set S1.length (.lst ((ns.set r.toNat 1).map D.int)))[S1.length]? = some (.lst ((ns.set r.toNat 1).map D.int)) := List.getElem?_set_self (Aw hq2)
  have e3 := Q8 hq3 (by simp; omega) hn' hs'
  have ix : ixN ns.length r = some r.toNat := Q5 a2 (by omega)
  refine ⟨Ia (ns.set r.toNat 1), S2.set S1.length (.lst ((ns.set r.toNat 1).map D.int)), ?_, ⟨?_, ?_⟩, ⟨by simp [Ia, l1], PC hs'⟩, _, (show 0 < (ns.set r.toNat 1).sum.toNat by omega), ?_, Lj hn' hs'⟩
  ·have sq3 := Gw hq3
   rw [List.map_set] at e3 sq3 hq3
   simp [DY, Iy, r1, e1, BH hq, FY, hz, e2, Aa hq2, ix, sq3, e3, shD]
  ·have g : Ci [p] S (S1 ++ [Cl.lst (ns.map D.int)]) := p1.same.trans .app
   refine ⟨Nat.le_trans (g.trans p2.same).len (by simp), fun m hm hmp => ?_⟩
   rw [List.getElem?_set_ne (by have := p1.same.len; omega)]
   exact (g.trans p2.same).keep m hm hmp
  ·obtain ⟨ds, ed, hd⟩ := p2.pen
   exact ⟨ds, by rw [List.getElem?_set_ne (by omega)]; exact ed, hd⟩
  ·have := (PY hn').2.1
   rw [List.length_set] at this
   omega
 ·have hz' : (ns.sum == 0) = false := by simpa using hz
  have e3 := Q8 hq (by omega) i1 (by omega)
  refine ⟨Ia ns, S1 ++ [Cl.lst (ns.map D.int)], ?_, ⟨p1.same.trans .app, pp⟩, ⟨by simp [Ia, l1], PC (by omega)⟩, _, (show 0 < ns.sum.toNat by omega), by omega, Lj i1 (by omega)⟩
  have sq3 := Gw hq
  simp [DY, Iy, r1, e1, BH hq, FY, hz', sq3, e3, shD]
end
section
variable {S : Sto} {p : Nat}
theorem Yl : (2 : Nat) < F6 := EW (n := 2) (by decide) (by decide)
theorem JZ (h : Ew p S) : ∃ n S', Be [.ref p] S = some (.int n, S') /\ Pn p S S' /\ 1 ≤ n /\ n < 2 ^ 131 := by
  obtain ⟨r1, S1, e1, a1, b1, p1⟩ := A8 h (n := 99) (by decide) (by decide)
  obtain ⟨r2, S2, e2, a2, b2, p2⟩ := A8 p1.pen (n := 4) (by decide) (by decide)
  obtain ⟨r3, S3, e3, a3, b3, p3⟩ := A8 p2.pen (n := 40) (by decide) (by decide)
  obtain ⟨r4, S4, e4, a4, b4, p4⟩ := A8 p3.pen (n := 999) (by decide) (by decide)
  obtain ⟨r5, S5, e5, a5, b5, p5⟩ := A8 p4.pen (n := 7) (by decide) (by decide)
  have pp := (((p1.trans p2).trans p3).trans p4).trans p5
  have d2 := Yl
  have go : ∀ g : Int, 1 ≤ g -> g < 2 ^ 131 -> ∃ n : Int, atI [D.int (1 + r2), .int (1 + r3), .int (1 + r4), .int g] (r5 / 2) = some (.int n) /\ 1 ≤ n /\ n < 2 ^ 131 := fun g g1 g2 => by
    obtain ⟨x, ex, hx⟩ := pick (xs := [D.int (1 + r2), .int (1 + r3), .int (1 + r4), .int g]) (r := r5 / 2) (by omega) (by simp; omega)
    simp only [List.mem_cons, List.not_mem_nil, or_false] at hx
    rcases hx with rfl | rfl | rfl | rfl
    · exact ⟨_, ex, by omega, by omega⟩
    · exact ⟨_, ex, by omega, by omega⟩
    · exact ⟨_, ex, by omega, by omega⟩
    · exact ⟨_, ex, g1, g2⟩
  first
    | (obtain ⟨n, en, n1, n2⟩ := go (10 ^ 39 + r1) (by omega) (by omega)
       exact ⟨n, S5, by simp [Be, Hi, e1, e2, e3, e4, e5, d2] at en ⊢; simp [en], pp, n1, n2⟩)
    | (obtain ⟨n, en, n1, n2⟩ := go (10 ^ 30 + r1) (by omega) (by omega)
       exact ⟨n, S5, by simp [Be, Hi, e1, e2, e3, e4, e5, d2] at en ⊢; simp [en], pp, n1, n2⟩)
theorem Hu {r : Int} (h : 0 ≤ r) : ∃ m : Nat, r = m := ⟨r.toNat, by omega⟩
theorem VE (h : Ew p S) : ∃ t S', Gx [.ref p] S = some (Tr.d t, S') /\ Pn p S S' /\ JE t /\ (t.ho.length = t.p /\ t.ho.sum = 1) /\ ∃ G : Nat, 0 < G /\ G ≤ 32 /\ ∀ r ∈ t.ho, Ok G G r := by
 obtain ⟨r1, S1, e1, a1, b1, p1⟩ := A8 h (n := 4) (by decide) (by decide)
 obtain ⟨r2, S2, e2, a2, b2, p2⟩ := A8 p1.pen (n := 5) (by decide) (by decide)
 obtain ⟨r3, S3, e3, a3, b3, p3⟩ := A8 p2.pen (n := 3) (by decide) (by decide)
 obtain ⟨r4, S4, e4, a4, b4, p4⟩ := A8 p3.pen (n := 20) (by decide) (by decide)
 obtain ⟨r5, S5, e5, a5, b5, p5⟩ := A8 p4.pen (n := 2) (by decide) (by decide)
 obtain ⟨m1, rfl⟩ := Hu a1
 obtain ⟨m2, rfl⟩ := Hu a2
 obtain ⟨b, eb, hb1, hb2⟩ : ∃ b : Nat, atI [D.int (1 + r3), .int (1 + r4)] r5 = some (.int b) /\ 1 ≤ b /\ b ≤ 20 := by
  obtain ⟨x, ex, hx⟩ := pick (xs := [D.int (1 + r3), .int (1 + r4)]) (r := r5) a5 (by simpa using b5)
  obtain ⟨m3, rfl⟩ := Hu a3
  obtain ⟨m4, rfl⟩ := Hu a4
  simp only [List.mem_cons, List.not_mem_nil, or_false] at hx
  rcases hx with rfl | rfl
  ·exact ⟨1 + m3, by rw [ex]; simp, by omega, by omega⟩
  ·exact ⟨1 + m4, by rw [ex]; simp, by omega, by omega⟩
 obtain ⟨rs, S6, e6, p6, l6, G, g0, g1, g2⟩ := Qg p5.pen (n := 1 + m1) (by omega) (by omega)
 obtain ⟨r7, S7, e7, a7, b7, p7⟩ := A8 p6.pen (n := 10) (by decide) (by decide)
 obtain ⟨r8, S8, e8, a8, b8, p8⟩ := A8 p7.pen (n := 10) (by decide) (by decide)
 rw [show ((1 + m1 : Nat) : Int) = 1 + (m1 : Int) by omega] at e6
 refine ⟨⟨1 + m1, 1 + m2, b, rs, r7, r8⟩, S8, ?_, ((((((p1.trans p2).trans p3).trans p4).trans p5).trans p6).trans p7).trans p8, ⟨by simp, by simp; omega, by simp, by simp; omega, hb1, hb2⟩, l6, G, g0, g1, g2⟩
 simp [Gx, Lv, e1, e2, e3, e4, e5, eb, e6, e7, e8, Tr.d]
theorem W2 (h : Ew p S) : ∃ x S', Fe [.ref p] S = some (aD x, S') /\ Pn p S S' /\ 0 < x.num /\ x.num ≤ x.den /\ x.den ≤ 12 := by
 obtain ⟨r1, S1, e1, a1, b1, p1⟩ := A8 h (n := 12) (by decide) (by decide)
 obtain ⟨r2, S2, e2, a2, b2, p2⟩ := A8 p1.pen (n := 1 + r1) (by omega) (by omega)
 have m := Wy (S := S2) (t := 1 + r2) (b := 1 + r1) (by omega) (EW (by omega) (by omega))
 obtain ⟨m1, rfl⟩ := Hu a1
 obtain ⟨m2, rfl⟩ := Hu a2
 have rp := La (1 + (m2 : Int)) (1 + m1) (by omega)
 have eb : (((1 + (m1 : Int) : Int)) : Rat) = (((1 + m1 : Nat)) : Rat) := by
  have : (1 + (m1 : Int)) = ((1 + m1 : Nat) : Int) := by omega
  rw [this]; rfl
 have en : (1 + (m2 : Int)).natAbs = 1 + m2 := by omega
 have gp : 0 < Nat.gcd (1 + m2) (1 + m1) := Nat.gcd_pos_of_pos_left _ (by omega)
 obtain ⟨q, hq⟩ := Nat.gcd_dvd_left (1 + m2) (1 + m1)
 obtain ⟨q', hq'⟩ := Nat.gcd_dvd_right (1 + m2) (1 + m1)
 refine ⟨((1 + (m2 : Int) : Int) : Rat) / ((1 + (m1 : Int) : Int) : Rat), S2, ?_, p1.trans p2, ?_, ?_, ?_⟩
 ·simp [Fe, MV, e1, e2, m]
 ·rw [eb, rp.1, en]
  generalize Nat.gcd (1 + m2) (1 + m1) = g at *
  have : (1 + (m2 : Int)) = ((g * q : Nat) : Int) := by omega
  rw [this, Int.natCast_mul, Int.mul_ediv_cancel_left _ (by omega)]
  have : q ≠ 0 := fun z => by subst z; omega
  omega
 ·rw [eb, rp.1, rp.2, en]
  generalize Nat.gcd (1 + m2) (1 + m1) = g at *
  have t1 : (1 + (m2 : Int)) = ((g * q : Nat) : Int) := by omega
  rw [t1, Int.natCast_mul, Int.mul_ediv_cancel_left _ (by omega), hq', Nat.mul_div_cancel_left _ gp]
  have : q ≤ q' := by
   have : g * q ≤ g * q' := by omega
   exact Nat.le_of_mul_le_mul_left this gp
  omega
 ·rw [eb, rp.2]
  exact Nat.le_trans (Nat.div_le_self _ _) (by omega)
theorem SE (h : Ew p S) {n : Nat} (hn : n ≤ 6) : ∃ (ws : List Int) (S' : Sto), Dj [.ref p, .int n] S = some (.tup (ws.map .int), S') /\ Pn p S S' /\ ws.length = n /\ ∀ w ∈ ws, 1 ≤ w /\ w ≤ 99 := by
 obtain ⟨ys, S', e, hI, l, r⟩ := OW (gs := []) (t := tNm 1) (f := (eOp (o2 Dq) [(eC (.int 1)), (eOp (o2 wIx) [(JF [(AK AM [(eV 0), (eC (.int 3))]), (AK AM [(eV 0), (eC (.int 99))])]), (AK AM [(eV 0), (eC (.int 2))])])])) (C := [some (.ref p)]) (m := 1) (I := Pn p S) (R := fun _ y => ∃ i : Int, y = .int i /\ 1 ≤ i /\ i ≤ 99)
  (fun _ _ => Al) (ds := GA 0 n) (acc := []) (os := [none]) rfl (Pn.refl h) (by rw [Hy]; simp; exact AX (by omega)) fun d _ os S0 ho I0 => by
   obtain ⟨o, rfl⟩ : ∃ o, os = [o] := by
    match os, ho with
    | [o], _ => exact ⟨o, rfl⟩
   obtain ⟨r1, S1, e1, a1, b1, p1⟩ := A8 I0.pen (n := 3) (by decide) (by decide)
   obtain ⟨r2, S2, e2, a2, b2, p2⟩ := A8 p1.pen (n := 99) (by decide) (by decide)
   obtain ⟨r3, S3, e3, a3, b3, p3⟩ := A8 p2.pen (n := 2) (by decide) (by decide)
   obtain ⟨x, ex, hx⟩ := pick (xs := [.int r1, .int r2]) (r := r3) a3 (by simpa using b3)
   simp only [List.mem_cons, List.not_mem_nil, or_false] at hx
   rcases hx with rfl | rfl
   ·exact ⟨[some d], .int (1 + r1), S3, rfl, by simp, by simp [e1, e2, e3, ex], ((I0.trans p1).trans p2).trans p3, _, rfl, by omega, by omega⟩
   ·exact ⟨[some d], .int (1 + r2), S3, rfl, by simp, by simp [e1, e2, e3, ex], ((I0.trans p1).trans p2).trans p3, _, rfl, by omega, by omega⟩
 obtain ⟨ns, rfl, hns⟩ := QC (KN r)
 have r1 : IW (n : Int) = true := DR (by omega) (by omega)
 have e' : CJ [] (tNm 1) Bx (eOp (o2 Dq) [(eC (.int 1)), (eOp (o2 wIx) [(JF [(AK AM [(eV 0), (eC (.int 3))]), (AK AM [(eV 0), (eC (.int 99))])]), (AK AM [(eV 0), (eC (.int 2))])])]) (GA 0 n) [] [some (.ref p), none] S = some (ns.map D.int, S') := by simpa using e
 exact ⟨ns, S', by simp [Dj, Kx, r1, e'], hI, by simpa [Hy] using l, hns⟩
def G5 (t : Tr) (ls : List Ld) : Prop := (∀ l ∈ ls, l.k < t.k /\ 1 ≤ l.n /\ l.n < 2 ^ 131 /\ l.ow.length = t.p /\ l.ow.sum = 1) /\ ∃ G : Nat, 0 < G /\ G ≤ 32 ^ ls.length /\ ∀ l ∈ ls, ∀ r ∈ l.ow, Ok G G r
theorem G5.snoc {t : Tr} {ls : List Ld} {l : Ld} (h : G5 t ls) (h1 : l.k < t.k /\ 1 ≤ l.n /\ l.n < 2 ^ 131 /\ l.ow.length = t.p /\ l.ow.sum = 1) {g : Nat} (g0 : 0 < g) (g1 : g ≤ 32) (g2 : ∀ r ∈ l.ow, Ok g g r) : G5 t (ls ++ [l]) := by
 obtain ⟨ha, G, G0, G1, G2⟩ := h
 refine ⟨fun x hx => ?_, G * g, Nat.mul_pos G0 g0, ?_, fun x hx r hr => ?_⟩
 ·rcases List.mem_append.mp hx with hx | hx
  ·exact ha x hx
  ·rw [List.mem_singleton.mp hx]; exact h1
 ·rw [List.length_append, List.length_singleton, Nat.pow_succ]
  exact Nat.mul_le_mul G1 g1
 ·rcases List.mem_append.mp hx with hx | hx
  ·exact (G2 x hx r hr).up (Nat.le_refl _)
  ·rw [List.mem_singleton.mp hx] at hr
   have := (g2 r hr).up (t := G) (B' := G * g) (by rw [Nat.mul_comm]; exact Nat.le_refl _)
   rwa [Nat.mul_comm g G] at this
end
section
variable {S : Sto} {p : Nat}
theorem G5.nil {t : Tr} : G5 t [] := ⟨fun l hl => (nomatch hl), 1, by decide, by simp, fun l hl => (nomatch hl)⟩
theorem Wf (h : Ew p S) {t : Tr} (ht : JE t) : ∃ (ls : List Ld) (S' : Sto), Gv [.ref p, t.d] S = some (.tup (ls.map Ld.d), S') /\ Pn p S S' /\ G5 t ls /\ ls.length ≤ 4 := by
 obtain ⟨t1, t2, t3, t4, t5, t6⟩ := ht
 have hlt := h.lt
 have hq : (S ++ [Cl.lst []])[S.length]? = some (.lst []) := List.getElem?_concat_length
 obtain ⟨r1, S1, e1, a1, b1, p1⟩ := A8 (h.app [Cl.lst []]) (n := 5) (by decide) (by decide)
 obtain ⟨r2, S2, e2, a2, b2, p2⟩ := A8 p1.pen (n := 3) (by decide) (by decide)
 obtain ⟨n, en, hn⟩ : ∃ n : Nat, atI [D.int 0, .int 1, .int r1] r2 = some (.int n) /\ n ≤ 4 := by
  obtain ⟨x, ex, hx⟩ := pick (xs := [D.int 0, .int 1, .int r1]) (r := r2) a2 (by simpa using b2)
  simp only [List.mem_cons, List.not_mem_nil, or_false] at hx
  rcases hx with rfl | rfl | rfl
  ·exact ⟨0, ex, by decide⟩
  ·exact ⟨1, ex, by decide⟩
  ·exact ⟨r1.toNat, by rw [ex, Int.toNat_of_nonneg a1], by omega⟩
 have q2 : S2[S.length]? = some (.lst []) := (p1.trans p2).get hq (by omega)
 have rn : IW (n : Int) = true := DR (by omega) (by omega)
 obtain ⟨E', S', ef, ls, o, rfl, f1, f2, f3, f4, f5⟩ := EN (gs := []) (t := tNm 3) (b := Cp (LJ Lb (eV 2) [(DF [(AK AM [(eV 0), (eOp (o2 wIx) [(eV 1), (eC (.int 1))])]), (AK Be [(eV 0)]), (AK DY [(eV 0), (eOp (o2 wIx) [(eV 1), (eC (.int 0))])])])]))
  (I := fun ds E S' => ∃ (ls : List Ld) (o : Option D), E = [some (.ref p), some t.d, some (.ref S.length), o] /\ S'[S.length]? = some (.lst (ls.map Ld.d)) /\ Ew p S' /\ Ci [p] S S' /\ G5 t ls /\ ls.length + ds.length ≤ 4)
  (fun _ _ _ _ => Al) (ds := GA 0 n) (E := [some (.ref p), some t.d, some (.ref S.length), none]) (S := S2)
  ⟨[], none, rfl, q2, p2.pen, (Ci.app.trans (p1.trans p2).same), G5.nil, by simp [Hy]; exact hn⟩ (by
   rintro d ds E S0 ⟨ls, o, rfl, i1, i2, i3, i4, i5⟩
   obtain ⟨x1, T1, g1, c1, d1, k1⟩ := A8 i2 (n := t.k) (by omega) (by omega)
   obtain ⟨x2, T2, g2, k2, c2, d2⟩ := JZ k1.pen
   obtain ⟨rs, T3, g3, k3, l3, G, G0, G1, G2⟩ := Qg k2.pen (n := t.p) t1 t2
   obtain ⟨m1, rfl⟩ := Hu c1
   have kk := (k1.trans k2).trans k3
   have j1 : T3[S.length]? = some (.lst (ls.map Ld.d)) := kk.get i1 (by omega)
   have hz : ls.length < sizeLine := Nat.lt_of_lt_of_le (show ls.length < 5 by omega) (AX (by decide))
   refine ⟨[some (.ref p), some t.d, some (.ref S.length), some d], [some (.ref p), some t.d, some (.ref S.length), some d], T3.set S.length (.lst ((ls ++ [Ld.mk m1 x2 rs]).map Ld.d)), by simp, ?_, ls ++ [Ld.mk m1 x2 rs], some d, rfl, List.getElem?_set_self (Aw j1), ?_, ?_, i4.snoc (l := Ld.mk m1 x2 rs) ⟨show m1 < t.k by omega, c2, d2, l3⟩ G0 G1 G2, by simp at i5 ⊢; omega⟩
   ·have e3 : atI [D.int t.p, .int t.k, .int t.b, shD t.ho, .int t.h, .int t.l] 1 = some (.int t.k) := by simp
    simp [Tr.d, g1, g2, g3, Aa i1, Aa j1, hz, Ld.d]
   ·obtain ⟨ds', ed, hd⟩ := kk.pen
    exact ⟨ds', by rw [List.getElem?_set_ne (by omega)]; exact ed, hd⟩
   ·refine ⟨Nat.le_trans (i3.trans kk.same).len (by simp), fun m hm hmp => ?_⟩
    rw [List.getElem?_set_ne (by omega)]
    exact (i3.trans kk.same).keep m hm hmp)
 refine ⟨ls, S', ?_, ⟨f3, f2⟩, f4, by simpa using f5⟩
 simp [Gv, MU, e1, e2, en, rn, ef, BH f1]
def CU (x : Ld) : Cl := .lst [.int x.k, .int x.n, shD x.ow]
structure SAt (S : Sto) (s l m : Nat) (as : List Nat) (st : Stt) : Prop where
 root : S[s]? = some (.lst [.ref l, shD st.hold, .ref m])
 lo : S[l]? = some (.lst (as.map .ref))
 nu : S[m]? = some (.lst (st.nums.map .int))
 ld : ∀ (i a : Nat) (x : Ld), as[i]? = some a -> st.loads[i]? = some x -> S[a]? = some (CU x)
 len : as.length = st.loads.length
 nd : (s :: l :: m :: as).Nodup
theorem Xt : ∀ {ls : List Ld} {acc : List D} {o : Option D} {S : Sto}, acc.length + ls.length ≤ 100 -> CJ [] (tNm 0) Bx (ZK (o1 Pl) [(eV 0)]) (ls.map Ld.d) acc [o] S = some (acc ++ (List.range' S.length ls.length).map D.ref, S ++ ls.map CU)
  | [], acc, o, S, h => by rw [List.map_nil, El Al]; simp
  | x :: ls, acc, o, S, h => by
    rw [List.map_cons, HX (E1 := [some x.d]) Al (Nat.lt_of_lt_of_le (show acc.length < 101 by simp at h; omega) (AX (by decide))) (by simp) GS]
    have : ZK (o1 Pl) [(eV 0)] [some x.d] S = some (.ref S.length, S ++ [CU x]) := by simp [Ld.d, CU]
    rw [this, DM, Xt (by simp at h ⊢; omega)]
    simp [List.range'_succ]
theorem getElem?_at {α : Type} {xs : List α} {x : α} {n : Nat} (h : n = xs.length) : (xs ++ [x])[n]? = some x := by subst h; exact List.getElem?_concat_length
theorem Vt {t : Tr} {ls : List Ld} {x : D} (hl : ls.length ≤ 20) : ∃ s l m as S', G4 [.tup [t.d, .tup (ls.map Ld.d), x]] S = some (.ref s, S') /\ SAt S' s l m as ⟨ls, t.ho, []⟩ /\ Ci [] S S' /\ (∀ n ∈ s :: l :: m :: as, S.length ≤ n) := by
 have e := Xt (ls := ls) (acc := []) (o := none) (S := S) (by simp; omega)
 refine ⟨S.length + ls.length + 2, S.length + ls.length, S.length + ls.length + 1, List.range' S.length ls.length, S ++ ls.map CU ++ [.lst ((List.range' S.length ls.length).map D.ref)] ++ [.lst []] ++ [.lst [.ref (S.length + ls.length), shD t.ho, .ref (S.length + ls.length + 1)]], ?_, ⟨?_, ?_, ?_, ?_, ?_, ?_⟩, ?_, ?_⟩
 ·simp [G4, L7, Tr.d, e, shD]
  omega
 ·exact getElem?_at (by simp; omega)
 ·rw [List.getElem?_append_left (by simp), List.getElem?_append_left (by simp)]
  exact getElem?_at (by simp)
 ·rw [List.getElem?_append_left (by simp; omega)]
  exact getElem?_at (by simp; omega)
 ·intro i a y ha hy
  have hi : i < ls.length := (List.getElem?_eq_some_iff.mp hy).1
  have : a = S.length + i := by
   rw [List.getElem?_range' hi] at ha
   simp at ha; omega
  subst this
  rw [List.getElem?_append_left (by simp; omega), List.getElem?_append_left (by simp; omega), List.getElem?_append_left (by simp; omega), List.getElem?_append_right (by omega)]
  have hy' : ls[i]? = some y := hy
  simp [hy']
 ·simp
 ·rw [List.nodup_cons, List.nodup_cons, List.nodup_cons]
  refine ⟨?_, ?_, ?_, List.nodup_range'⟩
  ·simp only [List.mem_cons, List.mem_range'_1]; omega
  ·simp only [List.mem_cons, List.mem_range'_1]; omega
  ·simp only [List.mem_range'_1]; omega
 ·rw [List.append_assoc, List.append_assoc, List.append_assoc]
  exact .app
 ·intro n hn
  simp only [List.mem_cons, List.mem_range'_1] at hn
  omega
end
section
variable {S : Sto} {p : Nat}
@[simp] theorem iJ {rs : List Rat} {S : Sto} : sqD S (shD rs) = some (rs.map aD, []) := nr rfl
@[simp] theorem fB {S : Sto} {r : List D} : dr (S ++ [.lst r]) (.ref S.length) = .own r := BH List.getElem?_concat_length
@[simp] theorem ZL {S : Sto} {r : List D} : Eu (S ++ [.lst r]) S.length = some r := Aa List.getElem?_concat_length
theorem set_same {S : Sto} {q : Nat} {c : Cl} (h : S[q]? = some c) : S.set q c = S := by
 apply List.ext_getElem?
 intro i
 by_cases e : q = i
 ·subst e; rw [List.getElem?_set_self (Aw h), h]
 ·rw [List.getElem?_set_ne e]
theorem P0 {gs : Gd} {t : Tf} {b : Ex} {C : En} {m q : Nat} {h : D -> D} {I : Sto -> Prop} (hg : ∀ S, I S -> gOk gs S) (hI : ∀ S c, I S -> I (S.set q c)) : ∀ {ds acc : List D} {os : En} {S : Sto}, os.length = m -> I S -> S[q]? = some (.lst acc) -> acc.length + ds.length ≤ 1000 ->
    (∀ d ∈ ds, ∀ os S acc, os.length = m -> I S -> S[q]? = some (.lst acc) -> acc.length < sizeLine -> ∃ us us', t d (C ++ os) S = some (C ++ us) /\ b (C ++ us) S = some (.nx, C ++ us', S.set q (.lst (acc ++ [h d]))) /\ us'.length = m) ->
    ∃ os', os'.length = m /\ K4 gs t b ds (C ++ os) S = some (.nx, C ++ os', S.set q (.lst (acc ++ ds.map h)))
  | [], acc, os, S, ho, hS, hq, hz, H => ⟨os, ho, by
      rw [IJ (hg S hS)]
      have : S.set q (.lst (acc ++ List.map h [])) = S := by
        rw [List.map_nil, List.append_nil]
        exact set_same hq
      rw [this]⟩
  | d :: ds, acc, os, S, ho, hS, hq, hz, H => by
    have hl := Aw hq
    obtain ⟨us, us', e1, e2, hu⟩ := H d List.mem_cons_self os S acc ho hS hq (Nat.lt_of_lt_of_le (show acc.length < 1001 by simp at hz; omega) (Nat.le_trans (by decide) (show 1001 ≤ sizeLine by decide)))
    obtain ⟨os', ho', e3⟩ := P0 hg hI (ds := ds) (acc := acc ++ [h d]) (os := us') (S := S.set q (.lst (acc ++ [h d]))) hu (hI S _ hS) (List.getElem?_set_self hl) (by simp at hz ⊢; omega) fun d' hd => H d' (List.mem_cons_of_mem _ hd)
    refine ⟨os', ho', ?_⟩
    rw [C7 (hg S hS), e1, DM, e2, DM, QR, e3, List.set_set]
    simp
def un : D -> Rat
 | .tup [.int n, .int d] => (n : Rat) / (d : Rat)
 | _ => 0
theorem Y6 (r : Rat) : un (aD r) = r := D9 r
def P8 (f : Rat -> Rat -> Rat) : D -> D
 | .tup [a, b] => aD (f (un a) (un b))
 | d => d
theorem OG {f : Rat -> Rat -> Rat} : ∀ {ss os : List Rat}, (MY (ss.map aD) (os.map aD)).map (P8 f) = (List.zipWith f ss os).map aD
  | [], os => by simp [MY]
  | s :: ss, [] => by simp [MY]
  | s :: ss, o :: os => by
    have ih := OG (f := f) (ss := ss) (os := os)
    unfold MY at ih ⊢
    simp only [List.map_cons, List.zip_cons_cons, List.zipWith_cons_cons] at ih ⊢
    rw [ih]
    simp [P8, Y6]
theorem TB {ss os : List Rat} {d : D} (h : d ∈ MY (ss.map aD) (os.map aD)) : ∃ s ∈ ss, ∃ o ∈ os, d = .tup [aD s, aD o] := by
 unfold MY at h
 obtain ⟨⟨a, b⟩, h1, rfl⟩ := List.mem_map.mp h
 have h2 := List.of_mem_zip h1
 obtain ⟨s, hs, rfl⟩ := List.mem_map.mp h2.1
 obtain ⟨o, ho, rfl⟩ := List.mem_map.mp h2.2
 exact ⟨s, hs, o, ho, rfl⟩
theorem Zq : aD 1 = .tup [.int 1, .int 1] := rfl
theorem Tv (n : Int) : aD (n : Rat) = .tup [.int n, .int 1] := by
 unfold aD
 simp
theorem XU {n : Int} {k : Nat} (h : n.natAbs < 2 ^ k) (hk : 1 ≤ k) : Sz k (n : Rat) := by
 unfold Sz
 have : 1 < 2 ^ k := Nat.one_lt_two_pow (by omega)
 simp [h, this]
theorem Xr {k : Nat} (hk : 1 ≤ k) : Sz k (1 : Rat) := by
 have : 1 < 2 ^ k := Nat.one_lt_two_pow (by omega)
 exact ⟨by simpa using this, by simpa using this⟩
theorem QT {x : Rat} {ss os : List Rat} {j i : Nat} (hs : ∀ r ∈ ss, Sz j r) (ho : ∀ r ∈ os, Sz j r) (hx : Sz i x) (hj : 2 * j + 2 * i ≤ 7900) (hl : ss.length ≤ 10) : ∃ S', EL [shD ss, aD x, shD os] S = some (shD (GO x os ss), S') /\ Ci [] S S' := by
 have hq : (S ++ [Cl.lst []])[S.length]? = some (.lst []) := List.getElem?_concat_length
 obtain ⟨os', ho', e⟩ := P0 (gs := []) (t := tTp [(tNm 4), (tNm 5)]) (b := Cp (LJ Lb (eV 3) [(AK Bn [(AK BC [(eV 4), (AK Di [(DF [(eC (.int 1)), (eC (.int 1))]), (eV 1)])]), (AK BC [(eV 5), (eV 1)])])])) (C := [some (shD ss), some (aD x), some (shD os), some (.ref S.length)]) (m := 2) (q := S.length) (h := P8 fun s o => s * (1 - x) + o * x) (I := fun _ => True) (fun _ _ => Al) (fun _ _ _ => trivial)
  (ds := MY (ss.map aD) (os.map aD)) (acc := []) (os := [none, none]) (S := S ++ [Cl.lst []]) rfl trivial hq (by simp [LK]; omega) (by
   intro d hd os0 S0 acc h0 _ hq0 hz
   obtain ⟨o1, o2, rfl⟩ : ∃ o1 o2, os0 = [o1, o2] := by
    match os0, h0 with
    | [a, b], _ => exact ⟨a, b, rfl⟩
   obtain ⟨s, hs', o, ho', rfl⟩ := TB hd
   have l1 := XH (S := S0) (Xr (k := 1) (by decide)) hx (by omega)
   have s1 := (bK (Xr (k := 1) (by decide)) hx)
   have l2 := J2 (S := S0) (hs s hs') s1 (by omega)
   have l3 := J2 (S := S0) (ho o ho') hx (by omega)
   have l4 := NV (S := S0) (NN (hs s hs') s1) (NN (ho o ho') hx) (by omega)
   rw [Zq] at l1
   refine ⟨[some (aD s), some (aD o)], [some (aD s), some (aD o)], by simp, ?_, rfl⟩
   simp [l1, l2, l3, l4, Aa hq0, hz, P8, Y6])
 rw [OG] at e
 refine ⟨(S ++ [Cl.lst []]).set S.length (.lst ((GO x os ss).map aD)), ?_, ?_⟩
 ·have e' : K4 [] (tTp [(tNm 4), (tNm 5)]) (Cp (LJ Lb (eV 3) [(AK Bn [(AK BC [(eV 4), (AK Di [(DF [(eC (.int 1)), (eC (.int 1))]), (eV 1)])]), (AK BC [(eV 5), (eV 1)])])])) (MY (ss.map aD) (os.map aD)) [some (shD ss), some (aD x), some (shD os), some (.ref S.length), none, none] (S ++ [Cl.lst []]) = some (.nx, [some (shD ss), some (aD x), some (shD os), some (.ref S.length)] ++ os', (S ++ [Cl.lst []]).set S.length (.lst ((GO x os ss).map aD))) := by simpa [GO] using e
  simp [EL, L1, e']
  rfl
 ·refine ⟨by simp, fun n hn _ => ?_⟩
  rw [List.getElem?_set_ne (by omega), List.getElem?_append_left hn]
end
section
variable {S : Sto} {p : Nat}
theorem getD_get {α : Type} {xs : List α} {n : Nat} {d : α} (h : n < xs.length) : xs[n]? = some (xs.getD n d) := by
 rw [List.getD_eq_getElem?_getD, List.getElem?_eq_getElem h]
 rfl
theorem getD_mem {α : Type} {xs : List α} {n : Nat} {d : α} (h : n < xs.length) : xs.getD n d ∈ xs := List.mem_of_getElem? (getD_get h)
theorem UZ {ss : List Rat} {n : Nat} (h : n < ss.length) : atI (ss.map aD) (n : Int) = some (aD (ss.getD n 0)) := CV (by rw [List.getElem?_map, getD_get h]; rfl)
theorem W9 {ss : List Rat} {n : Nat} (h : n < ss.length) : ixN (ss.map aD).length (n : Int) = some n := L5 (by simpa using h)
theorem S9 {p q : Nat} {x : Rat} {ss : List Rat} {j i : Nat} (hs : ∀ r ∈ ss, Sz j r) (hx : Sz i x) (hj : 2 * j + i ≤ 7900) (hp : p < ss.length) (hq : q < ss.length) (hpq : p ≠ q) : ∃ S', FN [shD ss, (AV.sell p q x).d] S = some (shD (Fs p q x ss), S') /\ Ci [] S S' := by
 have sp := hs _ (getD_mem (d := 0) hp)
 have sq := hs _ (getD_mem (d := 0) hq)
 have l1 : ∀ S, BC [aD (ss.getD p 0), aD x] S = some (aD (ss.getD p 0 * x), S) := fun S => J2 sp hx (by omega)
 have s1 := NN sp hx
 have l2 : ∀ S, Di [aD (ss.getD p 0), aD (ss.getD p 0 * x)] S = some (aD (ss.getD p 0 - ss.getD p 0 * x), S) := fun S => XH sp s1 (by omega)
 have l3 : ∀ S, Bn [aD (ss.getD q 0), aD (ss.getD p 0 * x)] S = some (aD (ss.getD q 0 + ss.getD p 0 * x), S) := fun S => NV sq s1 (by omega)
 have a1 := UZ hp
 have i1 := W9 hp
 have i2 : ixN (((ss.map aD).set p (aD (ss.getD p 0 - ss.getD p 0 * x))).length) (q : Int) = some q := L5 (by simpa using hq)
 have a2 : atI ((ss.map aD).set p (aD (ss.getD p 0 - ss.getD p 0 * x))) (q : Int) = some (aD (ss.getD q 0)) := CV (by
  rw [List.getElem?_set_ne hpq, List.getElem?_map, getD_get hq]; rfl)
 refine ⟨S ++ [.lst ((Fs p q x ss).map aD)], ?_, .app⟩
 simp only [List.length_set, List.length_map] at i1 i2
 have em : (Fs p q x ss).map aD = ((ss.map aD).set p (aD (ss.getD p 0 - ss.getD p 0 * x))).set q (aD (ss.getD q 0 + ss.getD p 0 * x)) := by rw [Fs, List.map_set, List.map_set]
 unfold shD
 rw [em]
 generalize aD (ss.getD p 0 - ss.getD p 0 * x) = d1 at *
 generalize aD (ss.getD q 0 + ss.getD p 0 * x) = d2 at *
 generalize aD (ss.getD p 0 * x) = d3 at *
 generalize aD (ss.getD p 0) = d4 at *
 generalize aD (ss.getD q 0) = d5 at *
 simp [FN, NU, AV.d, a1, l1, l2, l3, i1, i2, a2]
theorem T5 {x y : Ld} {a b : Nat} {j i : Nat} (ha : S[a]? = some (CU x)) (hb : S[b]? = some (CU y)) (hs : ∀ r ∈ x.ow, Sz j r) (ho : ∀ r ∈ y.ow, Sz j r) (hx : x.n.natAbs < 2 ^ i) (hy : y.n.natAbs < 2 ^ i) (h0 : 0 < x.n + y.n) (h1 : 1 ≤ i) (hj : 2 * j + 4 * i ≤ 7900) (hl : x.ow.length ≤ 10) : ∃ S', GB [.ref a, .ref b] S = some (shD (B5 x.n y.n x.ow y.ow), S') /\ Ci [] S S' := by
 have la := Aw ha
 have lb := Aw hb
 have hq : (S ++ [Cl.lst []])[S.length]? = some (.lst []) := List.getElem?_concat_length
 have ha' : (S ++ [Cl.lst []])[a]? = some (CU x) := by rw [List.getElem?_append_left la]; exact ha
 have hb' : (S ++ [Cl.lst []])[b]? = some (CU y) := by rw [List.getElem?_append_left lb]; exact hb
 obtain ⟨os', ho', e⟩ := P0 (gs := []) (t := tTp [(tNm 3), (tNm 4)]) (b := Am (Bs 5 (AK Bn [(AK BC [(DF [(eOp (o2 wIx) [(eV 0), (eC (.int 1))]), (eC (.int 1))]), (eV 3)]), (AK BC [(DF [(eOp (o2 wIx) [(eV 1), (eC (.int 1))]), (eC (.int 1))]), (eV 4)])]))
  (Cp (LJ Lb (eV 2) [(AK BC [(eV 5), (AK B2 [(eC (.int 1)), (eOp (o2 Dq) [(eOp (o2 wIx) [(eV 0), (eC (.int 1))]), (eOp (o2 wIx) [(eV 1), (eC (.int 1))])])])])]))) (C := [some (.ref a), some (.ref b), some (.ref S.length)]) (m := 3) (q := S.length) (h := P8 fun s o => (s * x.n + o * y.n) / (x.n + y.n : Int)) (I := fun S' => S'[a]? = some (CU x) /\ S'[b]? = some (CU y)) (fun _ _ => Al) (fun S' c h => ⟨by rw [List.getElem?_set_ne (by omega)]; exact h.1, by rw [List.getElem?_set_ne (by omega)]; exact h.2⟩)
  (ds := MY (x.ow.map aD) (y.ow.map aD)) (acc := []) (os := [none, none, none]) (S := S ++ [Cl.lst []]) rfl ⟨ha', hb'⟩ hq (by simp [LK]; omega) (by
   intro d hd os0 S0 acc h0' hI hq0 hz
   obtain ⟨o1, o2, o3, rfl⟩ : ∃ o1 o2 o3, os0 = [o1, o2, o3] := by
    match os0, h0' with
    | [a, b, c], _ => exact ⟨a, b, c, rfl⟩
   obtain ⟨s, hs', o, ho', rfl⟩ := TB hd
   have d1 := BH hI.1
   have d2 := BH hI.2
   have z1 := XU hx h1
   have z2 := XU hy h1
   have l1 := J2 (S := S0) z1 (hs s hs') (by omega)
   have l2 := J2 (S := S0) z2 (ho o ho') (by omega)
   have s1 := NN z1 (hs s hs')
   have s2 := NN z2 (ho o ho')
   have l3 := NV (S := S0) s1 s2 (by omega)
   have b1 := II hx hy
   have l4 := Wy (S := S0) (t := 1) h0 (DL b1 (by omega))
   have s4 : Sz (i + 1) (((1 : Int) : Rat) / ((x.n + y.n : Int) : Rat)) := MO h0 (show (1 : Int).natAbs < 2 ^ (i + 1) from Nat.one_lt_two_pow (by omega)) b1
   have l5 := J2 (S := S0) (Z1 s1 s2) s4 (by omega)
   rw [Tv] at l1 l2
   refine ⟨[some (aD s), some (aD o), o3], [some (aD s), some (aD o), some (aD (x.n * s + y.n * o))], by simp, ?_, rfl⟩
   have ev : (((x.n : Rat) * s + (y.n : Rat) * o) * (((1 : Int) : Rat) / ((x.n + y.n : Int) : Rat))) = (s * x.n + o * y.n) / (x.n + y.n : Int) := by
    push_cast
    grind
   rw [ev] at l5
   have lf : (P8 fun s o => (s * x.n + o * y.n) / (x.n + y.n : Int)) (.tup [aD s, aD o]) = aD ((s * x.n + o * y.n) / (x.n + y.n : Int)) := by simp only [P8, Y6]
   rw [lf]
   generalize aD ((s * x.n + o * y.n) / (x.n + y.n : Int)) = e5 at *
   generalize aD (((1 : Int) : Rat) / ((x.n + y.n : Int) : Rat)) = e4 at *
   generalize aD (x.n * s + y.n * o) = e3 at *
   simp [d1, d2, CU, l1, l2, l3, l4, l5, Aa hq0, hz])
 rw [OG] at e
 refine ⟨(S ++ [Cl.lst []]).set S.length (.lst ((B5 x.n y.n x.ow y.ow).map aD)), ?_, ?_⟩
 ·have e' := e
  simp only [List.cons_append, List.nil_append] at e'
  have d1 := BH ha'
  have d2 := BH hb'
  change K4 _ _ _ _ _ _ = some (_, _, List.set _ _ (Cl.lst (List.map aD (B5 x.n y.n x.ow y.ow)))) at e'
  generalize B5 x.n y.n x.ow y.ow = rs at *
  simp [GB, Kq, d1, d2, e', shD]
 ·refine ⟨by simp, fun n hn _ => ?_⟩
  rw [List.getElem?_set_ne (by omega), List.getElem?_append_left hn]
end
section
variable {S : Sto} {p : Nat}
theorem Cr {α : Type} {gs : Gd} {t : Tf} {f : Ev} {C : En} {m : Nat} {e g : α -> D} {S : Sto} (hg : gOk gs S) : ∀ {xs : List α} {acc : List D} {os : En}, os.length = m -> acc.length + xs.length ≤ sizeLine ->
    (∀ x ∈ xs, ∀ os, os.length = m -> ∃ us, us.length = m /\ t (e x) (C ++ os) S = some (C ++ us) /\ f (C ++ us) S = some (g x, S)) ->
    CJ gs t Bx f (xs.map e) acc (C ++ os) S = some (acc ++ xs.map g, S)
  | [], acc, os, ho, hz, h => by rw [List.map_nil, El hg]; simp
  | x :: xs, acc, os, ho, hz, h => by
    obtain ⟨us, hu, e1, e2⟩ := h x List.mem_cons_self os ho
    rw [List.map_cons, HX hg (by simp at hz; omega) e1 GS, e2, DM]
    rw [Cr hg hu (by simp at hz ⊢; omega) fun x' hx => h x' (List.mem_cons_of_mem _ hx)]
    simp
theorem Dr {α : Type} {gs : Gd} {t : Tf} {c f : Ev} {C : En} {m : Nat} {e g : α -> D} {b : α -> Bool} {S : Sto} (hg : gOk gs S) : ∀ {xs : List α} {acc : List D} {os : En}, os.length = m -> acc.length + xs.length ≤ sizeLine ->
    (∀ x ∈ xs, ∀ os, os.length = m -> ∃ us, us.length = m /\ t (e x) (C ++ os) S = some (C ++ us) /\ c (C ++ us) S = some (.bl (b x), S) /\ f (C ++ us) S = some (g x, S)) ->
    CJ gs t c f (xs.map e) acc (C ++ os) S = some (acc ++ (xs.filter b).map g, S)
  | [], acc, os, ho, hz, h => by rw [List.map_nil, El hg]; simp
  | x :: xs, acc, os, ho, hz, h => by
    obtain ⟨us, hu, e1, e2, e3⟩ := h x List.mem_cons_self os ho
    cases hb : b x with
    | true =>
      rw [hb] at e2
      rw [List.map_cons, HX hg (by simp at hz; omega) e1 e2, e3, DM, Dr hg hu (by simp at hz ⊢; omega) fun d' hd => h d' (List.mem_cons_of_mem _ hd)]
      simp [hb]
    | false =>
      rw [hb] at e2
      rw [List.map_cons, Iw hg (by simp at hz; omega) e1 e2, Dr hg hu (by simp at hz ⊢; omega) fun d' hd => h d' (List.mem_cons_of_mem _ hd)]
      simp [hb]
theorem VG {as : List Nat} {ls : List Ld} (h : as.length = ls.length) : as.map D.ref = (as.zip ls).map fun z => D.ref z.1 := by
 have : as = (as.zip ls).map Prod.fst := (List.map_fst_zip (by omega)).symm
 conv => lhs; rw [this]
 rw [List.map_map]; rfl
theorem YO {β : Type} {as : List Nat} {ls : List Ld} (h : as.length = ls.length) (g : Ld -> β) : ls.map g = (as.zip ls).map fun z => g z.2 := by
 have : ls = (as.zip ls).map Prod.snd := (List.map_snd_zip (by omega)).symm
 conv => lhs; rw [this]
 rw [List.map_map]; rfl
section
variable {s l m : Nat} {as : List Nat} {st : Stt}
theorem SAt.zmem (h : SAt S s l m as st) {z : Nat × Ld} (hz : z ∈ as.zip st.loads) : S[z.1]? = some (CU z.2) := by
 obtain ⟨i, hi⟩ := List.mem_iff_getElem?.mp hz
 have := List.getElem?_zip_eq_some.mp hi
 exact h.ld i z.1 z.2 this.1 this.2
theorem SAt.at (h : SAt S s l m as st) {i : Nat} (hi : i < st.loads.length) : ∃ a, as[i]? = some a /\ S[a]? = some (CU (AR st.loads i)) /\ atI (as.map D.ref) (i : Int) = some (.ref a) := by
 have h1 : i < as.length := by rw [h.len]; exact hi
 refine ⟨as[i], List.getElem?_eq_getElem h1, h.ld i _ _ (List.getElem?_eq_getElem h1) (FD hi), CV (by rw [List.getElem?_map, List.getElem?_eq_getElem h1]; rfl)⟩
theorem SAt.guard (h : SAt S s l m as st) : gOk [(l, as.map D.ref)] S := by
 intro g hg
 simp only [List.mem_cons, List.not_mem_nil, or_false] at hg
 subst hg
 exact Aa h.lo
end
theorem UR {M : Int} (hM : 0 ≤ M) : ∀ {xs : List Int}, (∀ x ∈ xs, 0 ≤ x /\ x ≤ M) -> 0 ≤ xs.sum /\ xs.sum ≤ xs.length * M
  | [], _ => by simp
  | x :: xs, h => by
    have h1 := h x List.mem_cons_self
    have h2 := UR hM fun y hy => h y (List.mem_cons_of_mem _ hy)
    simp only [List.sum_cons, List.length_cons]
    refine ⟨by omega, ?_⟩
    have : ((xs.length + 1 : Nat) : Int) * M = xs.length * M + M := by push_cast; grind
    omega
theorem NY : ∀ {xs : List Int} {y : Int}, (∀ x ∈ xs, 0 ≤ x) -> y ∈ xs -> y ≤ xs.sum
  | x :: xs, y, h, hy => by
    have h1 := h x List.mem_cons_self
    have h2 : 0 ≤ xs.sum := by
      clear hy
      induction xs with
      | nil => simp
      | cons z zs ih =>
        have := h z (by simp)
        have := ih fun w hw => h w (by simp at hw ⊢; rcases hw with hw | hw <;> simp [hw])
        simp only [List.sum_cons]; omega
    simp only [List.sum_cons]
    rcases List.mem_cons.mp hy with e | e
    · omega
    · have := NY (fun z hz => h z (List.mem_cons_of_mem _ hz)) e
      omega
section
variable {t : Tr} {k : Nat} {st : Stt} {ws : List Int} {n : Int} {l : Nat}
theorem Lk {i : Nat} (hw : ∀ w ∈ ws, 1 ≤ w /\ w ≤ 99) (hi : i < ws.length) : 1 ≤ ws.getD i 0 /\ ws.getD i 0 ≤ 99 := hw _ (getD_mem hi)
theorem Qy {i : Nat} (hi : i < ws.length) : atI (ws.map D.int) (i : Int) = some (.int (ws.getD i 0)) := CV (by rw [List.getElem?_map, getD_get hi]; rfl)
theorem Nf (hi : ws.length = k + 1) : atI (ws.map D.int) (-1 : Int) = some (.int (ws.getD k 0)) := by
 have ix : ixN (ws.map D.int).length (-1) = some k := by
  rw [List.length_map, hi]
  unfold ixN
  simp
  omega
 unfold atI
 rw [ix]
 show (ws.map D.int)[k]? = _
 rw [List.getElem?_map, getD_get (d := (0 : Int)) (by omega)]
 rfl
theorem H0 (ht : JE t) (h : Es t k st) (hk : k ≤ 20) (hl : ws.length = t.k + 1) (hw : ∀ w ∈ ws, 1 ≤ w /\ w ≤ 99) : 0 < DN t st.loads ws /\ DN t st.loads ws < 2 ^ (145 + k) := by
 obtain ⟨t1, t2, t3, t4, t5, t6⟩ := ht
 have hP : (0 : Int) ≤ 2 ^ (131 + k) := Int.le_of_lt (Int.pow_pos (by decide))
 have hs := UR (M := 2 ^ (131 + k) * 99) (by omega) (xs := st.loads.map fun l => l.n * ws.getD l.k 0) (by
  intro x hx
  obtain ⟨y, hy, rfl⟩ := List.mem_map.mp hx
  have h1 := h.pcs y hy
  have h2 := Lk hw (i := y.k) (by have := h.kind y hy; omega)
  refine ⟨Int.mul_nonneg h1.1 (by omega), Int.mul_le_mul (by omega) h2.2 (by omega) hP⟩)
 have hb := Lk hw (i := t.k) (by omega)
 have hlen := h.len
 rw [List.length_map] at hs
 have h3 : (st.loads.length : Int) * (2 ^ (131 + k) * 99) ≤ 24 * (2 ^ (131 + k) * 99) := Int.mul_le_mul_of_nonneg_right (by omega) (by omega)
 have h4 : (1 : Int) ≤ t.b * ws.getD t.k 0 := by
  have : 0 < (t.b : Int) * ws.getD t.k 0 := Int.mul_pos (by omega) (by omega)
  omega
 have h5 : t.b * ws.getD t.k 0 ≤ 20 * 99 := Int.mul_le_mul (by omega) hb.2 (by omega) (by decide)
 have h6 : (2 : Int) ^ (145 + k) = 2 ^ (131 + k) * 16384 := by rw [show 145 + k = (131 + k) + 14 by omega, Int.pow_add]; rfl
 have h7 : (1 : Int) ≤ 2 ^ (131 + k) := by have : (0 : Int) < 2 ^ (131 + k) := Int.pow_pos (by decide); omega
 have h7' : (2 : Int) ^ 11 ≤ 2 ^ (131 + k) := by
  have : (2 ^ 11 : Nat) ≤ 2 ^ (131 + k) := Nat.pow_le_pow_right (by decide) (by omega)
  exact_mod_cast this
 unfold DN
 rw [h6]
 generalize (2 : Int) ^ (131 + k) = P at *
 omega
theorem SX (ht : JE t) (h : Es t k st) (hl : ws.length = t.k + 1) (hw : ∀ w ∈ ws, 1 ≤ w /\ w ≤ 99) (hi : l < st.loads.length) (h1 : 1 ≤ n) (h2 : n ≤ (AR st.loads l).n) : 0 < n * ws.getD (AR st.loads l).k 0 /\ n * ws.getD (AR st.loads l).k 0 < DN t st.loads ws := by
 obtain ⟨t1, t2, t3, t4, t5, t6⟩ := ht
 have hw1 := Lk hw (i := (AR st.loads l).k) (by have := h.kind _ (AW hi); omega)
 have hb := Lk hw (i := t.k) (by omega)
 have h4 : (1 : Int) ≤ t.b * ws.getD t.k 0 := by
  have : 0 < (t.b : Int) * ws.getD t.k 0 := Int.mul_pos (by omega) (by omega)
  omega
 have h5 := NY (xs := st.loads.map fun l => l.n * ws.getD l.k 0) (y := (AR st.loads l).n * ws.getD (AR st.loads l).k 0) (by
  intro x hx
  obtain ⟨y, hy, rfl⟩ := List.mem_map.mp hx
  have h1 := h.pcs y hy
  have h2 := Lk hw (i := y.k) (by have := h.kind y hy; omega)
  exact Int.mul_nonneg h1.1 (by omega)) (List.mem_map.mpr ⟨_, AW hi, rfl⟩)
 have h6 : n * ws.getD (AR st.loads l).k 0 ≤ (AR st.loads l).n * ws.getD (AR st.loads l).k 0 := Int.mul_le_mul_of_nonneg_right h2 (by omega)
 refine ⟨Int.mul_pos (by omega) (by omega), ?_⟩
 unfold DN
 omega
theorem LH (hi : l < st.loads.length) : JA t st.loads l n ws = ((n * ws.getD (AR st.loads l).k 0 : Int) : Rat) / (DN t st.loads ws : Rat) := by
 unfold JA
 rw [FD hi]
 rfl
theorem Dw {x : Int} {j : Nat} (h0 : 0 ≤ x) (h1 : x < 2 ^ j) : x.natAbs < 2 ^ j := by
 have : ((x.natAbs : Nat) : Int) < ((2 ^ j : Nat) : Int) := by
  rw [Int.natAbs_of_nonneg h0]; push_cast; exact h1
 exact_mod_cast this
theorem TJ (ht : JE t) (h : Es t k st) (hk : k ≤ 20) (hl : ws.length = t.k + 1) (hw : ∀ w ∈ ws, 1 ≤ w /\ w ≤ 99) (hi : l < st.loads.length) (h1 : 1 ≤ n) (h2 : n ≤ (AR st.loads l).n) : Sz (145 + k) (JA t st.loads l n ws) := by
 have a := H0 ht h hk hl hw
 have b := SX ht h hl hw hi h1 h2
 rw [LH hi]
 exact MO a.1 (Dw (by omega) (by omega)) (Dw (by omega) a.2)
theorem Y5 {s r m : Nat} {as : List Nat} (hS : SAt S s r m as st) (ht : JE t) (h : Es t k st) (hk : k ≤ 20) (hl : ws.length = t.k + 1) (hw : ∀ w ∈ ws, 1 ≤ w /\ w ≤ 99) (hi : l < st.loads.length) (h1 : 1 ≤ n) (h2 : n ≤ (AR st.loads l).n) : IK [t.d, .ref r, (AV.thr l n ws).d] S = some (aD (JA t st.loads l n ws), S) := by
 have a := H0 ht h hk hl hw
 obtain ⟨x, x1, x2, x3⟩ := hS.at hi
 have hlen := h.len
 have e := Cr (gs := [(r, as.map D.ref)]) (t := tTp [(tNm 1), (tNm 2), (tNm 3)]) (f := eOp (o2 B8) [(eV 2), (eOp (o2 wIx) [(eV 0), (eV 1)])]) (C := [some (.tup (ws.map D.int))]) (m := 3) (e := fun z : Nat × Ld => D.ref z.1) (g := fun z => D.int (z.2.n * ws.getD z.2.k 0)) hS.guard (xs := as.zip st.loads) (acc := []) (os := [none, none, none]) rfl (Nat.le_trans (show _ ≤ 24 by simp; omega) (AX (by decide))) (by
  intro z hz os ho
  obtain ⟨q1, q2, q3, rfl⟩ : ∃ q1 q2 q3, os = [q1, q2, q3] := by
   match os, ho with
   | [a, b, c], _ => exact ⟨a, b, c, rfl⟩
  have c1 := hS.zmem hz
  have hm : z.2 ∈ st.loads := (List.of_mem_zip (a := z.1) (b := z.2) hz).2
  have hk := h.kind _ hm
  have w1 := Qy (ws := ws) (i := z.2.k) (by omega)
  have w2 := Lk hw (i := z.2.k) (by omega)
  have m1 : Dp z.2.n (ws.getD z.2.k 0) = true := mulR (by omega) (by omega)
  generalize ws.getD z.2.k 0 = wz at *
  refine ⟨[some (.int z.2.k), some (.int z.2.n), some (shD z.2.ow)], rfl, ?_, ?_⟩
  ·simp [Aa c1, CU]
  ·simp [w1, m1])
 rw [← VG hS.len, ← YO hS.len (fun x => D.int (x.n * ws.getD x.k 0))] at e
 have e' := e
 simp only [List.cons_append, List.nil_append] at e'
 rw [LH hi]
 have es : K1 (st.loads.map fun x => D.int (x.n * ws.getD x.k 0)) = some (st.loads.map fun x => x.n * ws.getD x.k 0) := by
  have := FY (st.loads.map fun x => x.n * ws.getD x.k 0)
  rwa [List.map_map] at this
 have w1 := Qy (ws := ws) (i := (AR st.loads l).k) (by have := h.kind _ (AW hi); omega)
 have w3 := Lk hw (i := (AR st.loads l).k) (by have := h.kind _ (AW hi); omega)
 have w2 := Nf hl
 have w4 := Lk hw (i := t.k) (by omega)
 have m1 : Dp n (ws.getD (AR st.loads l).k 0) = true := mulR (by omega) (by omega)
 have m2 : Dp (t.b : Int) (ws.getD t.k 0) = true := mulR (by omega) (by omega)
 have l1 := Wy (S := S) (t := n * ws.getD (AR st.loads l).k 0) a.1 (DL (Dw (by omega) a.2) (by omega))
 have e2 : DN t st.loads ws = (st.loads.map fun x => x.n * ws.getD x.k 0).sum + t.b * ws.getD t.k 0 := rfl
 rw [e2] at l1 ⊢
 generalize aD (((n * ws.getD (AR st.loads l).k 0 : Int) : Rat) / (((st.loads.map fun x => x.n * ws.getD x.k 0).sum + t.b * ws.getD t.k 0 : Int) : Rat)) = R at *
 generalize (st.loads.map fun x => x.n * ws.getD x.k 0) = es' at *
 generalize (st.loads.map fun x => D.int (x.n * ws.getD x.k 0)) = es2 at *
 generalize ws.getD (AR st.loads l).k 0 = wa at *
 generalize ws.getD t.k 0 = wb at *
 have dx := BH x2
 have dl := BH hS.lo
 simp [IK, NM, AV.d, Tr.d, Gw hS.lo, e', es, w2, m2, dl, x3, dx, CU, w1, m1, l1]
theorem Pf {G B : Nat} (ht : JE t) (h : Es t k st) (hk : k ≤ 20) (hl : ws.length = t.k + 1) (hw : ∀ w ∈ ws, 1 ≤ w /\ w ≤ 99) (hi : l < st.loads.length) (h1 : 1 ≤ n) (h2 : n ≤ (AR st.loads l).n) {os ss : List Rat} (ho : ∀ r ∈ os, Ok G B r) (hs : ∀ r ∈ ss, Ok G B r) : ∀ r ∈ GO (JA t st.loads l n ws) os ss, Ok (G * (DN t st.loads ws).toNat) (B * (DN t st.loads ws).toNat) r := by
 have a := H0 ht h hk hl hw
 have b := SX ht h hl hw hi h1 h2
 intro r hr
 unfold GO at hr
 rw [List.mem_iff_getElem?] at hr
 obtain ⟨i, hi'⟩ := hr
 rw [List.getElem?_zipWith_eq_some] at hi'
 obtain ⟨x, y, hx, hy, rfl⟩ := hi'
 rw [LH hi]
 generalize n * ws.getD (AR st.loads l).k 0 = c at *
 generalize DN t st.loads ws = W at *
 have := Ok.mix (a := (W - c).toNat) (b := c.toNat) (t := W.toNat) (hs x (List.mem_of_getElem? hx)) (ho y (List.mem_of_getElem? hy)) (by omega) (by omega)
 have e1 : (((W - c).toNat : Nat) : Rat) = (W : Rat) - (c : Rat) := by
  have : (((W - c).toNat : Nat) : Int) = W - c := Int.toNat_of_nonneg (by omega)
  have : ((((W - c).toNat : Nat) : Int) : Rat) = ((W - c : Int) : Rat) := by rw [this]
  push_cast at this
  exact this
 have e2 : ((c.toNat : Nat) : Rat) = (c : Rat) := by
  have : ((c.toNat : Nat) : Int) = c := Int.toNat_of_nonneg (by omega)
  have : (((c.toNat : Nat) : Int) : Rat) = (c : Rat) := by rw [this]
  exact this
 have e3 : ((W.toNat : Nat) : Rat) = (W : Rat) := by
  have : ((W.toNat : Nat) : Int) = W := Int.toNat_of_nonneg (by omega)
  have : (((W.toNat : Nat) : Int) : Rat) = (W : Rat) := by rw [this]
  exact this
 rw [e1, e2, e3] at this
 have ne : (W : Rat) ≠ 0 := by
  intro z
  have := Rat.intCast_eq_zero_iff.mp z
  omega
 have ev : (x * ((W : Rat) - (c : Rat)) + y * (c : Rat)) / (W : Rat) = x * (1 - (c : Rat) / (W : Rat)) + y * ((c : Rat) / (W : Rat)) := by grind
 rw [ev] at this
 exact this
end
end
section
variable {S : Sto}
theorem Aq {x y : Str} (h : PyData.strOk x = true) (g : PyData.strOk y = true) : Dd (.str x) (.str y) = true := by
 unfold Dd
 show (PyData.strOk x && PyData.strOk y && _) = true
 rw [h, g]
 rfl
theorem C6 : PyData.strOk (Str.ofString "bring") = true := by decide +kernel
theorem Ey : PyData.strOk (Str.ofString "pool") = true := by decide +kernel
theorem Et : PyData.strOk (Str.ofString "swap") = true := by decide +kernel
theorem DB : PyData.strOk (Str.ofString "trade") = true := by decide +kernel
theorem EU : PyData.strOk (Str.ofString "spoil") = true := by decide +kernel
theorem Cs : PyData.strOk (Str.ofString "throw") = true := by decide +kernel
theorem Dt : PyData.strOk (Str.ofString "sell") = true := by decide +kernel
@[simp] theorem Um : Dd (.str (Str.ofString "bring")) (.str (Str.ofString "bring")) = true := Aq C6 C6
@[simp] theorem U4 : deq (.str (Str.ofString "bring")) (.str (Str.ofString "bring")) = true := nr rfl
@[simp] theorem Vm : Dd (.str (Str.ofString "bring")) (.str (Str.ofString "pool")) = true := Aq C6 Ey
@[simp] theorem VP : deq (.str (Str.ofString "bring")) (.str (Str.ofString "pool")) = false := nr rfl
@[simp] theorem VY : Dd (.str (Str.ofString "bring")) (.str (Str.ofString "swap")) = true := Aq C6 Et
@[simp] theorem Wc : deq (.str (Str.ofString "bring")) (.str (Str.ofString "swap")) = false := nr rfl
@[simp] theorem U7 : Dd (.str (Str.ofString "bring")) (.str (Str.ofString "trade")) = true := Aq C6 DB
@[simp] theorem U5 : deq (.str (Str.ofString "bring")) (.str (Str.ofString "trade")) = false := nr rfl
@[simp] theorem U8 : Dd (.str (Str.ofString "bring")) (.str (Str.ofString "throw")) = true := Aq C6 Cs
@[simp] theorem U2 : deq (.str (Str.ofString "bring")) (.str (Str.ofString "throw")) = false := nr rfl
@[simp] theorem Vr : Dd (.str (Str.ofString "bring")) (.str (Str.ofString "sell")) = true := Aq C6 Dt
@[simp] theorem WQ : deq (.str (Str.ofString "bring")) (.str (Str.ofString "sell")) = false := nr rfl
@[simp] theorem Vb : wIn false (.val (.str "bring")) (.val (.tup [.str "spoil", .str "throw"])) = some (.val (.bl false)) := nr rfl
@[simp] theorem Vk : Dd (.str (Str.ofString "pool")) (.str (Str.ofString "bring")) = true := Aq Ey C6
@[simp] theorem WY : deq (.str (Str.ofString "pool")) (.str (Str.ofString "bring")) = false := nr rfl
@[simp] theorem XT : Dd (.str (Str.ofString "pool")) (.str (Str.ofString "pool")) = true := Aq Ey Ey
@[simp] theorem XM : deq (.str (Str.ofString "pool")) (.str (Str.ofString "pool")) = true := nr rfl
@[simp] theorem We : Dd (.str (Str.ofString "pool")) (.str (Str.ofString "trade")) = true := Aq Ey DB
@[simp] theorem VJ : deq (.str (Str.ofString "pool")) (.str (Str.ofString "trade")) = false := nr rfl
@[simp] theorem WE : Dd (.str (Str.ofString "pool")) (.str (Str.ofString "throw")) = true := Aq Ey Cs
@[simp] theorem VR : deq (.str (Str.ofString "pool")) (.str (Str.ofString "throw")) = false := nr rfl
@[simp] theorem Xg : Dd (.str (Str.ofString "pool")) (.str (Str.ofString "sell")) = true := Aq Ey Dt
@[simp] theorem Xb : deq (.str (Str.ofString "pool")) (.str (Str.ofString "sell")) = false := nr rfl
@[simp] theorem gS : wIn false (.val (.str "pool")) (.val Cf) = some (.val (.bl true)) := nr rfl
@[simp] theorem VM : Dd (.str (Str.ofString "swap")) (.str (Str.ofString "bring")) = true := Aq Et C6
@[simp] theorem WD : deq (.str (Str.ofString "swap")) (.str (Str.ofString "bring")) = false := nr rfl
@[simp] theorem Xc : Dd (.str (Str.ofString "swap")) (.str (Str.ofString "pool")) = true := Aq Et Ey
@[simp] theorem XE : deq (.str (Str.ofString "swap")) (.str (Str.ofString "pool")) = false := nr rfl
@[simp] theorem Xm : Dd (.str (Str.ofString "swap")) (.str (Str.ofString "swap")) = true := Aq Et Et
@[simp] theorem Xv : deq (.str (Str.ofString "swap")) (.str (Str.ofString "swap")) = true := nr rfl
@[simp] theorem WC : Dd (.str (Str.ofString "swap")) (.str (Str.ofString "trade")) = true := Aq Et DB
@[simp] theorem WV : deq (.str (Str.ofString "swap")) (.str (Str.ofString "trade")) = false := nr rfl
@[simp] theorem Wi : Dd (.str (Str.ofString "swap")) (.str (Str.ofString "throw")) = true := Aq Et Cs
@[simp] theorem Wa : deq (.str (Str.ofString "swap")) (.str (Str.ofString "throw")) = false := nr rfl
@[simp] theorem Xf : Dd (.str (Str.ofString "swap")) (.str (Str.ofString "sell")) = true := Aq Et Dt
@[simp] theorem Xn : deq (.str (Str.ofString "swap")) (.str (Str.ofString "sell")) = false := nr rfl
@[simp] theorem YV : wIn false (.val (.str "swap")) (.val (.tup [.str "swap", .str "trade"])) = some (.val (.bl true)) := nr rfl
@[simp] theorem fZ : wIn false (.val (.str "swap")) (.val Cf) = some (.val (.bl true)) := nr rfl
@[simp] theorem Uz : Dd (.str (Str.ofString "trade")) (.str (Str.ofString "bring")) = true := Aq DB C6
@[simp] theorem U3 : deq (.str (Str.ofString "trade")) (.str (Str.ofString "bring")) = false := nr rfl
@[simp] theorem Wb : Dd (.str (Str.ofString "trade")) (.str (Str.ofString "pool")) = true := Aq DB Ey
@[simp] theorem WH : deq (.str (Str.ofString "trade")) (.str (Str.ofString "pool")) = false := nr rfl
@[simp] theorem Va : Dd (.str (Str.ofString "trade")) (.str (Str.ofString "swap")) = true := Aq DB Et
@[simp] theorem V9 : deq (.str (Str.ofString "trade")) (.str (Str.ofString "swap")) = false := nr rfl
@[simp] theorem Uv : Dd (.str (Str.ofString "trade")) (.str (Str.ofString "trade")) = true := Aq DB DB
@[simp] theorem Ut : deq (.str (Str.ofString "trade")) (.str (Str.ofString "trade")) = true := nr rfl
@[simp] theorem Uq : Dd (.str (Str.ofString "trade")) (.str (Str.ofString "throw")) = true := Aq DB Cs
@[simp] theorem Uk : deq (.str (Str.ofString "trade")) (.str (Str.ofString "throw")) = false := nr rfl
@[simp] theorem WN : Dd (.str (Str.ofString "trade")) (.str (Str.ofString "sell")) = true := Aq DB Dt
@[simp] theorem VO : deq (.str (Str.ofString "trade")) (.str (Str.ofString "sell")) = false := nr rfl
@[simp] theorem XA : wIn false (.val (.str "trade")) (.val (.tup [.str "swap", .str "trade"])) = some (.val (.bl true)) := nr rfl
@[simp] theorem eT : wIn false (.val (.str "trade")) (.val Cf) = some (.val (.bl true)) := nr rfl
@[simp] theorem U1 : Dd (.str (Str.ofString "spoil")) (.str (Str.ofString "bring")) = true := Aq EU C6
@[simp] theorem VA : deq (.str (Str.ofString "spoil")) (.str (Str.ofString "bring")) = false := nr rfl
@[simp] theorem Vv : Dd (.str (Str.ofString "spoil")) (.str (Str.ofString "pool")) = true := Aq EU Ey
@[simp] theorem Ww : deq (.str (Str.ofString "spoil")) (.str (Str.ofString "pool")) = false := nr rfl
@[simp] theorem WU : Dd (.str (Str.ofString "spoil")) (.str (Str.ofString "swap")) = true := Aq EU Et
@[simp] theorem Vi : deq (.str (Str.ofString "spoil")) (.str (Str.ofString "swap")) = false := nr rfl
@[simp] theorem Ul : Dd (.str (Str.ofString "spoil")) (.str (Str.ofString "trade")) = true := Aq EU DB
@[simp] theorem Uw : deq (.str (Str.ofString "spoil")) (.str (Str.ofString "trade")) = false := nr rfl
@[simp] theorem U6 : Dd (.str (Str.ofString "spoil")) (.str (Str.ofString "spoil")) = true := Aq EU EU
@[simp] theorem Ui : deq (.str (Str.ofString "spoil")) (.str (Str.ofString "spoil")) = true := nr rfl
@[simp] theorem Ur : Dd (.str (Str.ofString "spoil")) (.str (Str.ofString "throw")) = true := Aq EU Cs
@[simp] theorem Ux : deq (.str (Str.ofString "spoil")) (.str (Str.ofString "throw")) = false := nr rfl
@[simp] theorem WW : Dd (.str (Str.ofString "spoil")) (.str (Str.ofString "sell")) = true := Aq EU Dt
@[simp] theorem Vn : deq (.str (Str.ofString "spoil")) (.str (Str.ofString "sell")) = false := nr rfl
@[simp] theorem Xi : wIn false (.val (.str "spoil")) (.val (.tup [.str "swap", .str "trade"])) = some (.val (.bl false)) := nr rfl
@[simp] theorem V6 : wIn false (.val (.str "spoil")) (.val (.tup [.str "spoil", .str "throw"])) = some (.val (.bl true)) := nr rfl
@[simp] theorem dE : wIn false (.val (.str "spoil")) (.val Cf) = some (.val (.bl false)) := nr rfl
@[simp] theorem Up : Dd (.str (Str.ofString "throw")) (.str (Str.ofString "bring")) = true := Aq Cs C6
@[simp] theorem U0 : deq (.str (Str.ofString "throw")) (.str (Str.ofString "bring")) = false := nr rfl
@[simp] theorem Wz : Dd (.str (Str.ofString "throw")) (.str (Str.ofString "pool")) = true := Aq Cs Ey
@[simp] theorem Wt : deq (.str (Str.ofString "throw")) (.str (Str.ofString "pool")) = false := nr rfl
@[simp] theorem Vd : Dd (.str (Str.ofString "throw")) (.str (Str.ofString "swap")) = true := Aq Cs Et
@[simp] theorem Vl : deq (.str (Str.ofString "throw")) (.str (Str.ofString "swap")) = false := nr rfl
@[simp] theorem Uj : Dd (.str (Str.ofString "throw")) (.str (Str.ofString "trade")) = true := Aq Cs DB
@[simp] theorem Uo : deq (.str (Str.ofString "throw")) (.str (Str.ofString "trade")) = false := nr rfl
@[simp] theorem U9 : Dd (.str (Str.ofString "throw")) (.str (Str.ofString "spoil")) = true := Aq Cs EU
@[simp] theorem Uy : deq (.str (Str.ofString "throw")) (.str (Str.ofString "spoil")) = false := nr rfl
@[simp] theorem Uu : Dd (.str (Str.ofString "throw")) (.str (Str.ofString "throw")) = true := Aq Cs Cs
@[simp] theorem Us : deq (.str (Str.ofString "throw")) (.str (Str.ofString "throw")) = true := nr rfl
@[simp] theorem WL : Dd (.str (Str.ofString "throw")) (.str (Str.ofString "sell")) = true := Aq Cs Dt
@[simp] theorem VX : deq (.str (Str.ofString "throw")) (.str (Str.ofString "sell")) = false := nr rfl
@[simp] theorem XO : wIn false (.val (.str "throw")) (.val (.tup [.str "swap", .str "trade"])) = some (.val (.bl false)) := nr rfl
@[simp] theorem Wl : wIn false (.val (.str "throw")) (.val (.tup [.str "spoil", .str "throw"])) = some (.val (.bl true)) := nr rfl
@[simp] theorem da : wIn false (.val (.str "throw")) (.val Cf) = some (.val (.bl false)) := nr rfl
@[simp] theorem VN : Dd (.str (Str.ofString "sell")) (.str (Str.ofString "bring")) = true := Aq Dt C6
@[simp] theorem WO : deq (.str (Str.ofString "sell")) (.str (Str.ofString "bring")) = false := nr rfl
@[simp] theorem XX : Dd (.str (Str.ofString "sell")) (.str (Str.ofString "pool")) = true := Aq Dt Ey
@[simp] theorem XC : deq (.str (Str.ofString "sell")) (.str (Str.ofString "pool")) = false := nr rfl
@[simp] theorem XQ : Dd (.str (Str.ofString "sell")) (.str (Str.ofString "swap")) = true := Aq Dt Et
@[simp] theorem Xp : deq (.str (Str.ofString "sell")) (.str (Str.ofString "swap")) = false := nr rfl
@[simp] theorem Vf : Dd (.str (Str.ofString "sell")) (.str (Str.ofString "trade")) = true := Aq Dt DB
@[simp] theorem W7 : deq (.str (Str.ofString "sell")) (.str (Str.ofString "trade")) = false := nr rfl
@[simp] theorem WB : Dd (.str (Str.ofString "sell")) (.str (Str.ofString "spoil")) = true := Aq Dt EU
@[simp] theorem Wx : deq (.str (Str.ofString "sell")) (.str (Str.ofString "spoil")) = false := nr rfl
@[simp] theorem WT : Dd (.str (Str.ofString "sell")) (.str (Str.ofString "throw")) = true := Aq Dt Cs
@[simp] theorem V3 : deq (.str (Str.ofString "sell")) (.str (Str.ofString "throw")) = false := nr rfl
@[simp] theorem Xs : Dd (.str (Str.ofString "sell")) (.str (Str.ofString "sell")) = true := Aq Dt Dt
@[simp] theorem XB : deq (.str (Str.ofString "sell")) (.str (Str.ofString "sell")) = true := nr rfl
@[simp] theorem ZA : wIn false (.val (.str "sell")) (.val (.tup [.str "swap", .str "trade"])) = some (.val (.bl false)) := nr rfl
@[simp] theorem Xa : wIn false (.val (.str "sell")) (.val (.tup [.str "spoil", .str "throw"])) = some (.val (.bl false)) := nr rfl
@[simp] theorem gR : wIn false (.val (.str "sell")) (.val Cf) = some (.val (.bl false)) := nr rfl
@[simp] theorem Zw : dr S Cf = .val Cf := nr rfl
section
variable {a b c d e f : D} {r : List D}
@[simp] theorem cX : Jv [a, b, c, d, e] (some (-4)) none = [b, c, d, e] := nr rfl
@[simp] theorem cL : Jv [a, b, c, d, e, f] (some (-4)) none = [c, d, e, f] := nr rfl
@[simp] theorem dn : Jv [a, b, c, d] (some 1) none = [b, c, d] := nr rfl
@[simp] theorem bU : Jv [a, b, c, d, e] (some 1) (some 2) = [b] := nr rfl
@[simp] theorem cW : Jv [a, b, c, d, e, f] (some 1) (some 2) = [b] := nr rfl
@[simp] theorem bT {ds zs : List D} : cB S ds [.tup zs] = if ds.length + zs.length ≤ sizeLine then some (.non, ds ++ zs) else none := nr rfl
end
end
section
variable {S S' : Sto} {s l m : Nat} {as : List Nat} {st : Stt}
theorem SAt.same (h : SAt S s l m as st) (g : Ci A S S') (hA : ∀ n ∈ A, n ∉ s :: l :: m :: as) : SAt S' s l m as st where
 root := g.get h.root fun z => hA _ z (by simp)
 lo := g.get h.lo fun z => hA _ z (by simp)
 nu := g.get h.nu fun z => hA _ z (by simp)
 ld := fun i a x ha hx => g.get (h.ld i a x ha hx) fun z => hA _ z (by simp [List.mem_of_getElem? ha])
 len := h.len
 nd := h.nd
theorem SAt.same0 (h : SAt S s l m as st) (g : Ci [] S S') : SAt S' s l m as st := h.same g fun _ z => (nomatch z)
theorem SAt.ne (h : SAt S s l m as st) : s ≠ l /\ s ≠ m /\ l ≠ m /\ s ∉ as /\ l ∉ as /\ m ∉ as /\ as.Nodup := by
 have := h.nd
 simp only [List.nodup_cons, List.mem_cons, not_or] at this
 obtain ⟨⟨a, b, c⟩, ⟨d, e⟩, f, g⟩ := this
 exact ⟨a, b, d, c, e, f, g⟩
theorem SAt.setld (h : SAt S s l m as st) {i a : Nat} {y : Ld} (ha : as[i]? = some a) : SAt (S.set a (CU y)) s l m as { st with loads := st.loads.set i y } := by
 obtain ⟨n1, n2, n3, n4, n5, n6, n7⟩ := h.ne
 have ma := List.mem_of_getElem? ha
 have q1 : a ≠ s := fun e => n4 (e ▸ ma)
 have q2 : a ≠ l := fun e => n5 (e ▸ ma)
 have q3 : a ≠ m := fun e => n6 (e ▸ ma)
 have hi : i < as.length := (List.getElem?_eq_some_iff.mp ha).1
 have hi' : i < st.loads.length := by rw [← h.len]; exact hi
 refine ⟨by rw [List.getElem?_set_ne q1]; exact h.root, by rw [List.getElem?_set_ne q2]; exact h.lo, by rw [List.getElem?_set_ne q3]; exact h.nu, ?_, by simp [h.len], h.nd⟩
 intro j b x hb hx
 by_cases e : i = j
 ·subst e
  rw [ha] at hb
  cases hb
  have hx' : (st.loads.set i y)[i]? = some x := hx
  rw [List.getElem?_set_self hi'] at hx'
  cases hx'
  have hl : a < S.length := Aw (h.ld i a _ ha (List.getElem?_eq_getElem hi'))
  exact List.getElem?_set_self hl
 ·have hx' : (st.loads.set i y)[j]? = some x := hx
  rw [List.getElem?_set_ne e] at hx'
  have : a ≠ b := by
   intro z
   subst z
   exact e ((List.getElem?_inj hi n7).mp (ha.trans hb.symm))
  rw [List.getElem?_set_ne this]
  exact h.ld j b x hb hx'
theorem SAt.lts (h : SAt S s l m as st) : ∀ n ∈ s :: l :: m :: as, n < S.length := by
 intro n hn
 simp only [List.mem_cons] at hn
 rcases hn with rfl | rfl | rfl | hn
 ·exact Aw h.root
 ·exact Aw h.lo
 ·exact Aw h.nu
 ·obtain ⟨i, hi⟩ := List.mem_iff_getElem?.mp hn
  have : i < st.loads.length := by rw [← h.len]; exact (List.getElem?_eq_some_iff.mp hi).1
  exact Aw (h.ld i n _ hi (List.getElem?_eq_getElem this))
theorem SAt.app (h : SAt S s l m as st) (y : Ld) : SAt ((S ++ [CU y]).set l (.lst (as.map D.ref ++ [.ref S.length]))) s l m (as ++ [S.length]) { st with loads := st.loads ++ [y] } := by
 obtain ⟨n1, n2, n3, n4, n5, n6, n7⟩ := h.ne
 have lt := h.lts
 have ls := lt s (by simp); have ll := lt l (by simp); have lm := lt m (by simp)
 have la : ∀ a ∈ as, a < S.length := fun a ha => lt a (by simp [ha])
 refine ⟨?_, ?_, ?_, ?_, by simp [h.len], ?_⟩
 ·rw [List.getElem?_set_ne (Ne.symm n1), List.getElem?_append_left ls]; exact h.root
 ·rw [List.getElem?_set_self (by simp; omega)]; simp
 ·rw [List.getElem?_set_ne n3, List.getElem?_append_left lm]; exact h.nu
 ·intro i a x ha hx
  by_cases e : i < as.length
  ·rw [List.getElem?_append_left e] at ha
   have hx' : (st.loads ++ [y])[i]? = some x := hx
   rw [List.getElem?_append_left (by rw [← h.len]; exact e)] at hx'
   have ma := List.mem_of_getElem? ha
   rw [List.getElem?_set_ne (show l ≠ a by rintro rfl; exact n5 ma), List.getElem?_append_left (la a ma)]
   exact h.ld i a x ha hx'
  ·have hx' : (st.loads ++ [y])[i]? = some x := hx
   have : i = as.length := by
    have := (List.getElem?_eq_some_iff.mp ha).1
    simp at this; omega
   subst this
   rw [List.getElem?_concat_length] at ha
   cases ha
   rw [h.len, List.getElem?_concat_length] at hx'
   cases hx'
   rw [List.getElem?_set_ne (by omega), List.getElem?_concat_length]
 ·have : (s :: l :: m :: (as ++ [S.length])) = (s :: l :: m :: as) ++ [S.length] := by simp
  rw [this, List.nodup_append]
  refine ⟨h.nd, by simp, ?_⟩
  intro a ha b hb e
  simp only [List.mem_cons, List.not_mem_nil, or_false] at hb
  have := lt a ha
  omega
theorem SAt.hold (h : SAt S s l m as st) (rs : List Rat) : SAt (S.set s (.lst [.ref l, shD rs, .ref m])) s l m as { st with hold := rs } := by
 obtain ⟨n1, n2, n3, n4, n5, n6, n7⟩ := h.ne
 refine ⟨List.getElem?_set_self (h.lts s (by simp)), by rw [List.getElem?_set_ne n1]; exact h.lo, by rw [List.getElem?_set_ne n2]; exact h.nu, ?_, h.len, h.nd⟩
 intro i a x ha hx
 rw [List.getElem?_set_ne (show s ≠ a by rintro rfl; exact n4 (List.mem_of_getElem? ha))]
 exact h.ld i a x ha hx
theorem SAt.nums (h : SAt S s l m as st) (us : List Int) : SAt (S.set m (.lst (us.map D.int))) s l m as { st with nums := us } := by
 obtain ⟨n1, n2, n3, n4, n5, n6, n7⟩ := h.ne
 refine ⟨by rw [List.getElem?_set_ne (Ne.symm n2)]; exact h.root, by rw [List.getElem?_set_ne (Ne.symm n3)]; exact h.lo, List.getElem?_set_self (h.lts m (by simp)), ?_, h.len, h.nd⟩
 intro i a x ha hx
 rw [List.getElem?_set_ne (show m ≠ a by rintro rfl; exact n6 (List.mem_of_getElem? ha))]
 exact h.ld i a x ha hx
theorem Oo {f : Ld -> Ld} {body : Ex} {C : En} {i8 : Nat} {o0 : Option D} (h : SAt S s l m as st) (hi : C.length = i8)
  (hb : ∀ (S' : Sto) (a : Nat) (x : Ld), x ∈ st.loads -> S'[a]? = some (CU x) -> ∃ S2, body (C ++ [some (.ref a)]) S' = some (.nx, C ++ [some (.ref a)], S2.set a (CU (f x))) /\ Ci [] S' S2) :
  ∃ o S', K4 [(l, as.map D.ref)] (tNm i8) body (as.map D.ref) (C ++ [o0]) S = some (.nx, C ++ [o], S') /\ SAt S' s l m as { st with loads := st.loads.map f } /\ Ci as S S' := by
 obtain ⟨E', S', e, i, o, i1, i2, rfl, i3, i4⟩ := EN (gs := [(l, as.map D.ref)]) (t := tNm i8) (b := body)
  (I := fun ds E S' => ∃ (i : Nat) (o : Option D), ds = (as.drop i).map D.ref /\ i ≤ as.length /\ E = C ++ [o] /\ SAt S' s l m as { st with loads := (st.loads.take i).map f ++ st.loads.drop i } /\ Ci as S S')
  (fun ds E S' hI => by obtain ⟨i, o, _, _, _, h1, _⟩ := hI; exact h1.guard) (ds := as.map D.ref) (E := C ++ [o0]) (S := S)
  ⟨0, o0, by simp, Nat.zero_le _, rfl, by simpa using h, .refl⟩ (by
   rintro d ds E S1 ⟨i, o, i1, i2, rfl, i3, i4⟩
   have hlt : i < as.length := by
    rcases Nat.lt_or_ge i as.length with w | w
    ·exact w
    ·rw [List.drop_eq_nil_of_le w] at i1; cases i1
   rw [List.drop_eq_getElem_cons hlt, List.map_cons] at i1
   injection i1 with e1 e2
   subst e1 e2
   have hl2 : i < st.loads.length := by rw [← h.len]; exact hlt
   have ha := List.getElem?_eq_getElem hlt
   have hx : ((st.loads.take i).map f ++ st.loads.drop i)[i]? = some st.loads[i] := by
    rw [List.getElem?_append_right (by simp; omega)]
    simp [Nat.min_eq_left (Nat.le_of_lt hl2)]
   obtain ⟨S2, e3, g3⟩ := hb S1 as[i] st.loads[i] (List.getElem_mem hl2) (i3.ld i _ _ ha hx)
   have k := (i3.same0 g3).setld (y := f st.loads[i]) ha
   refine ⟨C ++ [some (.ref as[i])], C ++ [some (.ref as[i])], S2.set as[i] (CU (f st.loads[i])), ?_, e3, i + 1, some (.ref as[i]), rfl, hlt, rfl, ?_, ?_⟩
   ·rw [QH]
    congr 1
    subst hi
    rw [List.set_append_right _ _ (Nat.le_refl _)]
    simp
   ·have : ((st.loads.take i).map f ++ st.loads.drop i).set i (f st.loads[i]) = (st.loads.take (i + 1)).map f ++ st.loads.drop (i + 1) := by
     rw [List.set_append_right _ _ (by simp; omega)]
     have e0 : i - ((st.loads.take i).map f).length = 0 := by simp; omega
     rw [e0, List.drop_eq_getElem_cons hl2, List.set_cons_zero, List.take_succ_eq_append_getElem hl2, List.map_append]
     simp
    rw [← this]
    exact k
   ·exact (i4.trans (g3.mono fun _ z => (nomatch z))).trans (.set (List.getElem_mem hlt)))
 refine ⟨o, S', e, ?_, i4⟩
 have hz : i = as.length := by
  have := congrArg List.length i1
  simp at this
  omega
 have : (st.loads.take i).map f ++ st.loads.drop i = st.loads.map f := by
  rw [hz, h.len]; simp
 rw [this] at i3
 exact i3
end
section
variable {S S' : Sto} {s l m : Nat} {as : List Nat} {st : Stt} {t : Tr} {k : Nat}
theorem YD {i : Nat} {n : Int} {j : Nat} (hi : i < st.loads.length) (h : ∀ x ∈ st.loads, ∀ r ∈ x.ow, Sz j r) : ∀ x ∈ less st.loads i n, ∀ r ∈ x.ow, Sz j r := by
 intro x hx
 rcases IE hx hi with h1 | h1
 ·exact h x h1
 ·rw [h1]; exact h (AR st.loads i) (AW hi)
theorem Tn {i : Nat} {n : Int} {j : Nat} (hi : i < st.loads.length) (h : ∀ x ∈ st.loads, x.ow.length = j) : ∀ x ∈ less st.loads i n, x.ow.length = j := by
 intro x hx
 rcases IE hx hi with h1 | h1
 ·exact h x h1
 ·rw [h1]; exact h (AR st.loads i) (AW hi)
theorem Wh (hS : SAt S s l m as st) (ht : JE t) (h : Es t k st) (hk : k ≤ 16) {i : Nat} {n : Int} {ws : List Int} (hc : Can t st (.thr i n ws)) : ∃ S', FJ [t.d, .ref s, (AV.thr i n ws).d] S = some (.non, S') /\ SAt S' s l m as (step t st (.thr i n ws)) /\ Ci (s :: l :: m :: as) S S' := by
 obtain ⟨hi, h1, h2, hl, hw⟩ := hc
 have cO := Y5 hS ht h (by omega) hl hw hi h1 h2
 have cz := TJ ht h (by omega) hl hw hi h1 h2
 have sz := h.sz
 obtain ⟨a, a1, a2, a3⟩ := hS.at hi
 have hS1 := hS.setld (y := ⟨(AR st.loads i).k, (AR st.loads i).n - n, (AR st.loads i).ow⟩) a1
 have o1 := sz.1 _ (AW hi)
 have tp := ht.2.1
 have hdef : step t st (.thr i n ws) = { st with loads := (less st.loads i n).map fun x => { x with ow := GO (JA t st.loads i n ws) (AR st.loads i).ow x.ow }, hold := GO (JA t st.loads i n ws) (AR st.loads i).ow st.hold } := rfl
 rw [hdef]
 generalize hX : JA t st.loads i n ws = X at *
 obtain ⟨o, S2, f1, f2, f3⟩ := Oo (f := fun x => { x with ow := GO X (AR st.loads i).ow x.ow }) (body := MW (AK EL [(eOp (o2 wIx) [(eV 8), (eC (.int 2))]), (eV 6), (eV 7)]) (eV 8) (eC (.int 2))) (C := [some t.d, some (.ref s), some (AV.thr i n ws).d, some (.ref l), some (shD st.hold), some (.ref m), some (aD X), some (shD (AR st.loads i).ow)]) (i8 := 8) (o0 := none) hS1 rfl (by
  intro S' b x hx hb
  obtain ⟨S2, e2, g2⟩ := QT (S := S') (x := X) (ss := x.ow) (os := (AR st.loads i).ow) (j := 30 + 170 * k) (i := 145 + k) (YD (n := n) hi sz.1 x hx) o1 cz (by omega) (by rw [Tn (n := n) hi h.own x hx]; omega)
  have hb2 := g2.get hb (by simp)
  refine ⟨S2, ?_, g2⟩
  simp [BH hb, CU, e2, Aa hb2])
 obtain ⟨S3, e3, g3⟩ := QT (S := S2) (x := X) (ss := st.hold) (os := (AR st.loads i).ow) (j := 30 + 170 * k) (i := 145 + k) sz.2 o1 cz (by omega) (by rw [h.hold]; omega)
 have f4 := (f2.same0 g3)
 have rt := f4.root
 refine ⟨S3.set s (.lst [.ref l, shD (GO X (AR st.loads i).ow st.hold), .ref m]), ?_, f4.hold _, ?_⟩
 ·have f1' := f1
  simp only [List.cons_append, List.nil_append] at f1'
  have rt' : Eu S3 s = some [.ref l, shD st.hold, .ref m] := Aa rt
  have r0 := Aa hS.root
  have lo := BH hS.lo
  have xx := BH a2
  have c2 := Aa a2
  have sq1 := Gw hS1.lo
  simp only [CU] at f1' sq1 c2 xx
  simp only [AV.d] at f1' cO ⊢
  simp [FJ, KR, r0, cO, lo, a3, xx, c2, sq1, f1', e3, rt']
 ·have q1 : Ci (s :: l :: m :: as) S (S.set a (CU ⟨(AR st.loads i).k, (AR st.loads i).n - n, (AR st.loads i).ow⟩)) := .set (by simp [List.mem_of_getElem? a1])
  exact ((q1.trans (f3.mono fun n hn => by simp [hn])).trans (g3.mono fun _ z => (nomatch z))).trans (.set (by simp))
theorem UL (hS : SAt S s l m as st) (ht : JE t) (h : Es t k st) (hk : k ≤ 16) {p q : Nat} {x : Rat} (hc : Can t st (.sell p q x)) : ∃ S', FJ [t.d, .ref s, (AV.sell p q x).d] S = some (.non, S') /\ SAt S' s l m as (step t st (.sell p q x)) /\ Ci (s :: l :: m :: as) S S' := by
 obtain ⟨hpq, hp, hq, x1, x2, x3⟩ := hc
 have sz := h.sz
 have hx : Sz 4 x := by
  refine ⟨?_, by omega⟩
  show x.num.natAbs < 16
  omega
 have hdef : step t st (.sell p q x) = { st with loads := st.loads.map fun y => { y with ow := Fs p q x y.ow }, hold := Fs p q x st.hold } := rfl
 rw [hdef]
 obtain ⟨o, S2, f1, f2, f3⟩ := Oo (f := fun y => { y with ow := Fs p q x y.ow }) (body := MW (AK FN [(eOp (o2 wIx) [(eV 8), (eC (.int 2))]), (eV 2)]) (eV 8) (eC (.int 2))) (C := [some t.d, some (.ref s), some (AV.sell p q x).d, some (.ref l), some (shD st.hold), some (.ref m), none, none]) (i8 := 8) (o0 := none) hS rfl (by
  intro S' b y hy hb
  obtain ⟨S2, e2, g2⟩ := S9 (S := S') (p := p) (q := q) (x := x) (ss := y.ow) (j := 30 + 170 * k) (i := 4) (sz.1 y hy) hx (by omega) (by rw [h.own y hy]; exact hp) (by rw [h.own y hy]; exact hq) hpq
  have hb2 := g2.get hb (by simp)
  refine ⟨S2, ?_, g2⟩
  simp [BH hb, CU, e2, Aa hb2])
 obtain ⟨S3, e3, g3⟩ := S9 (S := S2) (p := p) (q := q) (x := x) (ss := st.hold) (j := 30 + 170 * k) (i := 4) sz.2 hx (by omega) (by rw [h.hold]; exact hp) (by rw [h.hold]; exact hq) hpq
 have f4 := (f2.same0 g3)
 have rt := f4.root
 refine ⟨S3.set s (.lst [.ref l, shD (Fs p q x st.hold), .ref m]), ?_, f4.hold _, ?_⟩
 ·have f1' := f1
  simp only [List.cons_append, List.nil_append] at f1'
  have rt' : Eu S3 s = some [.ref l, shD st.hold, .ref m] := Aa rt
  have r0 := Aa hS.root
  have sq1 := Gw hS.lo
  simp only [AV.d] at f1' e3 ⊢
  simp [FJ, KR, r0, sq1, f1', e3, rt']
 ·exact ((f3.mono fun n hn => by simp [hn]).trans (g3.mono fun _ z => (nomatch z))).trans (.set (by simp))
end
section
variable {S S' : Sto} {s l m : Nat} {as : List Nat} {st : Stt} {t : Tr} {k : Nat}
theorem N7 {ls : List Ld} {l : Nat} {n : Int} : less ls l n = ls.set l ⟨(AR ls l).k, (AR ls l).n - n, (AR ls l).ow⟩ := rfl
theorem RD {P p : Nat} {cond : Int} {C : En} {dd : D} {f : Ev} (hP : P ≤ 10) (hf : ∀ (i : Nat), f [some dd, some (.int i)] S = some (aD (if i = p then 1 else 0), S)) : CJ [] (tNm 1) Bx f (GA 0 P) [] [some dd, none] S = some ((Pc P p).map aD, S) := by
 have := Cr (gs := []) (t := tNm 1) (f := f) (C := [some dd]) (m := 1) (e := fun i : Nat => D.int (0 + (i : Int))) (g := fun i => aD (if i = p then 1 else 0)) (S := S) Al (xs := List.range P) (acc := []) (os := [none]) rfl (Nat.le_trans (show _ ≤ 10 by simp; omega) (AX (by decide))) (by
  intro i _ os ho
  obtain ⟨o, rfl⟩ : ∃ o, os = [o] := by
   match os, ho with
   | [a], _ => exact ⟨a, rfl⟩
  refine ⟨[some (.int i)], rfl, by simp, hf i⟩)
 simp only [List.cons_append, List.nil_append] at this
 rw [Pc, List.map_map]
 exact this
theorem V4 (hS : SAt S s l m as st) (ht : JE t) (h : Es t k st) (hk : k ≤ 16) {p kd : Nat} {n : Int} (hc : Can t st (.bring p kd n)) : ∃ S' as', B7 [t.d, .ref s, (AV.bring p kd n).d] S = some (.non, S') /\ SAt S' s l m as' (step t st (.bring p kd n)) /\ Ci (s :: l :: m :: as) S S' /\ ∀ n ∈ as', n ∈ as ∨ S.length ≤ n := by
 have tp := ht.2.1
 have e := RD (S := S) (P := t.p) (p := p) (cond := 0) (C := []) (dd := (AV.bring p kd n).d) (f := DF [(eOp (o1 Ye) [(eOp (o2 wEq) [(eV 1), (eOp (o2 wIx) [(eV 0), (eC (.int 1))])])]), (eC (.int 1))]) (by omega) (by
  intro i
  by_cases hi : i = p
  ·subst hi; simp [AV.d]; rfl
  ·have : ((i : Int) == (p : Int)) = false := by simp; omega
   simp [AV.d, this, hi]; rfl)
 have rn : IW (t.p : Int) = true := DR (by omega) (by omega)
 have hz : as.length < sizeLine := Nat.lt_of_lt_of_le (show as.length < 50 by rw [hS.len]; have := h.len; omega) (AX (by decide))
 refine ⟨_, _, ?_, hS.app ⟨kd, n, Pc t.p p⟩, ?_, ?_⟩
 ·have r0 := Aa hS.root
  have c0 := Aa hS.lo
  have c1 : Eu (S ++ [CU ⟨kd, n, Pc t.p p⟩]) l = some (as.map D.ref) := Aa (by rw [List.getElem?_append_left (Aw hS.lo)]; exact hS.lo)
  simp only [CU] at c1 ⊢
  simp only [AV.d] at e ⊢
  simp [B7, Fx, r0, Tr.d, rn, e, c0, shD] at c1 ⊢
  simp [c1, hz]
 ·exact Ci.app.trans (.set (by simp))
 ·intro n hn
  rcases List.mem_append.mp hn with w | w
  ·exact .inl w
  ·simp at w; exact .inr (by omega)
theorem Vp (hS : SAt S s l m as st) (ht : JE t) (h : Es t k st) (hk : k ≤ 16) {i : Nat} {n : Int} (hc : Can t st (.spoil i n)) : ∃ S' as', B7 [t.d, .ref s, (AV.spoil i n).d] S = some (.non, S') /\ SAt S' s l m as' (step t st (.spoil i n)) /\ Ci (s :: l :: m :: as) S S' /\ ∀ n ∈ as', n ∈ as ∨ S.length ≤ n := by
 obtain ⟨hi, h1, h2⟩ := hc
 obtain ⟨a, a1, a2, a3⟩ := hS.at hi
 refine ⟨_, as, ?_, hS.setld (y := ⟨(AR st.loads i).k, (AR st.loads i).n - n, (AR st.loads i).ow⟩) a1, .set (by simp [List.mem_of_getElem? a1]), fun n hn => .inl hn⟩
 have r0 := Aa hS.root
 have lo := BH hS.lo
 have xx := BH a2
 have c2 := Aa a2
 simp only [CU] at c2 xx ⊢
 simp [B7, Fx, AV.d, r0, lo, a3, xx, c2]
theorem bD (hS : SAt S s l m as st) (ht : JE t) (h : Es t k st) (hk : k ≤ 16) {i : Nat} {n : Int} {ws : List Int} (hc : Can t st (.thr i n ws)) : ∃ S' as', B7 [t.d, .ref s, (AV.thr i n ws).d] S = some (.non, S') /\ SAt S' s l m as' (step t st (.thr i n ws)) /\ Ci (s :: l :: m :: as) S S' /\ ∀ n ∈ as', n ∈ as ∨ S.length ≤ n := by
 obtain ⟨S', e, g1, g2⟩ := Wh hS ht h hk hc
 refine ⟨S', as, ?_, g1, g2, fun n hn => .inl hn⟩
 have r0 := Aa hS.root
 simp only [AV.d] at e ⊢
 simp [B7, Fx, r0, e]
theorem Yn (hS : SAt S s l m as st) (ht : JE t) (h : Es t k st) (hk : k ≤ 16) {p q : Nat} {x : Rat} (hc : Can t st (.sell p q x)) : ∃ S' as', B7 [t.d, .ref s, (AV.sell p q x).d] S = some (.non, S') /\ SAt S' s l m as' (step t st (.sell p q x)) /\ Ci (s :: l :: m :: as) S S' /\ ∀ n ∈ as', n ∈ as ∨ S.length ≤ n := by
 obtain ⟨S', e, g1, g2⟩ := UL hS ht h hk hc
 refine ⟨S', as, ?_, g1, g2, fun n hn => .inl hn⟩
 have r0 := Aa hS.root
 simp only [AV.d] at e ⊢
 simp [B7, Fx, r0, e]
theorem ZG (hS : SAt S s l m as st) (ht : JE t) (h : Es t k st) (hk : k ≤ 16) {i kd : Nat} {g n : Int} (hc : Can t st (.swap i g kd n)) : ∃ S' as', B7 [t.d, .ref s, (AV.swap i g kd n).d] S = some (.non, S') /\ SAt S' s l m as' (step t st (.swap i g kd n)) /\ Ci (s :: l :: m :: as) S S' /\ ∀ n ∈ as', n ∈ as ∨ S.length ≤ n := by
 obtain ⟨hi, h1, h2, h3, h4, h5, h6⟩ := hc
 obtain ⟨a, a1, a2, a3⟩ := hS.at hi
 have hS1 := hS.setld (y := ⟨(AR st.loads i).k, (AR st.loads i).n - g, (AR st.loads i).ow⟩) a1
 have hS2 := hS1.app ⟨kd, n, (AR st.loads i).ow⟩
 have hz : as.length < sizeLine := Nat.lt_of_lt_of_le (show as.length < 50 by rw [hS.len]; have := h.len; omega) (AX (by decide))
 have hz2 : st.nums.length ≤ sizeLine := Nat.le_trans (show _ ≤ 20 by have := h.nm; omega) (AX (by decide))
 refine ⟨_, _, ?_, hS2, ?_, ?_⟩
 ·have r0 := Aa hS.root
  have lo := BH hS.lo
  have xx := BH a2
  have c2 := Aa a2
  have lo1 := BH hS1.lo
  have co1 := Aa hS1.lo
  have x1 := BH (List.getElem?_set_self (a := CU ⟨(AR st.loads i).k, (AR st.loads i).n - g, (AR st.loads i).ow⟩) (Aw a2))
  have c4 : Eu ((S.set a (CU ⟨(AR st.loads i).k, (AR st.loads i).n - g, (AR st.loads i).ow⟩)) ++ [CU ⟨kd, n, (AR st.loads i).ow⟩]) l = some (as.map D.ref) := Aa (by rw [List.getElem?_append_left (Aw hS1.lo)]; exact hS1.lo)
  have nu := hS2.nu
  have c5 := Aa nu
  have st5 : ∀ {T : Sto}, T[m]? = some (.lst (st.nums.map D.int)) -> T.set m (.lst (st.nums.map D.int)) = T := fun h => set_same h
  have st6 := st5 nu
  simp only [CU] at c2 xx lo1 co1 x1 c4 c5 st6 ⊢
  have hz' : (as.map D.ref).length < sizeLine := by simpa using hz
  generalize (as.map D.ref) = refs at *
  simp [B7, Fx, AV.d, r0, lo, a3, xx, c2, lo1, x1, co1] at c4 c5 st6 ⊢
  simp [c4, hz', c5, hz2, st6]
 ·exact ((Ci.set (by simp [List.mem_of_getElem? a1])).trans .app).trans (.set (by simp))
 ·intro n hn
  rcases List.mem_append.mp hn with w | w
  ·exact .inl w
  ·simp at w; exact .inr (by omega)
theorem VQ (hS : SAt S s l m as st) (ht : JE t) (h : Es t k st) (hk : k ≤ 16) {i kd : Nat} {u g n : Int} (hc : Can t st (.trade u i g kd n)) : ∃ S' as', B7 [t.d, .ref s, (AV.trade u i g kd n).d] S = some (.non, S') /\ SAt S' s l m as' (step t st (.trade u i g kd n)) /\ Ci (s :: l :: m :: as) S S' /\ ∀ n ∈ as', n ∈ as ∨ S.length ≤ n := by
 obtain ⟨hi, h1, h2, h3, h4, h5, h6, h7, h8⟩ := hc
 obtain ⟨a, a1, a2, a3⟩ := hS.at hi
 have hS1 := hS.setld (y := ⟨(AR st.loads i).k, (AR st.loads i).n - g, (AR st.loads i).ow⟩) a1
 have hS2 := hS1.app ⟨kd, n, (AR st.loads i).ow⟩
 have hz : as.length < sizeLine := Nat.lt_of_lt_of_le (show as.length < 50 by rw [hS.len]; have := h.len; omega) (AX (by decide))
 have hz2 : st.nums.length + 1 ≤ sizeLine := Nat.le_trans (show _ ≤ 20 by have := h.nm; omega) (AX (by decide))
 refine ⟨_, _, ?_, hS2.nums (st.nums ++ [u]), ?_, ?_⟩
 ·have r0 := Aa hS.root
  have lo := BH hS.lo
  have xx := BH a2
  have c2 := Aa a2
  have lo1 := BH hS1.lo
  have co1 := Aa hS1.lo
  have x1 := BH (List.getElem?_set_self (a := CU ⟨(AR st.loads i).k, (AR st.loads i).n - g, (AR st.loads i).ow⟩) (Aw a2))
  have c4 : Eu ((S.set a (CU ⟨(AR st.loads i).k, (AR st.loads i).n - g, (AR st.loads i).ow⟩)) ++ [CU ⟨kd, n, (AR st.loads i).ow⟩]) l = some (as.map D.ref) := Aa (by rw [List.getElem?_append_left (Aw hS1.lo)]; exact hS1.lo)
  have nu := hS2.nu
  have c5 := Aa nu
  simp only [CU] at c2 xx lo1 co1 x1 c4 c5 ⊢
  have hz' : (as.map D.ref).length < sizeLine := by simpa using hz
  generalize (as.map D.ref) = refs at *
  simp [B7, Fx, AV.d, r0, lo, a3, xx, c2, lo1, x1, co1] at c4 c5 ⊢
  simp [c4, hz', c5, hz2]
 ·exact (((Ci.set (by simp [List.mem_of_getElem? a1])).trans .app).trans (.set (by simp))).trans (.set (by simp))
 ·intro n hn
  rcases List.mem_append.mp hn with w | w
  ·exact .inl w
  ·simp at w; exact .inr (by omega)
theorem Ys (hS : SAt S s l m as st) (ht : JE t) (h : Es t k st) (hk : k ≤ 16) {i j : Nat} (hc : Can t st (.pool i j)) : ∃ S' as', B7 [t.d, .ref s, (AV.pool i j).d] S = some (.non, S') /\ SAt S' s l m as' (step t st (.pool i j)) /\ Ci (s :: l :: m :: as) S S' /\ ∀ n ∈ as', n ∈ as ∨ S.length ≤ n := by
 obtain ⟨hij, hi, hj, h1, h2, h3⟩ := hc
 obtain ⟨a, a1, a2, a3⟩ := hS.at hi
 obtain ⟨b, b1, b2, b3⟩ := hS.at hj
 have sz := h.sz
 have pi := h.pcs _ (AW hi)
 have pj := h.pcs _ (AW hj)
 obtain ⟨S1, e1, g1⟩ := T5 (S := S) (x := AR st.loads i) (y := AR st.loads j) (j := 30 + 170 * k) (i := 131 + k) a2 b2 (sz.1 _ (AW hi)) (sz.1 _ (AW hj)) (Dw pi.1 pi.2) (Dw pj.1 pj.2) (by omega) (by omega) (by omega) (by rw [h.own _ (AW hi)]; have := ht.2.1; omega)
 have hS1 := hS.same0 g1
 have hab : a ≠ b := by
  rintro rfl
  exact hij ((List.getElem?_inj (List.getElem?_eq_some_iff.mp a1).1 hS.ne.2.2.2.2.2.2).mp (a1.trans b1.symm))
 have hS2 := hS1.app ⟨(AR st.loads i).k, (AR st.loads i).n + (AR st.loads j).n, B5 (AR st.loads i).n (AR st.loads j).n (AR st.loads i).ow (AR st.loads j).ow⟩
 have ai : i < as.length := (List.getElem?_eq_some_iff.mp a1).1
 have bj : j < as.length := (List.getElem?_eq_some_iff.mp b1).1
 have a1' : (as ++ [S1.length])[i]? = some a := by rw [List.getElem?_append_left ai]; exact a1
 have b1' : (as ++ [S1.length])[j]? = some b := by rw [List.getElem?_append_left bj]; exact b1
 have hS3 := hS2.setld (y := ⟨(AR st.loads i).k, 0, (AR st.loads i).ow⟩) a1'
 have hS4 := hS3.setld (y := ⟨(AR st.loads j).k, 0, (AR st.loads j).ow⟩) b1'
 have hz : as.length < sizeLine := Nat.lt_of_lt_of_le (show as.length < 50 by rw [hS.len]; have := h.len; omega) (AX (by decide))
 have est : step t st (.pool i j) = { st with loads := ((st.loads ++ [Ld.mk (AR st.loads i).k ((AR st.loads i).n + (AR st.loads j).n) (B5 (AR st.loads i).n (AR st.loads j).n (AR st.loads i).ow (AR st.loads j).ow)]).set i ⟨(AR st.loads i).k, 0, (AR st.loads i).ow⟩).set j ⟨(AR st.loads j).k, 0, (AR st.loads j).ow⟩ } := by
  have e0 : AR (less st.loads i (AR st.loads i).n) j = AR st.loads j := by
   unfold AR less
   rw [List.getD_eq_getElem?_getD, List.getElem?_set_ne hij, ← List.getD_eq_getElem?_getD]
  have e1 : less st.loads i (AR st.loads i).n = st.loads.set i ⟨(AR st.loads i).k, 0, (AR st.loads i).ow⟩ := by
   unfold less
   rw [Int.sub_self]
  have e2 : less (less st.loads i (AR st.loads i).n) j (AR st.loads j).n = (st.loads.set i ⟨(AR st.loads i).k, 0, (AR st.loads i).ow⟩).set j ⟨(AR st.loads j).k, 0, (AR st.loads j).ow⟩ := by
   rw [N7 (ls := less st.loads i (AR st.loads i).n), e0, Int.sub_self, e1]
  show { st with loads := less (less st.loads i (AR st.loads i).n) j (AR st.loads j).n ++ _ } = _
  rw [e2, List.set_append_left _ _ hi, List.set_append_left _ _ (by simpa using hj)]
 refine ⟨_, _, ?_, est ▸ hS4, ?_, ?_⟩
 ·have r0 := Aa hS.root
  have lo := BH hS.lo
  have c0 := Aa hS.lo
  have xa := BH a2
  have xb := BH b2
  have c1 := Aa hS1.lo
  have c4 : Eu (S1 ++ [CU ⟨(AR st.loads i).k, (AR st.loads i).n + (AR st.loads j).n, B5 (AR st.loads i).n (AR st.loads j).n (AR st.loads i).ow (AR st.loads j).ow⟩]) l = some (as.map D.ref) := Aa (by rw [List.getElem?_append_left (Aw hS1.lo)]; exact hS1.lo)
  have c5 := Aa (hS2.ld i a (AR st.loads i) a1' (by show (st.loads ++ _)[i]? = _; rw [List.getElem?_append_left hi]; exact FD hi))
  have c6 := Aa (hS3.ld j b (AR st.loads j) b1' (by show ((st.loads ++ _).set i _)[j]? = _; rw [List.getElem?_set_ne hij, List.getElem?_append_left hj]; exact FD hj))
  simp only [CU] at xa xb c4 c5 c6 ⊢
  have hz' : (as.map D.ref).length < sizeLine := by simpa using hz
  generalize (as.map D.ref) = refs at *
  generalize B5 (AR st.loads i).n (AR st.loads j).n (AR st.loads i).ow (AR st.loads j).ow = pr at *
  simp [B7, Fx, AV.d, r0, lo, a3, b3, xa, xb, c0, e1] at c4 c5 c6 ⊢
  simp [c4, hz', c5, c6]
 ·exact (((g1.mono fun _ z => (nomatch z)).trans .app).trans (.set (by simp))).trans ((Ci.set (by simp [List.mem_of_getElem? a1])).trans (.set (by simp [List.mem_of_getElem? b1])))
 ·intro n hn
  rcases List.mem_append.mp hn with w | w
  ·exact .inl w
  ·simp at w; subst w; exact .inr g1.len
theorem de (hS : SAt S s l m as st) (ht : JE t) (h : Es t k st) (hk : k ≤ 16) {d : AV} (hc : Can t st d) : ∃ S' as', B7 [t.d, .ref s, d.d] S = some (.non, S') /\ SAt S' s l m as' (step t st d) /\ Ci (s :: l :: m :: as) S S' /\ ∀ n ∈ as', n ∈ as ∨ S.length ≤ n := by
 cases d with
 | bring => exact V4 hS ht h hk hc
 | pool => exact Ys hS ht h hk hc
 | swap => exact ZG hS ht h hk hc
 | trade => exact VQ hS ht h hk hc
 | spoil => exact Vp hS ht h hk hc
 | thr => exact bD hS ht h hk hc
 | sell => exact Yn hS ht h hk hc
end
section
variable {st : Stt} {t : Tr} {k : Nat}
theorem Lp {a b : Nat} (h : a ≤ b) : 2 ^ a ≤ 2 ^ b := Nat.pow_le_pow_right (by decide) h
theorem Hg {a b : Nat} (h : a ≤ b) : (2 : Int) ^ a ≤ 2 ^ b := by
 have := Lp h
 exact_mod_cast this
theorem Hh {c : Int} (h : 0 ≤ c) : ((c.toNat : Nat) : Rat) = (c : Rat) := by
 have : ((c.toNat : Nat) : Int) = c := Int.toNat_of_nonneg h
 have : (((c.toNat : Nat) : Int) : Rat) = (c : Rat) := by rw [this]
 exact this
theorem NZ {B T k j : Nat} (hB : B < 2 ^ (30 + 170 * k)) (hT : T < 2 ^ j) (hj : j ≤ 170) : B * T < 2 ^ (30 + 170 * (k + 1)) := by
 have := Co hB hT
 exact Nat.lt_of_lt_of_le this (Lp (by omega))
theorem UM {G B P p : Nat} (h : G ≤ B) : ∀ r ∈ Pc P p, Ok G B r := by
 intro r hr
 obtain ⟨i, _, rfl⟩ := List.mem_map.mp hr
 split
 ·exact Ok.one h
 ·exact Ok.zero
theorem MG {G B : Nat} {n m : Int} {ss os : List Rat} (hn : 0 < n) (hm : 0 < m) (hs : ∀ r ∈ ss, Ok G B r) (ho : ∀ r ∈ os, Ok G B r) : ∀ r ∈ B5 n m ss os, Ok (G * (n + m).toNat) (B * (n + m).toNat) r := by
 intro r hr
 unfold B5 at hr
 rw [List.mem_iff_getElem?] at hr
 obtain ⟨i, hi'⟩ := hr
 rw [List.getElem?_zipWith_eq_some] at hi'
 obtain ⟨x, y, hx, hy, rfl⟩ := hi'
 have := Ok.mix (a := n.toNat) (b := m.toNat) (t := (n + m).toNat) (hs x (List.mem_of_getElem? hx)) (ho y (List.mem_of_getElem? hy)) (by omega) (by omega)
 rwa [Hh (by omega), Hh (by omega), Hh (by omega)] at this
theorem QL {G B p q : Nat} {x : Rat} {ss : List Rat} (hp : p < ss.length) (hq : q < ss.length) (x1 : 0 < x.num) (x2 : x.num ≤ x.den) (hs : ∀ r ∈ ss, Ok G B r) : ∀ r ∈ Fs p q x ss, Ok (G * x.den) (2 * B * x.den) r := by
 have dp := x.den_pos
 have hsp := hs _ (getD_mem (d := 0) hp)
 have hsq := hs _ (getD_mem (d := 0) hq)
 have xs := D9 x
 have ex : (x.num : Rat) = ((x.num.toNat : Nat) : Rat) := (Hh (by omega)).symm
 have nz := Ij x
 intro r hr
 unfold Fs at hr
 rcases List.mem_or_eq_of_mem_set hr with hr | hr
 ·rcases List.mem_or_eq_of_mem_set hr with hr | hr
  ·exact (hs r hr).up (by rw [Nat.mul_assoc]; omega)
  ·rw [hr]
   obtain ⟨z, e, hz⟩ := Ok.mix (a := x.den - x.num.toNat) (b := x.num.toNat) (t := x.den) hsp (Ok.zero (G := G) (B := B)) (by omega) dp
   refine ⟨z, ?_, Nat.le_trans hz (by rw [Nat.mul_assoc]; omega)⟩
   rw [← e]
   have e2 : ((x.den - x.num.toNat : Nat) : Rat) = (x.den : Rat) - (x.num : Rat) := by
    have : (((x.den - x.num.toNat : Nat) : Int) : Rat) = ((x.den - x.num : Int) : Rat) := by
     congr 1; omega
    push_cast at this
    exact this
   rw [e2]
   generalize ss.getD p 0 = sp at *
   congr 1
   grind
 ·rw [hr]
  obtain ⟨z, e1, hz⟩ := hsp
  obtain ⟨y, e2, hy⟩ := hsq
  refine ⟨y * x.den + z * x.num.toNat, ?_, ?_⟩
  ·generalize ss.getD p 0 = sp at *
   generalize ss.getD q 0 = sq at *
   push_cast
   rw [← ex, ← e1, ← e2]
   grind
  ·have h1 : y * x.den ≤ B * x.den := Nat.mul_le_mul_right _ hy
   have h2 : z * x.num.toNat ≤ B * x.den := Nat.mul_le_mul hz (by omega)
   rw [Nat.mul_assoc]; omega
theorem JC {f : Rat -> Rat -> Rat} {a b : List Rat} {n : Nat} (h : a.length = n) (g : b.length = n) : (List.zipWith f a b).length = n := by rw [List.length_zipWith, h, g]; omega
theorem IB {P : Ld -> Prop} {i : Nat} {n : Int} (hi : i < st.loads.length) (h : ∀ x ∈ st.loads, P x) (g : P ⟨(AR st.loads i).k, (AR st.loads i).n - n, (AR st.loads i).ow⟩) : ∀ x ∈ less st.loads i n, P x := by
 intro x hx
 rcases IE hx hi with h1 | h1
 ·exact h x h1
 ·rw [h1]; exact g
theorem N8 {P : Ld -> Prop} {ls : List Ld} {y : Ld} (h : ∀ x ∈ ls, P x) (g : P y) : ∀ x ∈ ls ++ [y], P x := by
 intro x hx
 rcases List.mem_append.mp hx with w | w
 ·exact h x w
 ·simp at w; rw [w]; exact g
structure LOk (t : Tr) (k G B : Nat) (x : Ld) : Prop where
 kd : x.k < t.k
 n0 : 0 ≤ x.n
 n1 : x.n < 2 ^ (131 + k)
 own : x.ow.length = t.p
 ok : ∀ r ∈ x.ow, Ok G B r
theorem LOk.up {G B T B' : Nat} {x : Ld} (h : LOk t k G B x) (hT : B * T ≤ B') : LOk t (k + 1) (G * T) B' x := ⟨h.kd, h.n0, Int.lt_of_lt_of_le h.n1 (Hg (by omega)), h.own, fun r hr => (h.ok r hr).up hT⟩
theorem LOk.up1 {G B : Nat} {x : Ld} (h : LOk t k G B x) : LOk t (k + 1) G B x := ⟨h.kd, h.n0, Int.lt_of_lt_of_le h.n1 (Hg (by omega)), h.own, h.ok⟩
theorem LOk.less {G B : Nat} {x : Ld} {n : Int} (h : LOk t k G B x) (h0 : 0 ≤ n) (h1 : n ≤ x.n) : LOk t k G B ⟨x.k, x.n - n, x.ow⟩ := ⟨h.kd, show 0 ≤ x.n - n by omega, show x.n - n < _ by have := h.n1; omega, h.own, h.ok⟩
theorem Es.of {G B : Nat} (h1 : st.loads.length ≤ 4 + k) (h2 : ∀ x ∈ st.loads, LOk t k G B x) (h3 : st.hold.length = t.p) (h4 : st.nums.length ≤ k) (g0 : 0 < G) (g1 : G ≤ B) (g2 : B < 2 ^ (30 + 170 * k)) (h5 : ∀ r ∈ st.hold, Ok G B r) : Es t k st := ⟨h1, fun x hx => (h2 x hx).kd, fun x hx => ⟨(h2 x hx).n0, (h2 x hx).n1⟩, fun x hx => (h2 x hx).own, h3, h4, G, B, g0, g1, g2, fun x hx => (h2 x hx).ok, h5⟩
theorem cG {n : Int} (h : n < 2 ^ 131) : n < 2 ^ (131 + k) := Int.lt_of_lt_of_le h (Hg (by omega))
theorem Qk (ht : JE t) (h : Es t k st) (hk : k ≤ 16) {d : AV} (hc : Can t st d) : Es t (k + 1) (step t st d) := by
  obtain ⟨G, B, g0, g1, g2, hl, hh⟩ := h.gb
  have L : ∀ x ∈ st.loads, LOk t k G B x := fun x hx => ⟨h.kind x hx, (h.pcs x hx).1, (h.pcs x hx).2, h.own x hx, hl x hx⟩
  have g2' : B < 2 ^ (30 + 170 * (k + 1)) := Nat.lt_of_lt_of_le g2 (Lp (by omega))
  have hlen := h.len
  have hnm := h.nm
  cases d with
  | bring p kd n =>
    obtain ⟨h1, h2, h3, h4⟩ := hc
    refine Es.of (G := G) (B := B) (by simp [step]; omega) (N8 (fun x hx => (L x hx).up1) ⟨h2, by show 0 ≤ n; omega, cG h4, by simp [Pc], UM g1⟩) h.hold (Nat.le_succ_of_le hnm) g0 g1 g2' hh
  | pool i j =>
    obtain ⟨hij, hi, hj, h1, h2, h3⟩ := hc
    have li := L _ (AW hi)
    have lj := L _ (AW hj)
    have tl : ((AR st.loads i).n + (AR st.loads j).n).toNat < 2 ^ (132 + k) := by
      have a := li.n1; have b := lj.n1
      have e : (2 : Int) ^ (132 + k) = 2 ^ (131 + k) * 2 := by rw [show 132 + k = (131 + k) + 1 by omega, Int.pow_succ]
      have : (((AR st.loads i).n + (AR st.loads j).n).toNat : Int) < ((2 ^ (132 + k) : Nat) : Int) := by
        rw [Int.toNat_of_nonneg (by omega)]
        push_cast
        rw [e]; omega
      exact_mod_cast this
    have t0 : 0 < ((AR st.loads i).n + (AR st.loads j).n).toNat := by omega
    refine Es.of (G := G * ((AR st.loads i).n + (AR st.loads j).n).toNat) (B := B * ((AR st.loads i).n + (AR st.loads j).n).toNat) (by simp [step, Ce]; omega) (N8 ?_ ⟨li.kd, by show 0 ≤ (AR st.loads i).n + (AR st.loads j).n; omega, ?_, ?_, MG h1 h2 li.ok lj.ok⟩) h.hold (Nat.le_succ_of_le hnm) (Nat.mul_pos g0 t0) (Nat.mul_le_mul_right _ g1) (NZ g2 tl (by omega)) (fun r hr => (hh r hr).up (Nat.le_refl _))
    · have e0 : AR (less st.loads i (AR st.loads i).n) j = AR st.loads j := by
        unfold AR less
        rw [List.getD_eq_getElem?_getD, List.getElem?_set_ne hij, ← List.getD_eq_getElem?_getD]
      have A := IB (P := LOk t (k + 1) (G * ((AR st.loads i).n + (AR st.loads j).n).toNat) (B * ((AR st.loads i).n + (AR st.loads j).n).toNat)) (n := (AR st.loads i).n) hi (fun x hx => (L x hx).up (Nat.le_refl _)) ((li.up (Nat.le_refl _)).less (by omega) (Int.le_refl _))
      have A2 := IB (st := { st with loads := less st.loads i (AR st.loads i).n }) (i := j) (n := (AR st.loads j).n) (by simpa [Ce] using hj) A (by
        show LOk _ _ _ _ ⟨(AR (less st.loads i (AR st.loads i).n) j).k, (AR (less st.loads i (AR st.loads i).n) j).n - _, (AR (less st.loads i (AR st.loads i).n) j).ow⟩
        rw [e0]
        exact (lj.up (Nat.le_refl _)).less (by omega) (Int.le_refl _))
      exact A2
    · show (AR st.loads i).n + (AR st.loads j).n < 2 ^ (131 + (k + 1))
      have a := li.n1; have b := lj.n1
      rw [show 131 + (k + 1) = (131 + k) + 1 by omega, Int.pow_succ]; omega
    · exact JC li.own lj.own
  | swap i g kd n =>
    obtain ⟨hi, h1, h2, h3, h4, h5, h6⟩ := hc
    have li := L _ (AW hi)
    refine Es.of (G := G) (B := B) (by simp [step, Ce]; omega) (N8 (IB hi (fun x hx => (L x hx).up1) (li.up1.less (by omega) h2)) ⟨h3, by show 0 ≤ n; omega, cG h6, li.own, li.ok⟩) h.hold (Nat.le_succ_of_le hnm) g0 g1 g2' hh
  | trade u i g kd n =>
    obtain ⟨hi, h1, h2, h3, h4, h5, h6, h7⟩ := hc
    have li := L _ (AW hi)
    refine Es.of (G := G) (B := B) (by simp [step, Ce]; omega) (N8 (IB hi (fun x hx => (L x hx).up1) (li.up1.less (by omega) h2)) ⟨h3, by show 0 ≤ n; omega, cG h6, li.own, li.ok⟩) h.hold (by simp [step]; omega) g0 g1 g2' hh
  | spoil i n =>
    obtain ⟨hi, h1, h2⟩ := hc
    have li := L _ (AW hi)
    refine Es.of (G := G) (B := B) (by simp [step, Ce]; omega) (IB hi (fun x hx => (L x hx).up1) (li.up1.less (by omega) h2)) h.hold (Nat.le_succ_of_le hnm) g0 g1 g2' hh
  | thr i n ws =>
    obtain ⟨hi, h1, h2, h3, h4⟩ := hc
    have li := L _ (AW hi)
    have W := H0 ht h (by omega) h3 h4
    have wl : (DN t st.loads ws).toNat < 2 ^ (145 + k) := by
      have : ((DN t st.loads ws).toNat : Int) < ((2 ^ (145 + k) : Nat) : Int) := by
        rw [Int.toNat_of_nonneg (by omega)]; push_cast; exact W.2
      exact_mod_cast this
    have bo := fun {ss : List Rat} (hs : ∀ r ∈ ss, Ok G B r) => Pf ht h (by omega) h3 h4 hi h1 h2 li.ok hs
    refine Es.of (G := G * (DN t st.loads ws).toNat) (B := B * (DN t st.loads ws).toNat) (by simp [step, Ce]; omega) ?_ (JC h.hold li.own) (Nat.le_succ_of_le hnm) (Nat.mul_pos g0 (by omega)) (Nat.mul_le_mul_right _ g1) (NZ g2 wl (by omega)) (bo hh)
    intro x hx
    obtain ⟨y, hy, rfl⟩ := List.mem_map.mp hx
    have ly := IB (P := LOk t k G B) hi L (li.less (n := n) (by omega) h2) y hy
    exact ⟨ly.kd, ly.n0, ly.up1.n1, JC ly.own li.own, bo ly.ok⟩
  | sell p q x =>
    obtain ⟨h1, h2, h3, h4, h5, h6⟩ := hc
    have dp := x.den_pos
    refine Es.of (G := G * x.den) (B := 2 * B * x.den) (by simp [step]; omega) ?_ (by simp [step, Fs, h.hold]) (Nat.le_succ_of_le hnm) (Nat.mul_pos g0 dp) (Nat.mul_le_mul_right _ (by omega)) ?_ (QL (by rw [h.hold]; exact h2) (by rw [h.hold]; exact h3) h4 h5 hh)
    · intro y hy
      obtain ⟨z, hz, rfl⟩ := List.mem_map.mp hy
      have lz := L z hz
      exact ⟨lz.kd, lz.n0, lz.up1.n1, by simp [Fs, lz.own], QL (by rw [lz.own]; exact h2) (by rw [lz.own]; exact h3) h4 h5 lz.ok⟩
    · have := NZ (B := B) (T := 2 * x.den) (j := 5) g2 (by omega) (by omega)
      rw [show 2 * B * x.den = B * (2 * x.den) by rw [← Nat.mul_assoc, Nat.mul_comm 2 B]]
      exact this
end
theorem Gk {α : Type} {f : α -> D} : ∀ {xs : List α}, (∀ x ∈ xs, (f x).lay = true) -> D.lays (xs.map f) = true
  | [], _ => rfl
  | x :: xs, h => by
    show ((f x).lay && D.lays (xs.map f)) = true
    rw [h x List.mem_cons_self, Gk fun y hy => h y (List.mem_cons_of_mem _ hy)]
    rfl
theorem Q4 {ds : List D} (h : D.lays ds = true) : Dd (.lst ds) (.lst []) = true := by
 unfold Dd
 show (D.lays ds && true && _) = true
 rw [h]
 simp only [Bool.true_and, decide_eq_true_eq]
 exact Nat.le_trans (Nat.min_le_right _ _) (by decide)
def GZ (is : List Nat) : List D := is.map fun (i : Nat) => D.int i
theorem L9 {is : List Nat} : Dd (.lst (GZ is)) (.lst []) = true := Q4 (Gk fun _ _ => rfl)
theorem Wr {d : D} {ds : List D} : deq (.lst (d :: ds)) (.lst []) = false := rfl
theorem ZF : deq (.lst []) (.lst []) = true := rfl
theorem OE {is : List Nat} : deq (.lst (GZ is)) (.lst []) = is.isEmpty := by
 cases is with
 | nil => exact ZF
 | cons i is => exact Wr
theorem MT {ds : List D} : QE 0 ds = (List.range ds.length).map fun (i : Nat) => D.tup [.int i, ds.getD i .non] := by
 apply List.ext_getElem?
 intro i
 rw [LA, List.getElem?_map]
 by_cases h : i < ds.length
 ·rw [List.getElem?_eq_getElem h, List.getElem?_range h]
  simp [List.getElem?_eq_getElem h]
 ·rw [List.getElem?_eq_none (by omega), List.getElem?_eq_none (by simp; omega)]
  rfl
theorem JG {is : List Nat} : (GZ is).length = is.length := by simp [GZ]
theorem LQ {is : List Nat} {r : Int} (h0 : 0 ≤ r) (h1 : r < is.length) : ∃ i ∈ is, atI (GZ is) r = some (.int (i : Nat)) := by
 have h2 : r.toNat < is.length := by omega
 refine ⟨is[r.toNat], List.getElem_mem h2, ?_⟩
 have := XW (xs := GZ is) h0 (by rw [JG]; exact h1)
 rw [this]
 simp [GZ]
theorem Th {x K : Int} (h0 : 0 ≤ x) (h1 : x < 2 * K) : x % K = if x < K then x else x - K := by
 split
 ·exact Int.emod_eq_of_lt h0 (by assumption)
 ·have : x % K = (x - K) % K := by rw [Int.sub_emod_right]
  rw [this]
  exact Int.emod_eq_of_lt (by omega) (by omega)
section
variable {S : Sto} {p s l m : Nat} {as : List Nat} {st : Stt} {t : Tr} {k : Nat}
def Ca (st : Stt) : List Nat := (List.range st.loads.length).filter fun i => decide (0 < (AR st.loads i).n)
theorem ZD (hS : SAt S s l m as st) (hl : st.loads.length ≤ 50) : CJ [(l, as.map D.ref)] (tTp [(tNm 0), (tNm 1)]) (eOp (o2 wGt) [(eOp (o2 wIx) [(eV 1), (eC (.int 1))]), (eC (.int 0))]) (eV 0) (QE 0 (as.map D.ref)) [] [none, none] S = some (GZ (Ca st), S) := by
 have := Dr (gs := [(l, as.map D.ref)]) (t := tTp [(tNm 0), (tNm 1)]) (c := eOp (o2 wGt) [(eOp (o2 wIx) [(eV 1), (eC (.int 1))]), (eC (.int 0))]) (f := eV 0) (C := []) (m := 2) (e := fun i : Nat => D.tup [.int i, (as.map D.ref).getD i .non]) (g := fun i : Nat => D.int i) (b := fun i => decide (0 < (AR st.loads i).n)) (S := S) hS.guard (xs := List.range st.loads.length) (acc := []) (os := [none, none]) rfl (Nat.le_trans (show _ ≤ 50 by simp; omega) (AX (by decide))) (by
  intro i hi os ho
  obtain ⟨o1, o2, rfl⟩ : ∃ o1 o2, os = [o1, o2] := by
   match os, ho with
   | [a, b], _ => exact ⟨a, b, rfl⟩
  obtain ⟨a, a1, a2, a3⟩ := hS.at (List.mem_range.mp hi)
  have e : (as.map D.ref).getD i .non = .ref a := by simp [a1]
  rw [e]
  refine ⟨[some (.int i), some (.ref a)], rfl, by simp, ?_, by simp⟩
  simp [BH a2, CU])
 rw [MT, List.length_map, hS.len]
 exact this
theorem K9 {i : Nat} (h : i ∈ Ca st) : i < st.loads.length /\ 0 < (AR st.loads i).n := by
 unfold Ca at h
 rw [List.mem_filter] at h
 exact ⟨List.mem_range.mp h.1, by simpa using h.2⟩
def E9 (st : Stt) (j : Nat) : List Nat := (Ca st).filter fun i => !(i == j) && ((AR st.loads i).k == (AR st.loads j).k)
theorem OH : (Ca st).length ≤ st.loads.length := by
 unfold Ca
 exact Nat.le_trans (List.length_filter_le _ _) (by simp)
theorem Vj {a b : Nat} : ((a : Int) == (b : Int)) = (a == b) := by
 by_cases h : a = b
 ·subst h; simp
 ·have : ((a : Int) == (b : Int)) = false := by simp; omega
  rw [this]; simp [h]
theorem Yz (hS : SAt S s l m as st) (hl : st.loads.length ≤ 50) {j : Nat} (hj : j ∈ Ca st) : CJ [] (tNm 2) (LG (eOp (o2 wNe) [(eV 2), (eV 1)]) (eOp (o2 wEq) [(eOp (o2 wIx) [(eOp (o2 wIx) [(eV 0), (eV 2)]), (eC (.int 0))]), (eOp (o2 wIx) [(eOp (o2 wIx) [(eV 0), (eV 1)]), (eC (.int 0))])])) (eV 2) (GZ (Ca st)) [] [some (.ref l), some (.int j), none] S = some (GZ (E9 st j), S) := by
 have fl := OH (st := st)
 exact Dr (gs := []) (t := tNm 2) (f := eV 2) (C := [some (.ref l), some (.int j)]) (m := 1) (e := fun i : Nat => D.int i) (g := fun i : Nat => D.int i) (b := fun i => !(i == j) && ((AR st.loads i).k == (AR st.loads j).k)) (S := S) Al (xs := Ca st) (acc := []) (os := [none]) rfl (Nat.le_trans (show _ ≤ 50 by simp; omega) (AX (by decide))) (by
  intro i hi os ho
  obtain ⟨o1, rfl⟩ : ∃ o1, os = [o1] := by
   match os, ho with
   | [a], _ => exact ⟨a, rfl⟩
  obtain ⟨a, a1, a2, a3⟩ := hS.at (K9 hi).1
  obtain ⟨b, b1, b2, b3⟩ := hS.at (K9 hj).1
  refine ⟨[some (.int i)], rfl, by simp, ?_, by simp⟩
  by_cases e : i = j
  ·subst e
   simp
  ·have e' : ((i : Int) == (j : Int)) = false := by simp; omega
   have e2 : (i == j) = false := by simp [e]
   simp [e', e2, BH hS.lo, a3, b3, BH a2, BH b2, CU, Vj])
theorem Vu {i j : Nat} (h : i ∈ E9 st j) : i ∈ Ca st /\ i ≠ j /\ (AR st.loads i).k = (AR st.loads j).k := by
 unfold E9 at h
 rw [List.mem_filter] at h
 simp at h
 exact ⟨h.1, h.2.1, h.2.2⟩
def F9 (st : Stt) : List Nat := (List.range 10).filter fun i => !(st.nums.any fun u => u == (i : Int))
theorem RH {us : List Int} {i : Int} : inD (.int i) (us.map D.int) = us.any fun u => u == i := by
 unfold inD
 rw [List.any_map]
 rfl
@[simp] theorem cy {b : Bool} {w : Wv} {r : List D} : wIn b w (.own r) = if (Io (fz w) && r.all Io) = true then some (.val (.bl (if b then !inD (fz w) r else inD (fz w) r))) else none := nr rfl
@[simp] theorem fF {b : Bool} {w : Wv} {r : List D} : wIn b w (.val (.lst r)) = if (Io (fz w) && r.all Io) = true then some (.val (.bl (if b then !inD (fz w) r else inD (fz w) r))) else none := nr rfl
theorem Pa {us : List Int} : (us.map D.int).all Io = true := by
 rw [List.all_map, List.all_eq_true]
 intro x _; rfl
@[simp] theorem fg {i : Int} : Io (.int i) = true := nr rfl
theorem Yu (hS : SAt S s l m as st) : CJ [] (tNm 1) (eOp (o2 (wIn true)) [(eV 1), (eV 0)]) (eV 1) (GA 0 10) [] [some (.ref m), none] S = some (GZ (F9 st), S) := by
 exact Dr (gs := []) (t := tNm 1) (f := eV 1) (C := [some (.ref m)]) (m := 1) (e := fun i : Nat => D.int (0 + (i : Int))) (g := fun i : Nat => D.int i) (b := fun i => !(st.nums.any fun u => u == (i : Int))) (S := S) Al (xs := List.range 10) (acc := []) (os := [none]) rfl (Nat.le_trans (show _ ≤ 50 by simp) (AX (by decide))) (by
  intro i hi os ho
  obtain ⟨o1, rfl⟩ : ∃ o1, os = [o1] := by
   match os, ho with
   | [a], _ => exact ⟨a, rfl⟩
  refine ⟨[some (.int i)], rfl, by simp, ?_, by simp⟩
  have nu := BH hS.nu
  have fi := Pa (us := st.nums)
  have ii := RH (us := st.nums) (i := (i : Int))
  generalize st.nums.map D.int = ud at *
  generalize (st.nums.any fun u => u == (i : Int)) = bb at *
  simp [nu, fi, ii])
theorem Ws {i : Nat} (h : i ∈ F9 st) : (i : Int) ∉ st.nums /\ i ≤ 9 := by
 unfold F9 at h
 rw [List.mem_filter] at h
 have h1 := List.mem_range.mp h.1
 refine ⟨?_, by omega⟩
 intro z
 have h2 := h.2
 have : (st.nums.any fun u => u == (i : Int)) = true := List.any_eq_true.mpr ⟨_, z, by simp⟩
 rw [this] at h2
 cases h2
theorem WI : (F9 st).length ≤ 10 := by
 unfold F9
 exact Nat.le_trans (List.length_filter_le _ _) (by simp)
theorem Vy {j : Nat} : (E9 st j).length ≤ st.loads.length := by
 unfold E9
 exact Nat.le_trans (List.length_filter_le _ _) OH
end
end Mi
end
noncomputable section
namespace Mi
open PySem PySem.Spec L2
section
variable {S : Sto} {p s l m : Nat} {as : List Nat} {st : Stt} {t : Tr} {k : Nat}
def OR : Ex := (Am (xIf (LG (eOp (o2 wLt) [(eV 7), (eC (.int 8))]) (eOp (o2 wGt) [(eOp (o2 wIx) [(eV 1), (eC (.int 1))]), (eC (.int 1))])) (Am (Bs 11 (eOp (o2 Pt) [(eOp (o2 Dq) [(eOp (o2 Dq) [(eOp (o2 wIx) [(eOp (o2 wIx) [(eV 3), (eV 8)]), (eC (.int 0))]), (eC (.int 1))]), (AK AM [(eV 0), (eOp (o2 QI) [(eOp (o2 wIx) [(eV 1), (eC (.int 1))]), (eC (.int 1))])])]), (eOp (o2 wIx) [(eV 1), (eC (.int 1))])]))
  (Am (Bs 12 (CZ [5] 1 (OZ [(eC (.int 10))]) (tNm 1) (eOp (o2 (wIn true)) [(eV 1), (eV 0)]) (eV 1)))
  (Am (xIf (LG (eOp (o2 wEq) [(eV 7), (eC (.int 7))]) (eOp (o2 wNe) [(eV 12), (JF [])])) (BV (DF [(eC (.str "trade")), (eOp (o2 wIx) [(eV 12), (AK AM [(eV 0), (eOp (o1 Jm) [(eV 12)])])]), (eV 8), (eV 9), (eV 11), (AK Be [(eV 0)])])) EB)
  (BV (DF [(eC (.str "swap")), (eV 8), (eV 9), (eV 11), (AK Be [(eV 0)])]))))) EB)
  (Am (xIf (eOp (o2 wEq) [(eV 7), (eC (.int 8))]) (BV (DF [(eC (.str "spoil")), (eV 8), (eV 9)])) EB)
  (Am (xIf (LG (eOp (o2 wEq) [(eV 7), (eC (.int 9))]) (eOp (o2 wGt) [(eOp (o2 wIx) [(eV 1), (eC (.int 0))]), (eC (.int 1))])) (Am (Bs 13 (AK AM [(eV 0), (eOp (o2 wIx) [(eV 1), (eC (.int 0))])]))
  (BV (DF [(eC (.str "sell")), (eV 13), (eOp (o2 Pt) [(eOp (o2 Dq) [(eOp (o2 Dq) [(eV 13), (eC (.int 1))]), (AK AM [(eV 0), (eOp (o2 QI) [(eOp (o2 wIx) [(eV 1), (eC (.int 0))]), (eC (.int 1))])])]), (eOp (o2 wIx) [(eV 1), (eC (.int 0))])]), (AK Fe [(eV 0)])]))) EB)
  (BV (DF [(eC (.str "throw")), (eV 8), (eV 9), (AK Dj [(eV 0), (eOp (o2 Dq) [(eOp (o2 wIx) [(eV 1), (eC (.int 1))]), (eC (.int 1))])])])))))
def Tu : Ex := (xIf (eOp (o2 wLt) [(eV 7), (eC (.int 5))]) (Am (Bs 10 (CZ [3, 8] 1 (FT (eV 6)) (tNm 2) (LG (eOp (o2 wNe) [(eV 2), (eV 1)]) (eOp (o2 wEq) [(eOp (o2 wIx) [(eOp (o2 wIx) [(eV 0), (eV 2)]), (eC (.int 0))]), (eOp (o2 wIx) [(eOp (o2 wIx) [(eV 0), (eV 1)]), (eC (.int 0))])])) (eV 2)))
  (xIf (eOp (o2 wNe) [(eV 10), (JF [])]) (BV (DF [(eC (.str "pool")), (eV 8), (eOp (o2 wIx) [(eV 10), (AK AM [(eV 0), (eOp (o1 Jm) [(eV 10)])])])])) EB)) EB)
theorem OJ : M8 = (Am (NB (tTp [(tNm 3), (tNm 4), (tNm 5)]) (eV 2))
  (Am (Bs 6 (CZ [] 2 (ZH (eV 3)) (tTp [(tNm 0), (tNm 1)]) (eOp (o2 wGt) [(eOp (o2 wIx) [(eV 1), (eC (.int 1))]), (eC (.int 0))]) (eV 0)))
  (Am (Bs 7 (AK AM [(eV 0), (eC (.int 12))]))
  (Am (xIf (eOr (eOp (o2 wLt) [(eV 7), (eC (.int 2))]) (eOp (o2 wEq) [(eV 6), (JF [])])) (BV (DF [(eC (.str "bring")), (AK AM [(eV 0), (eOp (o2 wIx) [(eV 1), (eC (.int 0))])]), (AK AM [(eV 0), (eOp (o2 wIx) [(eV 1), (eC (.int 1))])]), (AK Be [(eV 0)])])) EB)
  (Am (Bs 8 (eOp (o2 wIx) [(eV 6), (AK AM [(eV 0), (eOp (o1 Jm) [(eV 6)])])]))
  (Am (Bs 9 (eOp (o2 Dq) [(eC (.int 1)), (AK AM [(eV 0), (eOp (o2 ZM) [(eOp (o2 wIx) [(eOp (o2 wIx) [(eV 3), (eV 8)]), (eC (.int 1))]), (eC (.int 2000))])])]))
  (Am Tu OR))))))) := rfl
theorem Yw (hp : Ew p S) (hS : SAt S s l m as st) (hps : p ∉ s :: l :: m :: as) (ht : JE t) (h : Es t k st) (hk : k ≤ 16) : ∃ d S', Dl [.ref p, t.d, .ref s] S = some (AV.d d, S') /\ Pn p S S' /\ Can t st d := by
  obtain ⟨t1, t2, t3, t4, t5, t6⟩ := ht
  have hlen := h.len
  have st' : ∀ {S' : Sto}, Pn p S S' -> SAt S' s l m as st := fun g => hS.same g.same (by simpa using hps)
  have r0 := Aa hS.root
  have cf := ZD hS (by omega)
  have fl := OH (st := st)
  have sq := Gw hS.lo
  obtain ⟨way, S1, e1, a1, b1, p1⟩ := A8 hp (n := 12) (by decide) (by decide)
  have okF := L9 (is := Ca st)
  have dqF := OE (is := Ca st)
  by_cases hb : way < 2 ∨ (Ca st).isEmpty = true
  · obtain ⟨x2, S2, e2, a2, b2, p2⟩ := A8 p1.pen (n := t.p) (by omega) (by omega)
    obtain ⟨x3, S3, e3, a3, b3, p3⟩ := A8 p2.pen (n := t.k) (by omega) (by omega)
    obtain ⟨x4, S4, e4, p4, a4, b4⟩ := JZ p3.pen
    obtain ⟨x2, rfl⟩ := Hu a2
    obtain ⟨x3, rfl⟩ := Hu a3
    refine ⟨.bring x2 x3 x4, S4, ?_, ((p1.trans p2).trans p3).trans p4, by omega, by omega, a4, b4⟩
    by_cases hw : way < 2
    · simp [Dl, OJ, r0, sq, cf, e1, Tr.d, hw, e2, e3, e4, AV.d]
    · have hf := hb.resolve_left hw
      simp [Dl, OJ, r0, sq, cf, e1, Tr.d, hw, okF, dqF, hf, e2, e3, e4, AV.d]
  · have hw2 : ¬ way < 2 := fun z => hb (.inl z)
    have hf : (Ca st).isEmpty = false := by
      cases z : (Ca st).isEmpty with
      | true => exact absurd (.inr z) hb
      | false => rfl
    have hfl : 0 < (Ca st).length := by
      cases z : Ca st with
      | nil => rw [z] at hf; cases hf
      | cons a b => simp
    obtain ⟨rl, S2, e2, a2, b2, p2⟩ := A8 p1.pen (n := (Ca st).length) (by omega) (by omega)
    obtain ⟨i, mi, ei⟩ := LQ a2 b2
    have fi := K9 mi
    have hS1 := st' p1
    have hS2 := st' (p1.trans p2)
    obtain ⟨a, x1, x2, x3⟩ := hS2.at fi.1
    have n1 := fi.2
    obtain ⟨rs, S3, e3, a3, b3, p3⟩ := A8 p2.pen (n := if 2000 < (AR st.loads i).n then 2000 else (AR st.loads i).n) (by split <;> omega) (by split <;> omega)
    have hsome : 1 ≤ 1 + rs /\ 1 + rs ≤ (AR st.loads i).n := by split at b3 <;> omega
    have p23 := (p1.trans p2).trans p3
    have hS3 := st' p23
    have lo2 := BH hS2.lo
    have lo3 := BH hS3.lo
    have x2' := BH x2
    have x4 : S3[a]? = some (CU (AR st.loads i)) := hS3.ld i a _ x1 (FD fi.1)
    have x4' := BH x4
    have kd := h.kind _ (AW fi.1)
    have nl := JG (is := Ca st)
    have cs := Yz hS3 (by omega) mi
    have okS := L9 (is := E9 st i)
    have dqS := OE (is := E9 st i)
    have sl := Vy (st := st) (j := i)
    have nls := JG (is := E9 st i)
    have pre : Dl [.ref p, t.d, .ref s] S = ((Tu [some (.ref p), some t.d, some (.ref s), some (.ref l), some (shD st.hold), some (.ref m), some (.lst (GZ (Ca st))), some (.int way), some (.int i), some (.int (1 + rs)), none, none, none, none] S3).bind (ZR OR)).map fun r => (flD r.1, r.2.2) := by
      simp [Dl, OJ, r0, sq, cf, e1, hw2, okF, dqF, hf, nl, e2, ei, lo2, x3, x2', e3]
    have tail : ∀ o10, (way < 5 -> (E9 st i).isEmpty = true) -> ∃ d S', (OR [some (.ref p), some t.d, some (.ref s), some (.ref l), some (shD st.hold), some (.ref m), some (.lst (GZ (Ca st))), some (.int way), some (.int i), some (.int (1 + rs)), o10, none, none, none] S3).map (fun r => (flD r.1, r.2.2)) = some (AV.d d, S') /\ Pn p S S' /\ Can t st d := by
      intro o10 _
      clear pre cs okS dqS
      by_cases hsw : way < 8 /\ 1 < t.k
      · obtain ⟨hw8, hk1⟩ := hsw
        have hk1' : (1 : Int) < t.k := by omega
        obtain ⟨rk, S4, e4, a4, b4, p4⟩ := A8 p3.pen (n := (t.k : Int) - 1) (by omega) (by omega)
        have hS4 := st' (p23.trans p4)
        have hmod := Th (x := ((AR st.loads i).k : Int) + 1 + rk) (K := t.k) (by omega) (by omega)
        obtain ⟨kd2, ekd⟩ : ∃ q : Nat, ((AR st.loads i).k + 1 + rk) % (t.k : Int) = (q : Int) := ⟨_, (Int.toNat_of_nonneg (Int.emod_nonneg _ (by omega))).symm⟩
        have hkd : kd2 < t.k /\ kd2 ≠ (AR st.loads i).k := by
          rw [ekd] at hmod
          split at hmod <;> omega
        have kp : 0 < t.k := by omega
        have cl := Yu hS4
        have okL := L9 (is := F9 st)
        have dqL := OE (is := F9 st)
        have ll := WI (st := st)
        have nll := JG (is := F9 st)
        have rt : IW 10 = true := DR (by decide) (by decide)
        by_cases htr : way = 7 /\ (F9 st).isEmpty = false
        · obtain ⟨hw7, hle⟩ := htr
          have hll : 0 < (F9 st).length := by
            cases z : F9 st with
            | nil => rw [z] at hle; cases hle
            | cons a b => simp
          obtain ⟨ru, S5, e5, a5, b5, p5⟩ := A8 p4.pen (n := (F9 st).length) (by omega) (by omega)
          obtain ⟨u, mu, eu⟩ := LQ a5 b5
          obtain ⟨x6, S6, e6, p6, a6, b6⟩ := JZ p5.pen
          have fu := Ws mu
          refine ⟨.trade u i (1 + rs) kd2 x6, S6, ?_, ((p23.trans p4).trans p5).trans p6, fi.1, hsome.1, hsome.2, hkd.1, hkd.2, a6, b6, fu.1, by omega, by omega⟩
          subst hw7
          simp [OR, Tr.d, x3, hk1', lo3, x4', e4, kp, ekd, rt, cl, okL, dqL, hle, nll, e5, eu, e6, AV.d]
        · obtain ⟨x6, S6, e6, p6, a6, b6⟩ := JZ p4.pen
          refine ⟨.swap i (1 + rs) kd2 x6, S6, ?_, (p23.trans p4).trans p6, fi.1, hsome.1, hsome.2, hkd.1, hkd.2, a6, b6⟩
          by_cases h7 : way = 7
          · subst h7
            have hle : (F9 st).isEmpty = true := by
              cases z : (F9 st).isEmpty with
              | true => rfl
              | false => exact absurd ⟨rfl, z⟩ htr
            simp [OR, Tr.d, x3, hk1', lo3, x4', e4, kp, ekd, rt, cl, okL, dqL, hle, nll, e6, AV.d]
          · have h7' : (way == 7) = false := by simpa using h7
            simp [OR, Tr.d, x3, hw8, hk1', lo3, x4', e4, kp, ekd, rt, cl, h7', e6, AV.d]
      · have sw : ∀ (x y : Ex) (T : Sto), xIf (LG (eOp (o2 wLt) [(eV 7), (eC (.int 8))]) (eOp (o2 wGt) [(eOp (o2 wIx) [(eV 1), (eC (.int 1))]), (eC (.int 1))])) x y [some (.ref p), some t.d, some (.ref s), some (.ref l), some (shD st.hold), some (.ref m), some (.lst (GZ (Ca st))), some (.int way), some (.int i), some (.int (1 + rs)), o10, none, none, none] T = y [some (.ref p), some t.d, some (.ref s), some (.ref l), some (shD st.hold), some (.ref m), some (.lst (GZ (Ca st))), some (.int way), some (.int i), some (.int (1 + rs)), o10, none, none, none] T := by
          intro x y T
          by_cases w8 : way < 8
          · have hk1 : ¬ (1 : Int) < t.k := by omega
            simp [Tr.d, w8, hk1]
          · simp [w8]
        by_cases h8 : way = 8
        · subst h8
          refine ⟨.spoil i (1 + rs), S3, ?_, p23, fi.1, hsome.1, hsome.2⟩
          simp [OR, -P6, sw]
          simp [AV.d]
        · have h8' : (way == 8) = false := by simpa using h8
          by_cases h9 : way = 9 /\ 1 < t.p
          · obtain ⟨h9, hP⟩ := h9
            subst h9
            have hP' : (1 : Int) < t.p := by omega
            obtain ⟨rp, S4, e4, a4, b4, p4⟩ := A8 p3.pen (n := t.p) (by omega) (by omega)
            obtain ⟨rq, S5, e5, a5, b5, p5⟩ := A8 p4.pen (n := (t.p : Int) - 1) (by omega) (by omega)
            obtain ⟨sh, S6, e6, p6, a6, b6, c6⟩ := W2 p5.pen
            have hmod := Th (x := rp + 1 + rq) (K := t.p) (by omega) (by omega)
            obtain ⟨q, eq⟩ : ∃ q : Nat, (rp + 1 + rq) % (t.p : Int) = (q : Int) := ⟨_, (Int.toNat_of_nonneg (Int.emod_nonneg _ (by omega))).symm⟩
            obtain ⟨rp, rfl⟩ := Hu a4
            have hq : q < t.p /\ q ≠ rp := by
              rw [eq] at hmod
              split at hmod <;> omega
            have pp : 0 < t.p := by omega
            refine ⟨.sell rp q sh, S6, ?_, ((p23.trans p4).trans p5).trans p6, fun z => hq.2 z.symm, by omega, hq.1, a6, b6, c6⟩
            simp [OR, -P6, sw]
            simp [Tr.d, hP', e4, e5, pp, eq, e6, AV.d]
          · have s9 : ∀ (x y : Ex) (T : Sto), xIf (LG (eOp (o2 wEq) [(eV 7), (eC (.int 9))]) (eOp (o2 wGt) [(eOp (o2 wIx) [(eV 1), (eC (.int 0))]), (eC (.int 1))])) x y [some (.ref p), some t.d, some (.ref s), some (.ref l), some (shD st.hold), some (.ref m), some (.lst (GZ (Ca st))), some (.int way), some (.int i), some (.int (1 + rs)), o10, none, none, none] T = y [some (.ref p), some t.d, some (.ref s), some (.ref l), some (shD st.hold), some (.ref m), some (.lst (GZ (Ca st))), some (.int way), some (.int i), some (.int (1 + rs)), o10, none, none, none] T := by
              intro x y T
              by_cases z : way = 9
              · have hP : ¬ (1 : Int) < t.p := by have : ¬ 1 < t.p := fun w => h9 ⟨z, w⟩; omega
                subst z
                simp [Tr.d, hP]
              · have z' : (way == 9) = false := by simpa using z
                simp [z']
            obtain ⟨ws, S4, e4, p4, a4, b4⟩ := SE p3.pen (n := t.k + 1) (by omega)
            have e4' : Dj [.ref p, .int ((t.k : Int) + 1)] S3 = some (.tup (ws.map .int), S4) := e4
            refine ⟨.thr i (1 + rs) ws, S4, ?_, p23.trans p4, fi.1, hsome.1, hsome.2, a4, b4⟩
            have s8 : ∀ (x y : Ex) (T : Sto), xIf (eOp (o2 wEq) [(eV 7), (eC (.int 8))]) x y [some (.ref p), some t.d, some (.ref s), some (.ref l), some (shD st.hold), some (.ref m), some (.lst (GZ (Ca st))), some (.int way), some (.int i), some (.int (1 + rs)), o10, none, none, none] T = y [some (.ref p), some t.d, some (.ref s), some (.ref l), some (shD st.hold), some (.ref m), some (.lst (GZ (Ca st))), some (.int way), some (.int i), some (.int (1 + rs)), o10, none, none, none] T := by
              intro x y T
              simp [h8']
            simp [OR, -P6, sw, s8, s9]
            simp [Tr.d, e4', AV.d]
    by_cases hpool : way < 5 /\ (E9 st i).isEmpty = false
    · obtain ⟨hw5, hse⟩ := hpool
      have hsl : 0 < (E9 st i).length := by
        cases z : E9 st i with
        | nil => rw [z] at hse; cases hse
        | cons a b => simp
      obtain ⟨rj, S4, e4, a4, b4, p4⟩ := A8 p3.pen (n := (E9 st i).length) (by omega) (by omega)
      obtain ⟨j, mj, ej⟩ := LQ a4 b4
      have fj := Vu mj
      have fj' := K9 fj.1
      refine ⟨.pool i j, S4, ?_, p23.trans p4, fun z => fj.2.1 z.symm, fi.1, fj'.1, n1, fj'.2, fj.2.2.symm⟩
      rw [pre]
      simp [Tu, hw5, cs, okS, dqS, hse, nls, e4, ej, AV.d]
    · by_cases w5 : way < 5
      · have hse : (E9 st i).isEmpty = true := by
          cases z : (E9 st i).isEmpty with
          | true => rfl
          | false => exact absurd ⟨w5, z⟩ hpool
        obtain ⟨d, S', e, pn, hc⟩ := tail (some (.lst (GZ (E9 st i)))) (fun _ => hse)
        refine ⟨d, S', ?_, pn, hc⟩
        rw [pre, ← e]
        simp [Tu, w5, cs, okS, dqS, hse]
      · obtain ⟨d, S', e, pn, hc⟩ := tail none (fun z => absurd z w5)
        refine ⟨d, S', ?_, pn, hc⟩
        rw [pre, ← e]
        simp [Tu, w5]
end
def runs (t : Tr) (st : Stt) (ds : List AV) : Stt := ds.foldl (step t) st
def IS (t : Tr) : Stt -> List AV -> Prop
 | _, [] => True
 | st, d :: ds => Can t st d /\ IS t (step t st d) ds
theorem Mv {t : Tr} {d : AV} : ∀ {ds : List AV} {st : Stt}, IS t st ds -> Can t (runs t st ds) d -> IS t st (ds ++ [d])
 | [], st, _, h => ⟨h, trivial⟩
 | x :: ds, st, h, g => ⟨h.1, Mv h.2 g⟩
theorem IH {t : Tr} : ∀ {ds : List AV} {st : Stt} {i : Nat} {d : AV}, IS t st ds -> ds[i]? = some d -> Can t (runs t st (ds.take i)) d
  | x :: ds, st, 0, d, h, g => by
    simp at g; subst g
    exact h.1
  | x :: ds, st, i + 1, d, h, g => by
    simp at g
    show Can t (runs t (step t st x) (ds.take i)) d
    exact IH h.2 g
theorem O6 {t : Tr} {st : Stt} {ds : List AV} {d : AV} : runs t st (ds ++ [d]) = step t (runs t st ds) d := by simp [runs]
theorem Jp {t : Tr} {st : Stt} {ds : List AV} {i : Nat} {d : AV} (h : ds[i]? = some d) : runs t st (ds.take (i + 1)) = step t (runs t st (ds.take i)) d := by
 rw [List.take_succ, h]
 exact O6
theorem OM {t : Tr} (ht : JE t) : ∀ {ds : List AV} {st : Stt} {k : Nat}, Es t k st -> IS t st ds -> k + ds.length ≤ 17 -> Es t (k + ds.length) (runs t st ds)
  | [], st, k, h, _, _ => h
  | d :: ds, st, k, h, g, hl => by
    have := OM ht (ds := ds) (Qk ht h (by simp at hl; omega) g.1) g.2 (by simp at hl; omega)
    rw [show k + (d :: ds).length = k + 1 + ds.length by simp; omega]
    exact this
theorem Hz {t : Tr} : ∀ {ds : List AV} {st : Stt} {i : Nat}, IS t st ds -> IS t st (ds.take i)
 | [], st, i, h => by simp; exact trivial
 | d :: ds, st, 0, h => trivial
 | d :: ds, st, i + 1, h => ⟨h.1, Hz h.2⟩
def st0 (t : Tr) (ls : List Ld) : Stt := ⟨ls, t.ho, []⟩
structure A9 (t : Tr) (ls : List Ld) (ds : List AV) : Prop where
 tr : JE t
 inv : Es t 0 (st0 t ls)
 good : IS t (st0 t ls) ds
 len : ds.length ≤ 16
theorem A9.at {t : Tr} {ls : List Ld} {ds : List AV} (h : A9 t ls ds) (i : Nat) : Es t (ds.take i).length (runs t (st0 t ls) (ds.take i)) := by
 have := OM h.tr (ds := ds.take i) h.inv (Hz h.good) (by have := h.len; simp; omega)
 rwa [Nat.zero_add] at this
def Ac (t : Tr) (ls : List Ld) (ds : List AV) : D := .tup [t.d, .tup (ls.map Ld.d), .tup (ds.map AV.d)]
theorem Ud {t : Tr} {ls : List Ld} (h : G5 t ls) (hl : ls.length ≤ 4) (h1 : t.ho.length = t.p) {g : Nat} (g0 : 0 < g) (g1 : g ≤ 32) (g2 : ∀ r ∈ t.ho, Ok g g r) : Es t 0 (st0 t ls) := by
 obtain ⟨ha, G, G0, G1, G2⟩ := h
 have hG : G ≤ 32 ^ 4 := Nat.le_trans G1 (Nat.pow_le_pow_right (by decide) hl)
 have hB : G * g < 2 ^ 30 := by
  have := Nat.mul_le_mul hG g1
  omega
 refine Es.of (G := G * g) (B := G * g) (by simpa [st0] using hl) ?_ h1 (Nat.le_refl _) (Nat.mul_pos G0 g0) (Nat.le_refl _) hB ?_
 ·intro x hx
  have := ha x hx
  exact ⟨this.1, by omega, cG this.2.2.1, this.2.2.2.1, fun r hr => (G2 x hx r hr).up (Nat.le_refl _)⟩
 ·intro r hr
  have := (g2 r hr).up (t := G) (B' := G * g) (by rw [Nat.mul_comm]; exact Nat.le_refl _)
  rwa [Nat.mul_comm g G] at this
def IT : AV -> Bool
 | .thr .. => true
 | _ => false
section
variable {S : Sto} {p : Nat}
theorem Wg (d : AV) (E : En) (h : E = [some d.d]) : eOp (o2 wEq) [(eOp (o2 wIx) [(eV 0), (eC (.int 0))]), (eC (.str "throw"))] E S = some (.bl (IT d), S) := by
 subst h
 cases d <;> simp [AV.d, IT]
theorem iA {q : Nat} {ds : List AV} (hq : S[q]? = some (.lst (ds.map AV.d))) (hl : ds.length ≤ 50) : CJ [(q, ds.map AV.d)] (tNm 0) (eOp (o2 wEq) [(eOp (o2 wIx) [(eV 0), (eC (.int 0))]), (eC (.str "throw"))]) (eV 0) (ds.map AV.d) [] [none] S = some ((ds.filter IT).map AV.d, S) :=
 Dr (gs := [(q, ds.map AV.d)]) (t := tNm 0) (f := eV 0) (C := []) (m := 1) (e := AV.d) (g := AV.d) (b := IT) (S := S) (fun g hg => by rw [List.mem_singleton.mp hg]; exact Aa hq) (xs := ds) (acc := []) (os := [none]) rfl (Nat.le_trans (show _ ≤ 50 by simp; omega) (AX (by decide))) (by
  intro d _ os ho
  obtain ⟨o1, rfl⟩ : ∃ o1, os = [o1] := by
   match os, ho with
   | [a], _ => exact ⟨a, rfl⟩
  exact ⟨[some d.d], rfl, by simp, Wg d _ rfl, by simp⟩)
theorem SS {M : Nat} (hM : M ≤ 16) (h : Ew p S) : ∃ t ls ds S', Df [.ref p, .int M] S = some (Ac t ls ds, S') /\ (A9 t ls ds /\ ds.length ≤ M) /\ ((∀ l ∈ ls, l.ow.sum = 1) /\ t.ho.sum = 1) /\ Ew p S' := by
  obtain ⟨t, S1, e1, p1, ht, hh, g, g0, g1, g2⟩ := VE h
  obtain ⟨ls, S2, e2, p2, hf, hl⟩ := Wf p1.pen ht
  have hi := Ud hf hl hh.1 g0 g1 g2
  obtain ⟨s, l, m, as, S3, e3, hS, sm, hn⟩ := Vt (S := S2) (t := t) (ls := ls) (x := .tup []) (by omega)
  have lp := p2.pen.lt
  have pen3 : Ew p S3 := by
    obtain ⟨ds, e, hp⟩ := p2.pen
    exact ⟨ds, sm.get e (by simp), hp⟩
  have hq : (S3 ++ [Cl.lst []])[S3.length]? = some (.lst []) := List.getElem?_concat_length
  obtain ⟨rn, S4, e4, a4, b4, p4⟩ := A8 (pen3.app [Cl.lst []]) (n := (M : Int) + 1) (by omega) (by omega)
  have lt3 := hS.lts
  have pn : p ∉ s :: l :: m :: as := fun z => by have := hn p z; omega
  have qn : S3.length ∉ s :: l :: m :: as := fun z => by have := lt3 _ z; omega
  have hpq : S3.length ≠ p := by have := pen3.lt; omega
  have hS4 : SAt S4 s l m as (st0 t ls) := (hS.same0 (.app)).same p4.same (by simpa using pn)
  have hq4 : S4[S3.length]? = some (.lst []) := p4.get hq hpq
  obtain ⟨rn, rfl⟩ := Hu a4
  have rk : IW (rn : Int) = true := DR (by omega) (by omega)
  generalize hQ : S3.length = q at *
  obtain ⟨E', S', ef, ds, as', o6, o7, rfl, f1, f2, f3, f4, f5, f6, f7⟩ := EN (gs := []) (t := tNm 6) (b := Am (Bs 7 (AK Dl [(eV 0), (eV 2), (eV 4)]))
    (xIf (eOr (eOp (o2 wNe) [(eOp (o2 wIx) [(eV 7), (eC (.int 0))]), (eC (.str "throw"))]) (eOp (o2 wLt) [(eOp (o1 Jm) [(CZ [] 1 (FT (eV 5)) (tNm 0) (eOp (o2 wEq) [(eOp (o2 wIx) [(eV 0), (eC (.int 0))]), (eC (.str "throw"))]) (eV 0))]), (eC (.int 3))])) (Am (Cp (AK B7 [(eV 2), (eV 4), (eV 7)]))
    (Cp (LJ Lb (eV 5) [(eV 7)]))) EB))
    (I := fun rs E S' => ∃ (ds : List AV) (as' : List Nat) (o6 o7 : Option D), E = [some (.ref p), some (.int M), some t.d, some (.tup (ls.map Ld.d)), some (.ref s), some (.ref q), o6, o7] /\ S'[q]? = some (.lst (ds.map AV.d)) /\ Ew p S' /\ SAt S' s l m as' (runs t (st0 t ls) ds) /\ IS t (st0 t ls) ds /\ ds.length + rs.length ≤ M /\ p ∉ s :: l :: m :: as' /\ q ∉ s :: l :: m :: as')
    (fun _ _ _ _ => Al) (ds := GA 0 rn) (E := [some (.ref p), some (.int M), some t.d, some (.tup (ls.map Ld.d)), some (.ref s), some (.ref q), none, none]) (S := S4)
    ⟨[], as, none, none, rfl, hq4, p4.pen, hS4, trivial, by rw [Hy]; simp; omega, pn, qn⟩ (by
      rintro dd rs E T ⟨ds, as', o6, o7, rfl, i1, i2, i3, i4, i5, i6, i7⟩
      simp only [List.length_cons] at i5
      have inv := OM ht hi i4 (by omega)
      rw [Nat.zero_add] at inv
      obtain ⟨d, T1, d1, d2, d3⟩ := Yw i2 i3 i6 ht inv (by omega)
      have j3 := i3.same d2.same (by simpa using i6)
      have j1 : T1[q]? = some (.lst (ds.map AV.d)) := d2.get i1 hpq
      have tc := iA j1 (by omega)
      by_cases hb : IT d = false ∨ (ds.filter IT).length < 3
      · obtain ⟨T2, as2, k1, k2, k3, k4⟩ := de j3 ht inv (by omega) d3
        have lt := j3.lts
        have q2 : T2[q]? = some (.lst (ds.map AV.d)) := k3.get j1 i7
        have hz : ds.length < sizeLine := Nat.lt_of_lt_of_le (show ds.length < 50 by omega) (AX (by decide))
        refine ⟨_, [some (.ref p), some (.int M), some t.d, some (.tup (ls.map Ld.d)), some (.ref s), some (.ref q), some dd, some d.d], T2.set q (.lst ((ds ++ [d]).map AV.d)), by simp; rfl, ?_, ds ++ [d], as2, some dd, some d.d, rfl, List.getElem?_set_self (Aw q2), ?_, ?_, Mv i4 d3, by simp; omega, ?_, ?_⟩
        · have kk := Aa q2
          have w1 : ∀ (c : Ev), eOr (eOp (o2 wNe) [(eOp (o2 wIx) [(eV 7), (eC (.int 0))]), (eC (.str "throw"))]) c [some (.ref p), some (.int M), some t.d, some (.tup (ls.map Ld.d)), some (.ref s), some (.ref q), some dd, some d.d] T1 = if IT d = true then c [some (.ref p), some (.int M), some t.d, some (.tup (ls.map Ld.d)), some (.ref s), some (.ref q), some dd, some d.d] T1 else some (.bl true, T1) := by
            intro c
            cases d <;> simp [AV.d, IT]
          have sq := Gw j1
          have hz' : (ds.map AV.d).length < sizeLine := by simpa using hz
          have hfin : (ds ++ [d]).map AV.d = ds.map AV.d ++ [d.d] := by simp
          rw [hfin]
          generalize hDD : ds.map AV.d = DD at *
          cases ht' : IT d with
          | false =>
            simp [d1, -Pw, w1, ht', k1, kk, hz']
          | true =>
            have h3 : ((ds.filter IT).length : Int) < 3 := by
              have := hb.resolve_left (by rw [ht']; simp)
              omega
            simp [d1, -Pw, w1, ht', sq, tc, h3, k1, kk, hz']
        · obtain ⟨pd, pe, ph⟩ := d2.pen
          exact ⟨pd, by rw [List.getElem?_set_ne hpq]; exact k3.get pe i6, ph⟩
        · rw [O6]
          exact k2.same (A := [q]) (.set (by simp)) (by
            intro n hn z
            simp at hn; subst hn
            simp only [List.mem_cons] at z i7
            rcases z with z | z | z | z
            · exact i7 (.inl z)
            · exact i7 (.inr (.inl z))
            · exact i7 (.inr (.inr (.inl z)))
            · rcases k4 _ z with w | w
              · exact i7 (.inr (.inr (.inr w)))
              · have := Aw j1; omega)
        · intro z
          simp only [List.mem_cons] at z i6
          rcases z with z | z | z | z
          · exact i6 (.inl z)
          · exact i6 (.inr (.inl z))
          · exact i6 (.inr (.inr (.inl z)))
          · rcases k4 _ z with w | w
            · exact i6 (.inr (.inr (.inr w)))
            · have := d2.pen.lt; omega
        · intro z
          simp only [List.mem_cons] at z i7
          rcases z with z | z | z | z
          · exact i7 (.inl z)
          · exact i7 (.inr (.inl z))
          · exact i7 (.inr (.inr (.inl z)))
          · rcases k4 _ z with w | w
            · exact i7 (.inr (.inr (.inr w)))
            · have := Aw j1; omega
      · have ht' : IT d = true := by
          cases z : IT d with
          | true => rfl
          | false => exact absurd (.inl z) hb
        have h3 : ¬ ((ds.filter IT).length : Int) < 3 := by
          have : ¬ (ds.filter IT).length < 3 := fun z => hb (.inr z)
          omega
        refine ⟨_, [some (.ref p), some (.int M), some t.d, some (.tup (ls.map Ld.d)), some (.ref s), some (.ref q), some dd, some d.d], T1, by simp; rfl, ?_, ds, as', some dd, some d.d, rfl, j1, d2.pen, j3, i4, by omega, i6, i7⟩
        have w1 : ∀ (c : Ev), eOr (eOp (o2 wNe) [(eOp (o2 wIx) [(eV 7), (eC (.int 0))]), (eC (.str "throw"))]) c [some (.ref p), some (.int M), some t.d, some (.tup (ls.map Ld.d)), some (.ref s), some (.ref q), some dd, some d.d] T1 = if IT d = true then c [some (.ref p), some (.int M), some t.d, some (.tup (ls.map Ld.d)), some (.ref s), some (.ref q), some dd, some d.d] T1 else some (.bl true, T1) := by
            intro c
            cases d <;> simp [AV.d, IT]
        have sq := Gw j1
        generalize hDD : ds.map AV.d = DD at *
        simp [d1, -Pw, w1, ht', sq, tc, h3])
  refine ⟨t, ls, ds, S', ?_, ⟨⟨ht, hi, f4, by simp at f5; omega⟩, by simpa using f5⟩, ⟨fun x hx => (hf.1 x hx).2.2.2.2, hh.2⟩, f2⟩
  have df := BH f1
  simp [Df, NR, e1, e2, e3, hQ, e4, rk, ef, df, Ac]
end
section
variable {S : Sto} {s l m : Nat} {as : List Nat} {st : Stt}
theorem UU {rs : List Rat} : D.tup (rs.map aD) = shD rs := rfl
end
theorem QF {n m d : Nat} (h : n ≤ m) : HT.sIx m d (some (n : Int)) = n := by
 unfold HT.sIx
 have : ¬ ((n : Int) < 0) := by omega
 simp [this]
 omega
theorem JP {α : Type} {ds : List α} {n : Nat} (h : n ≤ ds.length) : Jv ds none (some (n : Int)) = ds.take n := by
 unfold Jv
 rw [QF h]
 simp [HT.sIx]
theorem Qn {α : Type} {ds : List α} {n : Nat} (h : n ≤ ds.length) : Jv ds (some (n : Int)) none = ds.drop n := by
 unfold Jv
 rw [QF h]
 simp [HT.sIx]
 exact List.take_of_length_le (by simp)
def hD (x : Ld) : D := .tup [.int x.k, .int x.n]
def A1 (ls : List Ld) : D := .lst (ls.map hD)
def J0 (ls : List Ld) : D := .lst (ls.map fun x => shD x.ow)
section
variable {S : Sto} {ls : List Ld} {i j : Nat} {n : Int}
@[simp] theorem eA : dr S (A1 ls) = .val (A1 ls) := nr rfl
@[simp] theorem gJ : dr S (J0 ls) = .val (J0 ls) := nr rfl
@[simp] theorem cN : asS (.val (A1 ls)) = some (ls.map hD) := nr rfl
@[simp] theorem bz : asS (.val (J0 ls)) = some (ls.map fun x => shD x.ow) := nr rfl
@[simp] theorem cJ : Jm (.val (A1 ls)) = some (.val (.int ls.length)) := by
 show Jm (.val (.lst (ls.map hD))) = _
 rw [VL, List.length_map]
theorem EA (hi : i < ls.length) : atI (ls.map hD) (i : Int) = some (hD (AR ls i)) := CV (by rw [List.getElem?_map, FD hi]; rfl)
theorem Hl (hi : i < ls.length) : atI (ls.map fun x => shD x.ow) (i : Int) = some (shD (AR ls i).ow) := CV (by rw [List.getElem?_map, FD hi]; rfl)
@[simp] theorem hZ {x : Ld} : dr S (hD x) = .val (.tup [.int x.k, .int x.n]) := nr rfl
@[simp] theorem gC {ts : List Tf} {x : Ld} {E : En} : tTp ts (hD x) E S = tMs ts [.int x.k, .int x.n] E S := nr rfl
theorem Pj (hi : i < ls.length) (hn : n ≤ (AR ls i).n) : CO [A1 ls, .int i, .int n] S = some (.bl true, S) := by
 have hi' : (i : Int) < ls.length := by omega
 simp [CO, Ih, hi', hi, EA hi, hn]
theorem QJ (hi : i < ls.length) (hj : j < ls.length) (h1 : 0 < (AR ls i).n) (h2 : 0 < (AR ls j).n) (hk : (AR ls i).k = (AR ls j).k) : F2 [A1 ls, .int i, .int j] S = some (.bl true, S) := by
 have e1 := Pj (S := S) (n := 1) hi (by omega)
 have e2 := Pj (S := S) (n := 1) hj (by omega)
 simp [F2, Ks, e1, e2, EA hi, EA hj, hk]
theorem MJ {k : Nat} (hi : i < ls.length) (hn : n ≤ (AR ls i).n) (hk : k ≠ (AR ls i).k) : Em [A1 ls, .int i, .int n, .int k] S = some (.bl true, S) := by
 have e1 := Pj (S := S) hi hn
 have e2 : (((AR ls i).k : Int) == (k : Int)) = false := by simp; omega
 simp [Em, Kc, e1, EA hi, e2]
theorem WK {lo hi : Option Int} : wSl lo hi (.val (A1 ls)) = some (.own (Jv (ls.map hD) lo hi)) := nr rfl
theorem FO (hi : i < ls.length) (hl : ls.length ≤ 60) : Bq [A1 ls, .int i, .int n] S = some (A1 (less ls i n), S) := by
 have c1 := JP (ds := ls.map hD) (n := i) (by simp; omega)
 have c2 : Jv (ls.map hD) (some ((i : Int) + 1)) none = (ls.map hD).drop (i + 1) := by
  have := Qn (ds := ls.map hD) (n := i + 1) (by simp; omega)
  simpa using this
 have ef : A1 (less ls i n) = .lst ((ls.map hD).take i ++ [.tup [.int (AR ls i).k, .int ((AR ls i).n - n)]] ++ (ls.map hD).drop (i + 1)) := by
  rw [N7, A1, List.map_set, List.set_eq_take_append_cons_drop, if_pos (by simpa using hi)]
  simp [hD]
 have z1 : (List.take i (ls.map hD)).length + 1 ≤ sizeLine := Nat.le_trans (show _ ≤ 100 by simp; omega) (AX (by decide))
 have z2 : (List.take i (ls.map hD) ++ [D.tup [.int (AR ls i).k, .int ((AR ls i).n - n)]]).length + (List.drop (i + 1) (ls.map hD)).length ≤ sizeLine := Nat.le_trans (show _ ≤ 100 by simp; omega) (AX (by decide))
 rw [ef]
 have ah := EA hi
 have ws := fun {lo hi : Option Int} => WK (ls := ls) (lo := lo) (hi := hi)
 generalize List.take i (ls.map hD) = A at *
 generalize List.drop (i + 1) (ls.map hD) = B at *
 simp only [List.length_append, List.length_cons, List.length_nil] at z2
 simp [Bq, HE, ah, ws, c1, c2, z1, z2]
end
section
variable {S : Sto} {st : Stt} {t : Tr} {k : Nat}
@[simp] theorem Ek {ls : List Ld} {r : List D} : Dq (.val (A1 ls)) (.val (.lst r)) = if (ls.map hD).length + r.length ≤ sizeLine then some (.own (ls.map hD ++ r)) else none := nr rfl
theorem LI {ls : List Ld} {y : Ld} : D.lst (ls.map hD ++ [.tup [.int y.k, .int y.n]]) = A1 (ls ++ [y]) := by simp [A1, hD]
theorem Jl (h : Es t k st) (hk : k ≤ 17) {d : AV} (hc : Can t st d) : Ad [A1 st.loads, d.d] S = some (A1 (step t st d).loads, S) := by
  have hlen := h.len
  have hz : (st.loads.map hD).length + 1 ≤ sizeLine := Nat.le_trans (show _ ≤ 100 by simp; omega) (AX (by decide))
  have hz2 : ∀ {i : Nat} {n : Int}, ((less st.loads i n).map hD).length + 1 ≤ sizeLine := fun {i n} => Nat.le_trans (show _ ≤ 100 by simp [Ce]; omega) (AX (by decide))
  cases d with
  | bring p kd n =>
    have e := LI (ls := st.loads) (y := ⟨kd, n, Pc t.p p⟩)
    show _ = some (A1 (st.loads ++ [⟨kd, n, Pc t.p p⟩]), S)
    rw [← e]
    have wA := Ek (ls := st.loads) (r := [.tup [.int kd, .int n]])
    rw [if_pos (by simpa using hz)] at wA
    simp [Ad, Bk, AV.d, -Ek, wA]
  | pool i j =>
    obtain ⟨hij, hi, hj, h1, h2, h3⟩ := hc
    have e0 : AR (less st.loads i (AR st.loads i).n) j = AR st.loads j := by
      unfold AR less
      rw [List.getD_eq_getElem?_getD, List.getElem?_set_ne hij, ← List.getD_eq_getElem?_getD]
    have w1 := FO (S := S) (n := (AR st.loads i).n) hi (by omega)
    have w2 := FO (S := S) (ls := less st.loads i (AR st.loads i).n) (i := j) (n := (AR st.loads j).n) (by rw [Ce]; exact hj) (by rw [Ce]; omega)
    have z3 : ((less (less st.loads i (AR st.loads i).n) j (AR st.loads j).n).map hD).length + 1 ≤ sizeLine := Nat.le_trans (show _ ≤ 100 by simp [Ce]; omega) (AX (by decide))
    have e := LI (ls := less (less st.loads i (AR st.loads i).n) j (AR st.loads j).n) (y := ⟨(AR st.loads i).k, (AR st.loads i).n + (AR st.loads j).n, B5 (AR st.loads i).n (AR st.loads j).n (AR st.loads i).ow (AR st.loads j).ow⟩)
    show _ = some (A1 (less (less st.loads i (AR st.loads i).n) j (AR st.loads j).n ++ [_]), S)
    rw [← e]
    have a1 := EA hi
    have a2 := EA hj
    have wA := Ek (ls := less (less st.loads i (AR st.loads i).n) j (AR st.loads j).n) (r := [.tup [.int (AR st.loads i).k, .int ((AR st.loads i).n + (AR st.loads j).n)]])
    rw [if_pos (by simpa using z3)] at wA
    generalize (less (less st.loads i (AR st.loads i).n) j (AR st.loads j).n).map hD = A at *
    simp [Ad, Bk, AV.d, a1, a2, w1, w2, -Ek, wA]
  | swap i g kd n =>
    obtain ⟨hi, h1, h2, h3, h4, h5, h6⟩ := hc
    have w1 := FO (S := S) (n := g) hi (by omega)
    have e := LI (ls := less st.loads i g) (y := ⟨kd, n, (AR st.loads i).ow⟩)
    show _ = some (A1 (less st.loads i g ++ [⟨kd, n, (AR st.loads i).ow⟩]), S)
    rw [← e]
    have wA := Ek (ls := less st.loads i g) (r := [.tup [.int kd, .int n]])
    rw [if_pos (by simpa using hz2)] at wA
    simp [Ad, Bk, AV.d, w1, -Ek, wA]
  | trade u i g kd n =>
    obtain ⟨hi, h1, h2, h3, h4, h5, h6, h7⟩ := hc
    have w1 := FO (S := S) (n := g) hi (by omega)
    have e := LI (ls := less st.loads i g) (y := ⟨kd, n, (AR st.loads i).ow⟩)
    show _ = some (A1 (less st.loads i g ++ [⟨kd, n, (AR st.loads i).ow⟩]), S)
    rw [← e]
    have wA := Ek (ls := less st.loads i g) (r := [.tup [.int kd, .int n]])
    rw [if_pos (by simpa using hz2)] at wA
    simp [Ad, Bk, AV.d, w1, -Ek, wA]
  | spoil i n =>
    obtain ⟨hi, h1, h2⟩ := hc
    have w1 := FO (S := S) (n := n) hi (by omega)
    show _ = some (A1 (less st.loads i n), S)
    simp [Ad, Bk, AV.d, w1]
  | thr i n ws =>
    obtain ⟨hi, h1, h2, h3, h4⟩ := hc
    have w1 := FO (S := S) (n := n) hi (by omega)
    have e : A1 (step t st (.thr i n ws)).loads = A1 (less st.loads i n) := by
      show D.lst (((less st.loads i n).map _).map hD) = _
      rw [List.map_map]; rfl
    rw [e]
    simp [Ad, Bk, AV.d, w1]
  | sell p q x =>
    have e : A1 (step t st (.sell p q x)).loads = A1 st.loads := by
      show D.lst ((st.loads.map _).map hD) = _
      rw [List.map_map]; rfl
    rw [e]
    simp [Ad, Bk, AV.d]
def HD : AV -> Option Int
 | .trade u .. => some u
 | _ => none
theorem Ue {ls : List Ld} : ∀ {ds : List AV}, (runs t (st0 t ls) ds).nums = ds.filterMap HD := by
  intro ds
  have : ∀ (ds : List AV) (st : Stt), (runs t st ds).nums = st.nums ++ ds.filterMap HD := by
    intro ds
    induction ds with
    | nil => intro st; simp [runs]
    | cons d ds ih =>
      intro st
      show (runs t (step t st d) ds).nums = _
      rw [ih]
      cases d <;> simp [step, HD, List.filterMap_cons]
  rw [this]; rfl
theorem Kk : ∀ {ds : List AV} {acc : List D} {o : Option D}, acc.length + ds.length ≤ 100 -> CJ [] (tNm 0) (eOp (o2 wEq) [(eOp (o2 wIx) [(eV 0), (eC (.int 0))]), (eC (.str "trade"))]) (eOp (o2 wIx) [(eV 0), (eC (.int 1))]) (ds.map AV.d) acc [o] S = some (acc ++ (ds.filterMap HD).map D.int, S)
  | [], acc, o, h => by rw [List.map_nil, El Al]; simp
  | d :: ds, acc, o, h => by
    have hz : acc.length < sizeLine := Nat.lt_of_lt_of_le (show acc.length < 101 by simp at h; omega) (AX (by decide))
    have ht : tNm 0 d.d [o] S = some [some d.d] := by simp
    rw [List.map_cons]
    cases d with
    | trade u i g kd n =>
      rw [HX Al hz ht (S1 := S) (by simp [AV.d])]
      have : eOp (o2 wIx) [(eV 0), (eC (.int 1))] [some (AV.trade u i g kd n).d] S = some (.int u, S) := by simp [AV.d]
      rw [this, DM, Kk (by simp at h ⊢; omega)]
      simp [HD, List.filterMap_cons]
    | bring => rw [Iw Al hz ht (S1 := S) (by simp [AV.d]), Kk (by simp at h ⊢; omega)]; simp [HD, List.filterMap_cons]
    | pool => rw [Iw Al hz ht (S1 := S) (by simp [AV.d]), Kk (by simp at h ⊢; omega)]; simp [HD, List.filterMap_cons]
    | swap => rw [Iw Al hz ht (S1 := S) (by simp [AV.d]), Kk (by simp at h ⊢; omega)]; simp [HD, List.filterMap_cons]
    | spoil => rw [Iw Al hz ht (S1 := S) (by simp [AV.d]), Kk (by simp at h ⊢; omega)]; simp [HD, List.filterMap_cons]
    | thr => rw [Iw Al hz ht (S1 := S) (by simp [AV.d]), Kk (by simp at h ⊢; omega)]; simp [HD, List.filterMap_cons]
    | sell => rw [Iw Al hz ht (S1 := S) (by simp [AV.d]), Kk (by simp at h ⊢; omega)]; simp [HD, List.filterMap_cons]
theorem SR {ds : List AV} {d : AV} (hd : ds.length ≤ 50) (hn : st.nums = ds.filterMap HD) (hc : Can t st d) : CS [A1 st.loads, .tup (ds.map AV.d), d.d] S = some (.bl true, S) := by
  cases d with
  | bring p kd n => simp [CS, Dk, AV.d]
  | pool i j =>
    obtain ⟨hij, hi, hj, h1, h2, h3⟩ := hc
    have e := QJ (S := S) hi hj h1 h2 h3
    simp [CS, Dk, AV.d, e]
  | swap i g kd n =>
    obtain ⟨hi, h1, h2, h3, h4, h5, h6⟩ := hc
    have e := MJ (S := S) (k := kd) hi h2 h4
    simp [CS, Dk, AV.d, e]
  | trade u i g kd n =>
    obtain ⟨hi, h1, h2, h3, h4, h5, h6, h7, h8⟩ := hc
    have e := MJ (S := S) (k := kd) hi h2 h4
    have tc := Kk (S := S) (ds := ds) (acc := []) (o := none) (by simp; omega)
    rw [← hn] at tc
    have fi := Pa (us := st.nums)
    have ii := RH (us := st.nums) (i := u)
    have iu : (st.nums.any fun x => x == u) = false := by
      rw [List.any_eq_false]
      intro x hx z
      have : x = u := by simpa using z
      exact h7 (this ▸ hx)
    rw [iu] at ii
    generalize st.nums.map D.int = ud at *
    simp [CS, Dk, AV.d, tc, fi, ii, e]
  | spoil i n =>
    obtain ⟨hi, h1, h2⟩ := hc
    have e := Pj (S := S) hi h2
    simp [CS, Dk, AV.d, e]
  | thr i n ws =>
    obtain ⟨hi, h1, h2, h3, h4⟩ := hc
    have e := Pj (S := S) hi h2
    simp [CS, Dk, AV.d, e]
  | sell p q x => simp [CS, Dk, AV.d]
end
section
variable {S : Sto} {st : Stt} {t : Tr} {k : Nat}
theorem Qh {ss os : List Rat} : MY (ss.map aD) (os.map aD) = (ss.zip os).map fun z => D.tup [aD z.1, aD z.2] := by
 unfold MY
 rw [List.zip_map, List.map_map]
 rfl
def Ya (w m : Int) (ss os : List Rat) : List Rat := List.zipWith (fun s o => (s * w + o * m) / (w + m)) ss os
theorem Ct {w m : Int} {ss os : List Rat} {j n : Nat} (hs : ∀ r ∈ ss, Sz j r) (ho : ∀ r ∈ os, Sz j r) (hw : w.natAbs < 2 ^ n) (hm : m.natAbs < 2 ^ n) (h : 0 < w + m) (hj : 2 * j + n + 1 ≤ 7990) (hl : ss.length ≤ 10) : Cm [shD ss, .int w, shD os, .int m] S = some (shD (Ya w m ss os), S) := by
 have e := Cr (gs := []) (t := tTp [(tNm 2), (tNm 3)]) (f := AK Hx [(eV 2), (eV 0), (eV 3), (eV 1)]) (C := [some (.int w), some (.int m)]) (m := 2) (e := fun z : Rat × Rat => D.tup [aD z.1, aD z.2]) (g := fun z => aD ((z.1 * w + z.2 * m) / (w + m))) (S := S) Al (xs := ss.zip os) (acc := []) (os := [none, none]) rfl (Nat.le_trans (show _ ≤ 50 by simp; omega) (AX (by decide))) (by
  intro z hz os' ho'
  obtain ⟨q1, q2, rfl⟩ : ∃ q1 q2, os' = [q1, q2] := by
   match os', ho' with
   | [a, b], _ => exact ⟨a, b, rfl⟩
  have hm2 := List.of_mem_zip (a := z.1) (b := z.2) hz
  have l := Zt (S := S) (hs _ hm2.1) (ho _ hm2.2) hw hm h (by omega)
  refine ⟨[some (aD z.1), some (aD z.2)], rfl, by simp, ?_⟩
  simp [l])
 rw [← Qh] at e
 have em : (ss.zip os).map (fun z => aD ((z.1 * w + z.2 * m) / (w + m))) = (Ya w m ss os).map aD := by
  unfold Ya
  rw [← List.map_uncurry_zip_eq_zipWith, List.map_map]
  rfl
 rw [em] at e
 simp only [List.cons_append, List.nil_append] at e
 simp [Cm, HF, e, UU]
theorem JV {P p : Nat} (hP : P ≤ 10) : Cn [.int P, .int p] S = some (shD (Pc P p), S) := by
 have e := RD (S := S) (P := P) (p := p) (cond := 0) (C := []) (dd := .int p) (f := eIf (eOp (o2 wEq) [(eV 1), (eV 0)]) (eC Tb) (eC Dx)) hP (by
  intro i
  by_cases hi : i = p
  ·subst hi; simp; rfl
  ·have : ((i : Int) == (p : Int)) = false := by simp; omega
   simp [this, hi]; rfl)
 have rn : IW (P : Int) = true := DR (by omega) (by omega)
 simp [Cn, IZ, rn, e, UU]
theorem Gp {n m : Int} {ss os : List Rat} : Ya n m ss os = B5 n m ss os := by
 unfold Ya B5
 congr 1
 funext s o
 push_cast
 rfl
theorem Lz {n m : Int} {ss os : List Rat} : B5 n m ss os = B5 m n os ss := by
 unfold B5
 rw [List.zipWith_comm]
 congr 1
 funext o s
 push_cast
 grind
@[simp] theorem Tx {a b : Int} : Ma [a, b] = if a ≤ b then [a, b] else [b, a] := by
 unfold Ma
 simp [List.mergeSort, List.MergeSort.Internal.splitInTwo, List.merge]
@[simp] theorem X2 {a b : Int} : Ni (.val (.lst [.int a, .int b])) = some (.own ((if a ≤ b then [a, b] else [b, a]).map D.int)) := by
 have : Ni (.val (.lst [.int a, .int b])) = some (.own ((Ma [a, b]).map D.int)) := rfl
 rw [this, Tx]
@[simp] theorem cY {a b c d e : D} : atI [a, b, c, d, e] (-4) = some b := nr rfl
@[simp] theorem cn {a b c d e f : D} : atI [a, b, c, d, e, f] (-4) = some c := nr rfl
theorem TU {i j : Nat} (ht : JE t) (h : Es t k st) (hk : k ≤ 17) (hc : Can t st (.pool i j)) : Ae [A1 st.loads, J0 st.loads, (AV.pool i j).d] S = some (shD (B5 (AR st.loads i).n (AR st.loads j).n (AR st.loads i).ow (AR st.loads j).ow), S) := by
 obtain ⟨hij, hi, hj, h1, h2, h3⟩ := hc
 have sz := h.sz
 have pi := h.pcs _ (AW hi)
 have pj := h.pcs _ (AW hj)
 have ti := h.own _ (AW hi)
 have tj := h.own _ (AW hj)
 have zi := sz.1 _ (AW hi)
 have zj := sz.1 _ (AW hj)
 have hp : t.p ≤ 10 := by have := ht.2.1; omega
 ·by_cases hle : i ≤ j
  ·have hle' : (i : Int) ≤ j := by omega
   have e := Ct (S := S) (j := 30 + 170 * k) (n := 131 + k) zi zj (Dw pi.1 pi.2) (Dw pj.1 pj.2) (by omega) (by omega) (by omega)
   rw [Gp] at e
   have a1 := EA hi
   have a2 := EA hj
   have b1 := Hl hi
   have b2 := Hl hj
   have mf : A5 [(AV.pool i j).d] S = some (.lst [.int i, .int j], S) := by
    simp [A5, Bw, AV.d, hle, hle']
   simp only [AV.d] at mf ⊢
   simp [Ae, BW, mf, a1, a2, b1, b2, e]
  ·have hle' : ¬ (i : Int) ≤ j := by omega
   have e := Ct (S := S) (j := 30 + 170 * k) (n := 131 + k) zj zi (Dw pj.1 pj.2) (Dw pi.1 pi.2) (by omega) (by omega) (by omega)
   rw [Gp, Lz] at e
   have a1 := EA hi
   have a2 := EA hj
   have b1 := Hl hi
   have b2 := Hl hj
   have mf : A5 [(AV.pool i j).d] S = some (.lst [.int j, .int i], S) := by
    simp [A5, Bw, AV.d, hle, hle']
   simp only [AV.d] at mf ⊢
   simp [Ae, BW, mf, a1, a2, b1, b2, e]
theorem Uh {i kd : Nat} {g n : Int} (hi : i < st.loads.length) : Ae [A1 st.loads, J0 st.loads, (AV.swap i g kd n).d] S = some (shD (AR st.loads i).ow, S) := by
 have b1 := Hl hi
 simp [Ae, BW, A5, Bw, AV.d, b1]
theorem RZ {i kd : Nat} {u g n : Int} (hi : i < st.loads.length) : Ae [A1 st.loads, J0 st.loads, (AV.trade u i g kd n).d] S = some (shD (AR st.loads i).ow, S) := by
 have b1 := Hl hi
 simp [Ae, BW, A5, Bw, AV.d, b1]
theorem Vq {ws : List Int} (h : Es t k st) (hk : k ≤ 17) (hl : ws.length = t.k + 1) (hw : ∀ w ∈ ws, 1 ≤ w /\ w ≤ 99) : DP [t.d, A1 st.loads, .tup (ws.map D.int)] S = some (.int (DN t st.loads ws), S) := by
 have hlen := h.len
 have e := Cr (gs := []) (t := tTp [(tNm 1), (tNm 2)]) (f := eOp (o2 B8) [(eV 2), (eOp (o2 wIx) [(eV 0), (eV 1)])]) (C := [some (.tup (ws.map D.int))]) (m := 2) (e := hD) (g := fun x => D.int (x.n * ws.getD x.k 0)) (S := S) Al (xs := st.loads) (acc := []) (os := [none, none]) rfl (Nat.le_trans (show _ ≤ 50 by simp; omega) (AX (by decide))) (by
  intro x hx os ho
  obtain ⟨q1, q2, rfl⟩ : ∃ q1 q2, os = [q1, q2] := by
   match os, ho with
   | [a, b], _ => exact ⟨a, b, rfl⟩
  have hkk := h.kind _ hx
  have w1 := Qy (ws := ws) (i := x.k) (by omega)
  have w2 := Lk hw (i := x.k) (by omega)
  have m1 : Dp x.n (ws.getD x.k 0) = true := mulR (by omega) (by omega)
  generalize ws.getD x.k 0 = wz at *
  refine ⟨[some (.int x.k), some (.int x.n)], rfl, by simp, ?_⟩
  simp [w1, m1])
 simp only [List.cons_append, List.nil_append] at e
 have es : K1 (st.loads.map fun x => D.int (x.n * ws.getD x.k 0)) = some (st.loads.map fun x => x.n * ws.getD x.k 0) := by
  have := FY (st.loads.map fun x => x.n * ws.getD x.k 0)
  rwa [List.map_map] at this
 have w2 := Nf hl
 have w4 := Lk hw (i := t.k) (by omega)
 have m2 : Dp (t.b : Int) (ws.getD t.k 0) = true := mulR (by omega) (by omega)
 have e2 : DN t st.loads ws = (st.loads.map fun x => x.n * ws.getD x.k 0).sum + t.b * ws.getD t.k 0 := rfl
 rw [e2]
 have sq : sqD S (A1 st.loads) = some (st.loads.map hD, []) := rfl
 generalize (st.loads.map fun x => x.n * ws.getD x.k 0) = es' at *
 generalize (st.loads.map fun x => D.int (x.n * ws.getD x.k 0)) = es2 at *
 generalize ws.getD t.k 0 = wb at *
 simp [DP, HJ, Tr.d, sq, e, es, w2, m2]
theorem YA {i : Nat} {n : Int} {ws : List Int} (ht : JE t) (h : Es t k st) (hk : k ≤ 17) (hc : Can t st (.thr i n ws)) : EC [t.d, A1 st.loads, (AV.thr i n ws).d] S = some (aD (JA t st.loads i n ws), S) := by
 obtain ⟨hi, h1, h2, hl, hw⟩ := hc
 have a := H0 ht h (by omega) hl hw
 have w1 := Qy (ws := ws) (i := (AR st.loads i).k) (by have := h.kind _ (AW hi); omega)
 have w3 := Lk hw (i := (AR st.loads i).k) (by have := h.kind _ (AW hi); omega)
 have m1 : Dp n (ws.getD (AR st.loads i).k 0) = true := mulR (by omega) (by omega)
 have l1 := Sn (S := S) (t := n * ws.getD (AR st.loads i).k 0) a.1 (DL (Dw (by omega) a.2) (by omega))
 have wo := Vq (S := S) h hk hl hw
 have ah := EA hi
 rw [LH hi]
 generalize aD (((n * ws.getD (AR st.loads i).k 0 : Int) : Rat) / (DN t st.loads ws : Rat)) = R at *
 generalize ws.getD (AR st.loads i).k 0 = wa at *
 simp [EC, Hd, AV.d, ah, w1, m1, wo, l1]
theorem TL {X : Rat} {ss os : List Rat} : Ya ((X.den : Int) - X.num) X.num ss os = GO X os ss := by
 unfold Ya GO
 congr 1
 funext s o
 have h1 := D9 X
 have h2 := Ij X
 push_cast
 have e : ((X.den : Rat) - (X.num : Rat) + (X.num : Rat)) = (X.den : Rat) := by grind
 rw [e]
 grind
theorem T6 {i : Nat} {n : Int} {ws : List Int} {ss : List Rat} (ht : JE t) (h : Es t k st) (hk : k ≤ 17) (hc : Can t st (.thr i n ws)) (hs : ∀ r ∈ ss, Sz (30 + 170 * k) r) (hl : ss.length ≤ 10) : C3 [t.d, A1 st.loads, J0 st.loads, (AV.thr i n ws).d, shD ss] S = some (shD (GO (JA t st.loads i n ws) (AR st.loads i).ow ss), S) := by
 have pt := YA (S := S) ht h hk hc
 obtain ⟨hi, h1, h2, hl', hw⟩ := hc
 have cz := TJ ht h (by omega) hl' hw hi h1 h2
 have b1 := Hl hi
 generalize JA t st.loads i n ws = X at *
 have d0 := den_pos X
 have c2 := cz.2
 have e := Ct (S := S) (w := (X.den : Int) - X.num) (m := X.num) (j := 30 + 170 * k) (n := 146 + k) hs (h.sz.1 _ (AW hi)) (by
  have c1 := cz.1
  have : 2 ^ (146 + k) = 2 ^ (145 + k) * 2 := by rw [show 146 + k = (145 + k) + 1 by omega, Nat.pow_succ]
  generalize 2 ^ (145 + k) = P at *
  omega) (Yi cz.1 (by omega)) (by omega) (by omega) hl
 rw [TL] at e
 generalize GO X (AR st.loads i).ow ss = rs at *
 simp only [aD, AV.d] at pt ⊢
 simp [C3, GR, pt, b1, e]
theorem SG {p q : Nat} {x : Rat} {ss : List Rat} {j i : Nat} (hs : ∀ r ∈ ss, Sz j r) (hx : Sz i x) (hj : 2 * j + i ≤ 7900) (hp : p < ss.length) (hq : q < ss.length) (hpq : p ≠ q) : ∃ S', D5 [(AV.sell p q x).d, shD ss] S = some (shD (Fs p q x ss), S') /\ Ci [] S S' := by
 have sp := hs _ (getD_mem (d := 0) hp)
 have sq := hs _ (getD_mem (d := 0) hq)
 have l1 : ∀ S, FX [aD (ss.getD p 0), aD x] S = some (aD (ss.getD p 0 * x), S) := fun S => XI sp hx (by omega)
 have s1 := NN sp hx
 have l2 : ∀ S, G7 [aD (ss.getD p 0), aD (ss.getD p 0 * x)] S = some (aD (ss.getD p 0 - ss.getD p 0 * x), S) := fun S => Zy sp s1 (by omega)
 have l3 : ∀ S, G8 [aD (ss.getD q 0), aD (ss.getD p 0 * x)] S = some (aD (ss.getD q 0 + ss.getD p 0 * x), S) := fun S => Z4 sq s1 (by omega)
 have a1 := UZ hp
 have a2 := UZ hq
 have i1 := W9 hp
 have i2 : ixN (((ss.map aD).set p (aD (ss.getD p 0 - ss.getD p 0 * x))).length) (q : Int) = some q := L5 (by simpa using hq)
 refine ⟨S ++ [.lst ((Fs p q x ss).map aD)], ?_, .app⟩
 simp only [List.length_set, List.length_map] at i1 i2
 have em : (Fs p q x ss).map aD = ((ss.map aD).set p (aD (ss.getD p 0 - ss.getD p 0 * x))).set q (aD (ss.getD q 0 + ss.getD p 0 * x)) := by rw [Fs, List.map_set, List.map_set]
 unfold shD
 rw [em]
 generalize aD (ss.getD p 0 - ss.getD p 0 * x) = d1 at *
 generalize aD (ss.getD q 0 + ss.getD p 0 * x) = d2 at *
 generalize aD (ss.getD p 0 * x) = d3 at *
 generalize aD (ss.getD p 0) = d4 at *
 generalize aD (ss.getD q 0) = d5 at *
 simp [D5, HM, AV.d, a1, a2, l1, l2, l3, i1, i2]
end
theorem Oe {α : Type} {gs : Gd} {t : Tf} {f : Ev} {C : En} {m : Nat} {e g : α -> D} (hg : ∀ S, gOk gs S) : ∀ {xs : List α} {acc : List D} {os : En} {S : Sto}, os.length = m -> acc.length + xs.length ≤ sizeLine ->
    (∀ x ∈ xs, ∀ os S, os.length = m -> ∃ us S', us.length = m /\ t (e x) (C ++ os) S = some (C ++ us) /\ f (C ++ us) S = some (g x, S') /\ Ci [] S S') ->
    ∃ S', CJ gs t Bx f (xs.map e) acc (C ++ os) S = some (acc ++ xs.map g, S') /\ Ci [] S S'
  | [], acc, os, S, ho, hz, h => ⟨S, by rw [List.map_nil, El (hg S)]; simp, .refl⟩
  | x :: xs, acc, os, S, ho, hz, h => by
    obtain ⟨us, S1, hu, e1, e2, s1⟩ := h x List.mem_cons_self os S ho
    obtain ⟨S2, e3, s2⟩ := Oe hg (xs := xs) (acc := acc ++ [g x]) (os := us) (S := S1) hu (by simp at hz ⊢; omega) fun x' hx => h x' (List.mem_cons_of_mem _ hx)
    refine ⟨S2, ?_, s1.trans s2⟩
    rw [List.map_cons, HX (hg S) (by simp at hz; omega) e1 GS, e2, DM, e3]
    simp
section
variable {S : Sto} {st : Stt} {t : Tr} {k : Nat}
def shB (t : Tr) (st : Stt) : AV -> List Rat -> List Rat
 | .thr i n ws, ss => GO (JA t st.loads i n ws) (AR st.loads i).ow ss
 | .sell p q x, ss => Fs p q x ss
 | _, ss => ss
theorem Oh {d : AV} {ss : List Rat} (ht : JE t) (h : Es t k st) (hk : k ≤ 17) (hc : Can t st d) (hs : ∀ r ∈ ss, Sz (30 + 170 * k) r) (hl : ss.length = t.p) : ∃ S', An [t.d, A1 st.loads, J0 st.loads, d.d, shD ss] S = some (shD (shB t st d ss), S') /\ Ci [] S S' := by
  have tp := ht.2.1
  cases d with
  | thr i n ws =>
    have e := T6 (S := S) ht h hk hc hs (by omega)
    refine ⟨S, ?_, .refl⟩
    simp only [AV.d] at e ⊢
    simp [An, BK, e, shB]
  | sell p q x =>
    obtain ⟨hpq, hp, hq, x1, x2, x3⟩ := hc
    have hx : Sz 4 x := by
      refine ⟨?_, by omega⟩
      show x.num.natAbs < 16
      omega
    obtain ⟨S', e, sm⟩ := SG (S := S) (p := p) (q := q) hs hx (by omega) (by omega) (by omega) hpq
    refine ⟨S', ?_, sm⟩
    simp only [AV.d] at e ⊢
    simp [An, BK, e, shB]
  | bring p kd n => exact ⟨S, by simp [An, BK, AV.d, shB], .refl⟩
  | pool i j => exact ⟨S, by simp [An, BK, AV.d, shB], .refl⟩
  | swap i g kd n => exact ⟨S, by simp [An, BK, AV.d, shB], .refl⟩
  | trade u i g kd n => exact ⟨S, by simp [An, BK, AV.d, shB], .refl⟩
  | spoil i n => exact ⟨S, by simp [An, BK, AV.d, shB], .refl⟩
theorem Sm {d : AV} : (step t st d).hold = shB t st d st.hold := by cases d <;> rfl
theorem J4 {i : Nat} {n : Int} {ls : List Ld} (hi : i < ls.length) {β : Type} (f : List Rat -> β) : (less ls i n).map (fun x => f x.ow) = ls.map fun x => f x.ow := by
 rw [N7, List.map_set]
 have : (ls.map fun x => f x.ow)[i]? = some (f (AR ls i).ow) := by rw [List.getElem?_map, FD hi]; rfl
 apply List.ext_getElem?
 intro j
 by_cases e : i = j
 ·subst e; rw [List.getElem?_set_self (by simpa using hi), this]
 ·rw [List.getElem?_set_ne e]
@[simp] theorem fY {ls : List Ld} : sqD S (J0 ls) = some (ls.map fun x => shD x.ow, []) := nr rfl
theorem Ts {d : AV} (ht : JE t) (h : Es t k st) (hk : k ≤ 17) (hc : Can t st d) : ∃ S', Av [t.d, A1 st.loads, J0 st.loads, d.d] S = some (J0 (step t st d).loads, S') /\ Ci [] S S' := by
  have hlen := h.len
  have sz := h.sz
  have tp := ht.2.1
  obtain ⟨S', e, sm⟩ := Oe (gs := []) (t := tNm 4) (f := AK An [(eV 0), (eV 1), (eV 2), (eV 3), (eV 4)]) (C := [some t.d, some (A1 st.loads), some (J0 st.loads), some d.d]) (m := 1) (e := fun x : Ld => shD x.ow) (g := fun x => shD (shB t st d x.ow)) (fun _ => Al) (xs := st.loads) (acc := []) (os := [none]) (S := S) rfl (Nat.le_trans (show _ ≤ 50 by simp; omega) (AX (by decide))) (by
    intro x hx os S0 ho
    obtain ⟨q1, rfl⟩ : ∃ q1, os = [q1] := by
      match os, ho with
      | [a], _ => exact ⟨a, rfl⟩
    obtain ⟨S1, e1, s1⟩ := Oh (S := S0) (d := d) (ss := x.ow) ht h hk hc (sz.1 x hx) (h.own x hx)
    refine ⟨[some (shD x.ow)], S1, rfl, by simp, ?_, s1⟩
    simp [e1])
  simp only [List.cons_append, List.nil_append] at e
  refine ⟨S', ?_, sm⟩
  have hz : (st.loads.map fun x => shD (shB t st d x.ow)).length + 1 ≤ sizeLine := Nat.le_trans (show _ ≤ 100 by simp; omega) (AX (by decide))
  cases d with
  | bring p kd n =>
    have a1 := JV (S := S') (P := t.p) (p := p) (by omega)
    have ef : J0 (step t st (.bring p kd n)).loads = .lst ((st.loads.map fun x => shD (shB t st (.bring p kd n) x.ow)) ++ [shD (Pc t.p p)]) := by simp [J0, step, shB]
    rw [ef]
    generalize (st.loads.map fun x => shD (shB t st (.bring p kd n) x.ow)) = A at *
    simp only [AV.d, Tr.d] at e ⊢
    simp [Av, BO, e, a1, hz]
  | pool i j =>
    have a1 := TU (S := S') ht h hk hc
    obtain ⟨hij, hi, hj, h1, h2, h3⟩ := hc
    have e0 : AR (less st.loads i (AR st.loads i).n) j = AR st.loads j := by
      unfold AR less
      rw [List.getD_eq_getElem?_getD, List.getElem?_set_ne hij, ← List.getD_eq_getElem?_getD]
    have ef : J0 (step t st (.pool i j)).loads = .lst ((st.loads.map fun x => shD (shB t st (.pool i j) x.ow)) ++ [shD (B5 (AR st.loads i).n (AR st.loads j).n (AR st.loads i).ow (AR st.loads j).ow)]) := by
      show D.lst ((less (less st.loads i (AR st.loads i).n) j (AR st.loads j).n ++ [_]).map fun x : Ld => shD x.ow) = _
      rw [List.map_append, J4 (by rw [Ce]; exact hj), J4 hi]
      rfl
    rw [ef]
    generalize (st.loads.map fun x => shD (shB t st (.pool i j) x.ow)) = A at *
    simp only [AV.d] at e a1 ⊢
    simp [Av, BO, e, a1, hz]
  | swap i g kd n =>
    have hi := hc.1
    have a1 := Uh (S := S') (st := st) (i := i) (kd := kd) (g := g) (n := n) hi
    have ef : J0 (step t st (.swap i g kd n)).loads = .lst ((st.loads.map fun x => shD (shB t st (.swap i g kd n) x.ow)) ++ [shD (AR st.loads i).ow]) := by
      show D.lst ((less st.loads i g ++ [_]).map fun x : Ld => shD x.ow) = _
      rw [List.map_append, J4 hi]
      rfl
    rw [ef]
    generalize (st.loads.map fun x => shD (shB t st (.swap i g kd n) x.ow)) = A at *
    simp only [AV.d] at e a1 ⊢
    simp [Av, BO, e, a1, hz]
  | trade u i g kd n =>
    have hi := hc.1
    have a1 := RZ (S := S') (st := st) (i := i) (kd := kd) (u := u) (g := g) (n := n) hi
    have ef : J0 (step t st (.trade u i g kd n)).loads = .lst ((st.loads.map fun x => shD (shB t st (.trade u i g kd n) x.ow)) ++ [shD (AR st.loads i).ow]) := by
      show D.lst ((less st.loads i g ++ [_]).map fun x : Ld => shD x.ow) = _
      rw [List.map_append, J4 hi]
      rfl
    rw [ef]
    generalize (st.loads.map fun x => shD (shB t st (.trade u i g kd n) x.ow)) = A at *
    simp only [AV.d] at e a1 ⊢
    simp [Av, BO, e, a1, hz]
  | spoil i n =>
    have ef : J0 (step t st (.spoil i n)).loads = .lst (st.loads.map fun x => shD (shB t st (.spoil i n) x.ow)) := by
      show D.lst ((less st.loads i n).map fun x : Ld => shD x.ow) = _
      rw [J4 hc.1]
      rfl
    rw [ef]
    generalize (st.loads.map fun x => shD (shB t st (.spoil i n) x.ow)) = A at *
    simp only [AV.d] at e ⊢
    simp [Av, BO, e]
  | thr i n ws =>
    have ef : J0 (step t st (.thr i n ws)).loads = .lst (st.loads.map fun x => shD (shB t st (.thr i n ws) x.ow)) := by
      show D.lst (((less st.loads i n).map _).map fun x : Ld => shD x.ow) = _
      rw [List.map_map]
      exact congrArg D.lst (J4 hc.1 (fun o => shD (GO (JA t st.loads i n ws) (AR st.loads i).ow o)))
    rw [ef]
    generalize (st.loads.map fun x => shD (shB t st (.thr i n ws) x.ow)) = A at *
    simp only [AV.d] at e ⊢
    simp [Av, BO, e]
  | sell p q x =>
    have ef : J0 (step t st (.sell p q x)).loads = .lst (st.loads.map fun y => shD (shB t st (.sell p q x) y.ow)) := by
      show D.lst ((st.loads.map _).map fun y : Ld => shD y.ow) = _
      rw [List.map_map]
      rfl
    rw [ef]
    generalize (st.loads.map fun y => shD (shB t st (.sell p q x) y.ow)) = A at *
    simp only [AV.d] at e ⊢
    simp [Av, BO, e]
theorem IA {ls : List Ld} {x y : D} (hl : ls.length ≤ 50) : BS [.tup [x, .tup (ls.map Ld.d), y]] S = some (A1 ls, S) := by
 have e := Cr (gs := []) (t := tNm 0) (f := DF [(eOp (o2 wIx) [(eV 0), (eC (.int 0))]), (eOp (o2 wIx) [(eV 0), (eC (.int 1))])]) (C := []) (m := 1) (e := Ld.d) (g := hD) (S := S) Al (xs := ls) (acc := []) (os := [none]) rfl (Nat.le_trans (show _ ≤ 50 by simp; omega) (AX (by decide))) (by
  intro x hx os ho
  obtain ⟨q1, rfl⟩ : ∃ q1, os = [q1] := by
   match os, ho with
   | [a], _ => exact ⟨a, rfl⟩
  refine ⟨[some x.d], rfl, by simp, ?_⟩
  simp [Ld.d, hD])
 simp only [List.nil_append] at e
 simp [BS, GP, e, A1]
theorem Oj {ls : List Ld} (hl : ls.length ≤ 50) : CJ [] (tNm 0) Bx (eOp (o2 wIx) [(eV 0), (eC (.int 2))]) (ls.map Ld.d) [] [none] S = some (ls.map fun x => shD x.ow, S) :=
 Cr (gs := []) (t := tNm 0) (f := eOp (o2 wIx) [(eV 0), (eC (.int 2))]) (C := []) (m := 1) (e := Ld.d) (g := fun x => shD x.ow) (S := S) Al (xs := ls) (acc := []) (os := [none]) rfl (Nat.le_trans (show _ ≤ 50 by simp; omega) (AX (by decide))) (by
  intro x hx os ho
  obtain ⟨q1, rfl⟩ : ∃ q1, os = [q1] := by
   match os, ho with
   | [a], _ => exact ⟨a, rfl⟩
  refine ⟨[some x.d], rfl, by simp, ?_⟩
  simp [Ld.d])
theorem VI {ls : List Ld} {ds : List AV} {n : Nat} (h : A9 t ls ds) (hn : n ≤ ds.length) : ∃ S', Fw [Ac t ls ds, .int n] S = some (.tup [A1 (runs t (st0 t ls) (ds.take n)).loads, J0 (runs t (st0 t ls) (ds.take n)).loads, shD (runs t (st0 t ls) (ds.take n)).hold], S') /\ Ci [] S S' := by
 have hl0 : ls.length ≤ 4 := h.inv.len
 have ct : Jv (ds.map AV.d) none (some (n : Int)) = (ds.take n).map AV.d := by rw [JP (by simpa using hn), List.map_take]
 obtain ⟨E', S', ef, i, o, f1, f2, rfl, f3⟩ := EN (gs := []) (t := tNm 8) (b := Am (Bs 7 (AK An [(eV 2), (eV 5), (eV 6), (eV 8), (eV 7)]))
  (Am (Bs 6 (AK Av [(eV 2), (eV 5), (eV 6), (eV 8)]))
  (Bs 5 (AK Ad [(eV 5), (eV 8)]))))
  (I := fun rs E S' => ∃ (i : Nat) (o : Option D), rs = ((ds.take n).drop i).map AV.d /\ i ≤ n /\ E = [some (Ac t ls ds), some (.int n), some t.d, some (.tup (ls.map Ld.d)), some (.tup (ds.map AV.d)), some (A1 (runs t (st0 t ls) (ds.take i)).loads), some (J0 (runs t (st0 t ls) (ds.take i)).loads), some (shD (runs t (st0 t ls) (ds.take i)).hold), o] /\ Ci [] S S')
  (fun _ _ _ _ => Al) (ds := (ds.take n).map AV.d) (E := [some (Ac t ls ds), some (.int n), some t.d, some (.tup (ls.map Ld.d)), some (.tup (ds.map AV.d)), some (A1 ls), some (J0 ls), some (shD t.ho), none]) (S := S)
  ⟨0, none, by simp, Nat.zero_le _, by simp [runs, st0], .refl⟩ (by
   rintro dd rs E T ⟨i, o, i1, i2, rfl, i3⟩
   have hlt : i < (ds.take n).length := by
    rcases Nat.lt_or_ge i (ds.take n).length with w | w
    ·exact w
    ·rw [List.drop_eq_nil_of_le w] at i1; cases i1
   rw [List.drop_eq_getElem_cons hlt, List.map_cons] at i1
   injection i1 with z1 z2
   subst z1 z2
   have hlt' : i < ds.length := by simp at hlt; omega
   have hin : i < n := by simp at hlt; omega
   have hg : (ds.take n)[i] = ds[i] := List.getElem_take
   rw [hg]
   have inv := h.at i
   have il : (ds.take i).length ≤ 16 := by have := h.len; simp; omega
   have can := IH h.good (List.getElem?_eq_getElem hlt')
   obtain ⟨T1, e1, s1⟩ := Oh (S := T) h.tr inv (by omega) can inv.sz.2 inv.hold
   obtain ⟨T2, e2, s2⟩ := Ts (S := T1) h.tr inv (by omega) can
   have e3 := Jl (S := T2) inv (by omega) can
   have rt := Jp (t := t) (st := st0 t ls) (List.getElem?_eq_getElem hlt')
   refine ⟨_, [some (Ac t ls ds), some (.int n), some t.d, some (.tup (ls.map Ld.d)), some (.tup (ds.map AV.d)), some (A1 (runs t (st0 t ls) (ds.take (i + 1))).loads), some (J0 (runs t (st0 t ls) (ds.take (i + 1))).loads), some (shD (runs t (st0 t ls) (ds.take (i + 1))).hold), some ds[i].d], T2, by simp; rfl, ?_, i + 1, some ds[i].d, rfl, hin, rfl, (i3.trans s1).trans s2⟩
   rw [rt]
   rw [← Sm] at e1
   simp [e1, e2, e3])
 have hz : i = n := by
  have := congrArg List.length f1
  simp at this
  omega
 subst hz
 refine ⟨S', ?_, f3⟩
 have fh := IA (S := S) (ls := ls) (x := t.d) (y := .tup (ds.map AV.d)) (by omega)
 have fo := Oj (S := S) (ls := ls) (by omega)
 have fo' : D.lst (ls.map fun x => shD x.ow) = J0 ls := rfl
 have th : atI [D.int t.p, D.int t.k, D.int t.b, shD t.ho, D.int t.h, D.int t.l] 3 = some (shD t.ho) := by simp
 simp only [Ac] at ef ⊢
 have td : wIx (.val t.d) (.val (.int 3)) = some (.val (shD t.ho)) := by simp [Tr.d]
 have dt : dr S t.d = .val t.d := rfl
 rw [List.map_take] at ef ct
 simp [Fw, Kr, fh, fo, fo', -Sk, td, dt, ct, ef]
theorem MX {ls : List Ld} {ds : List AV} (h : A9 t ls ds) : Ds [Ac t ls ds] S = some (.non, S) := by
 have hl0 : ls.length ≤ 4 := h.inv.len
 have hd := h.len
 obtain ⟨E', S', ef, i, o1, o2, f1, f2, rfl, rfl⟩ := EN (gs := []) (t := tTp [(tNm 3), (tNm 4)]) (b := Am (xIf (WR (AK CS [(eV 1), (eOp (Ju false true) [(eV 2), (eV 3)]), (eV 4)])) (BV (eV 3)) EB)
  (Bs 1 (AK Ad [(eV 1), (eV 4)])))
  (I := fun rs E S' => ∃ (i : Nat) (o1 o2 : Option D), rs = (QE 0 (ds.map AV.d)).drop i /\ i ≤ ds.length /\ E = [some (Ac t ls ds), some (A1 (runs t (st0 t ls) (ds.take i)).loads), some (.tup (ds.map AV.d)), o1, o2] /\ S' = S)
  (fun _ _ _ _ => Al) (ds := QE 0 (ds.map AV.d)) (E := [some (Ac t ls ds), some (A1 ls), some (.tup (ds.map AV.d)), none, none]) (S := S)
  ⟨0, none, none, by simp, Nat.zero_le _, by simp [runs, st0], rfl⟩ (by
   rintro dd rs E T ⟨i, o1, o2, i1, i2, rfl, rfl⟩
   have el : (QE 0 (ds.map AV.d)).length = ds.length := by rw [MT]; simp
   have hlt : i < ds.length := by
    rcases Nat.lt_or_ge i ds.length with w | w
    ·exact w
    ·rw [List.drop_eq_nil_of_le (by omega)] at i1; cases i1
   rw [List.drop_eq_getElem_cons (by omega)] at i1
   injection i1 with z1 z2
   have hd1 : dd = .tup [.int i, ds[i].d] := by
    have := LA (ds := ds.map AV.d) (k := 0) (i := i)
    rw [List.getElem?_eq_getElem (by omega), ← z1, List.getElem?_map, List.getElem?_eq_getElem hlt] at this
    simpa using this
   subst z2
   subst hd1
   have inv := h.at i
   have il : (ds.take i).length ≤ 16 := by simp; omega
   have can := IH h.good (List.getElem?_eq_getElem hlt)
   have cd := SR (S := T) (ds := ds.take i) (by omega) Ue can
   have e3 := Jl (S := T) inv (by omega) can
   have rt := Jp (t := t) (st := st0 t ls) (List.getElem?_eq_getElem hlt)
   have ct := JP (ds := ds.map AV.d) (n := i) (by simp; omega)
   rw [List.map_take] at cd
   refine ⟨_, [some (Ac t ls ds), some (A1 (runs t (st0 t ls) (ds.take (i + 1))).loads), some (.tup (ds.map AV.d)), some (.int i), some ds[i].d], T, by simp; rfl, ?_, i + 1, some (.int i), some ds[i].d, rfl, hlt, rfl, rfl⟩
   rw [rt]
   simp [ct, cd, e3])
 have fh := IA (S := S') (ls := ls) (x := t.d) (y := .tup (ds.map AV.d)) (by omega)
 simp only [Ac] at ef ⊢
 simp [Ds, Hb, fh, ef]
theorem HY {ls : List Ld} {ds : List AV} (h : A9 t ls ds) : BM [Ac t ls ds] S = some (.non, S) := by
 have e := MX (S := S) h
 simp [BM, GL, e, isN]
theorem PD {ls : List Ld} {ds : List AV} {n : Nat} (hn : n ≤ ds.length) : Bu [Ac t ls ds, .int n] S = some (.non, S) := by
 have h1 : (n : Int) ≤ ds.length := by omega
 have k1 : St.Kd.int.isA "int" = true := by decide
 have k2 : St.Kd.int.isA "bool" = false := by decide
 simp [k1, k2, Bu, E7, Cg, FE, Ff, Gi, Ep, Fz, Ac, kdW, h1]
end
theorem d6 {n : Nat} : ∀ {ds : List D}, (∀ d ∈ ds, d.py.depth ≤ n) -> PyData.depthAll (D.pys ds) ≤ n
  | [], _ => by simp [D.pys, PyData.depthAll]
  | d :: ds, h => by
    have h1 := h d List.mem_cons_self
    have h2 := d6 fun e he => h e (List.mem_cons_of_mem _ he)
    simp only [D.pys, PyData.depthAll]
    omega
theorem eW {n : Nat} {ds : List D} (h : ∀ d ∈ ds, d.py.depth ≤ n) : (D.lst ds).py.depth ≤ n + 1 := by
 have := d6 h
 simp only [D.py, PyData.depth]
 omega
theorem aL {n : Nat} {ds : List D} (h : ∀ d ∈ ds, d.py.depth ≤ n) : (D.tup ds).py.depth ≤ n + 1 := by
 have := d6 h
 simp only [D.py, PyData.depth]
 omega
theorem dQ {i : Int} {n : Nat} : (D.int i).py.depth ≤ n + 1 := by
 simp only [D.py, PyData.depth]
 omega
theorem fq {r : Rat} : (aD r).py.depth ≤ 2 := aL (n := 1) (by
 intro d hd
 simp only [List.mem_cons, List.not_mem_nil, or_false] at hd
 rcases hd with rfl | rfl <;> exact dQ)
theorem hJ {rs : List Rat} : (shD rs).py.depth ≤ 3 := aL (n := 2) (by
 intro d hd
 obtain ⟨r, _, rfl⟩ := List.mem_map.mp hd
 exact fq)
theorem SQ {r : Rat} : (aD r).lay = true := rfl
theorem Xo {rs : List Rat} : (shD rs).lay = true := Gk fun _ _ => SQ
theorem PJ {d : D} (h : d.lay = true) (g : d.py.depth ≤ 60) : Dd d d = true := by
 unfold Dd
 rw [h]
 simp only [Bool.true_and, decide_eq_true_eq]
 omega
theorem QV {d : D} (h : d.lay = true) : deq d d = true := PySem.SeqAt.eqv_refl _ (KI h)
theorem X4 {rs : List Rat} : Dd (shD rs) (shD rs) = true := PJ Xo (Nat.le_trans hJ (by decide))
theorem ZW {rs : List Rat} : deq (shD rs) (shD rs) = true := QV Xo
section
variable {S : Sto}
theorem YI {ns : List Int} {k : Nat} : ∃ c, C5 [.scr ns, .int k] S = some (.int c, S) := by
 by_cases h : k < ns.length
 ·have h' : (k : Int) < ns.length := by omega
  refine ⟨ns[k], ?_⟩
  have e : atI (ns.map D.int) (k : Int) = some (.int ns[k]) := CV (by rw [List.getElem?_map, List.getElem?_eq_getElem h]; rfl)
  simp [C5, Gz, h, h', e]
 ·have h' : ¬ (k : Int) < ns.length := by omega
  exact ⟨0, by simp [C5, Gz, h, h']⟩
end
theorem Ok.add {G B C : Nat} {r q : Rat} (h : Ok G B r) (g : Ok G C q) : Ok G (B + C) (r + q) := by
 obtain ⟨z, e1, h1⟩ := h
 obtain ⟨y, e2, h2⟩ := g
 refine ⟨z + y, ?_, Nat.add_le_add h1 h2⟩
 push_cast
 rw [← e1, ← e2]
 grind
theorem Ok.mono {G B C : Nat} {r : Rat} (h : Ok G B r) (g : B ≤ C) : Ok G C r := by
 obtain ⟨z, e, hz⟩ := h
 exact ⟨z, e, Nat.le_trans hz g⟩
theorem Ok.mulN {G B N : Nat} {r : Rat} {n : Int} (h : Ok G B r) (h0 : 0 ≤ n) (h1 : n ≤ N) : Ok G (B * N) ((n : Rat) * r) := by
 obtain ⟨z, e, hz⟩ := h
 refine ⟨z * n.toNat, ?_, Nat.mul_le_mul hz (by omega)⟩
 push_cast
 rw [Hh h0, ← e]
 grind
theorem Ok.int {G : Nat} {n : Int} {N : Nat} (h0 : 0 ≤ n) (h1 : n ≤ N) : Ok G (G * N) (n : Rat) := by
 have := (Ok.one (G := G) (B := G) (Nat.le_refl _)).mulN (N := N) h0 h1
 have e : (n : Rat) * 1 = (n : Rat) := by grind
 rwa [e] at this
theorem QU {F : Fn} (hF : ∀ {j k : Nat} {p q : Rat} (S : Sto), Sz j p -> Sz k q -> j + k ≤ 7990 -> F [aD p, aD q] S = some (aD (p + q), S)) {gs : Gd} {S : Sto} (hg : gOk gs S) {X : Option D} {G B K : Nat} (hG : 0 < G) (gK : G < 2 ^ K) (hK : 2 * K ≤ 7990) : ∀ {rs : List Rat} {acc : Rat} {m : Nat} {o : Option D}, Ok G (m * B) acc -> (∀ r ∈ rs, Ok G B r) -> (m + rs.length) * B < 2 ^ K ->
    ∃ o', K4 gs (tNm 2) (Bs 1 (AK F [(eV 1), (eV 2)])) (rs.map aD) [X, some (aD acc), o] S = some (.nx, [X, some (aD (acc + rs.sum)), o'], S)
  | [], acc, m, o, ha, hr, hb => ⟨o, by
      rw [List.map_nil, IJ hg, List.sum_nil]
      have : acc + 0 = acc := by grind
      rw [this]⟩
  | r :: rs, acc, m, o, ha, hr, hb => by
    have h1 := hr r List.mem_cons_self
    have b1 : (m + 1) * B ≤ (m + (r :: rs).length) * B := Nat.mul_le_mul_right _ (by simp)
    have mb : (m + 1) * B = m * B + B := by rw [Nat.succ_mul]
    have za : Sz K acc := ha.sz hG gK (by omega)
    have zr : Sz K r := h1.sz hG gK (by omega)
    have e := hF S za zr (by omega)
    have ha2 : Ok G ((m + 1) * B) (acc + r) := by rw [mb]; exact ha.add h1
    obtain ⟨o', ih⟩ := QU hF hg hG gK hK (X := X) (B := B) (rs := rs) (acc := acc + r) (m := m + 1) (o := some (aD r)) ha2 (fun q hq => hr q (List.mem_cons_of_mem _ hq)) (by
      have : m + 1 + rs.length = m + (r :: rs).length := by simp; omega
      rw [this]; exact hb)
    refine ⟨o', ?_⟩
    have ea : acc + (r :: rs).sum = acc + r + rs.sum := by rw [List.sum_cons]; grind
    rw [List.map_cons, C7 hg, ea, ← ih]
    simp [e]
theorem Lg : aD 0 = .tup [.int 0, .int 1] := rfl
section
variable {S : Sto}
theorem ZE {rs : List Rat} {G B K : Nat} (hG : 0 < G) (gK : G < 2 ^ K) (hK : 2 * K ≤ 7990) (hr : ∀ r ∈ rs, Ok G B r) (hb : rs.length * B < 2 ^ K) : EY [.lst (rs.map aD)] S = some (aD rs.sum, S) := by
 obtain ⟨o', e⟩ := QU (F := Bn) (fun S h1 h2 h3 => NV h1 h2 h3) (gs := []) (S := S) Al (X := some (.lst (rs.map aD))) (B := B) hG gK hK (rs := rs) (acc := 0) (m := 0) (o := none) (by rw [Nat.zero_mul]; exact Ok.zero) hr (by simpa using hb)
 have ez : (0 : Rat) + rs.sum = rs.sum := by grind
 rw [ez, Lg] at e
 simp [EY, Li, e]
end
def ownAt (x : Ld) (p : Nat) : Rat := x.ow.getD p 0
def kindS (ls : List Ld) (p kd : Nat) : Rat := ((ls.filter fun x => x.k == kd).map fun x => (x.n : Rat) * ownAt x p).sum
def Ag (k : Nat) (ls : List Ld) (p : Nat) : List Rat := (List.range k).map (kindS ls p)
theorem Rr {ls : List Ld} {x : Ld} {p kd : Nat} : kindS (ls ++ [x]) p kd = if x.k = kd then kindS ls p kd + (x.n : Rat) * ownAt x p else kindS ls p kd := by
 unfold kindS
 rw [List.filter_append, List.map_append, List.sum_append]
 by_cases h : x.k = kd
 ·simp [h]; grind
 ·simp [h]; grind
theorem Mx {ls : List Ld} {x : Ld} {p kd : Nat} : kindS (x :: ls) p kd = (if x.k = kd then (x.n : Rat) * ownAt x p else 0) + kindS ls p kd := by
 unfold kindS
 rw [List.filter_cons]
 by_cases h : x.k = kd
 ·simp [h]
 ·simp [h]; grind
theorem Pz {k : Nat} {ls : List Ld} {x : Ld} {p : Nat} : Ag k (ls ++ [x]) p = (Ag k ls p).set x.k (kindS ls p x.k + (x.n : Rat) * ownAt x p) := by
 unfold Ag
 apply List.ext_getElem
 ·simp
 ·intro i h1 h2
  rw [List.getElem_set]
  simp only [List.getElem_map, List.getElem_range, Rr]
  by_cases h : x.k = i
  ·subst h; simp
  ·simp [h]
structure Bd (ls : List Ld) (G B N K : Nat) : Prop where
 g0 : 0 < G
 gK : G < 2 ^ K
 hK : 2 * K ≤ 7000
 own : ∀ l ∈ ls, ∀ r ∈ l.ow, Ok G B r
 pcs : ∀ l ∈ ls, 0 ≤ l.n /\ l.n ≤ N
 hB : B < 2 ^ K
 hN : N < 2 ^ K
 hb : 200 * (B * N) < 2 ^ K
 len : ls.length ≤ 30
section
variable {S : Sto} {ls : List Ld} {G B N K : Nat}
theorem Bd.at (h : Bd ls G B N K) {x : Ld} (hx : x ∈ ls) (p : Nat) : Ok G B (ownAt x p) := by
 unfold ownAt
 rw [List.getD_eq_getElem?_getD]
 cases e : x.ow[p]? with
 | none => exact Ok.zero
 | some r => exact h.own x hx r (List.mem_of_getElem? e)
theorem Bd.mul (h : Bd ls G B N K) {x : Ld} (hx : x ∈ ls) (p : Nat) : Ok G (B * N) ((x.n : Rat) * ownAt x p) := (h.at hx p).mulN (h.pcs x hx).1 (h.pcs x hx).2
theorem Qa {G C : Nat} {p kd : Nat} : ∀ {ls : List Ld}, (∀ l ∈ ls, Ok G C ((l.n : Rat) * ownAt l p)) -> Ok G (ls.length * C) (kindS ls p kd)
  | [], _ => Ok.zero
  | x :: ls, h => by
    rw [Mx]
    have ih := Qa (kd := kd) (ls := ls) fun l hl => h l (List.mem_cons_of_mem _ hl)
    have h1 : Ok G C (if x.k = kd then (x.n : Rat) * ownAt x p else 0) := by
      split
      · exact h x List.mem_cons_self
      · exact Ok.zero
    have := h1.add ih
    rw [List.length_cons, Nat.succ_mul, Nat.add_comm]
    exact this
theorem Bd.kind (h : Bd ls G B N K) {p kd : Nat} : Ok G (30 * (B * N)) (kindS ls p kd) := (Qa fun l hl => h.mul hl p).mono (Nat.mul_le_mul_right _ h.len)
theorem Bd.take (h : Bd ls G B N K) (i : Nat) : Bd (ls.take i) G B N K := ⟨h.g0, h.gK, h.hK, fun l hl => h.own l (List.mem_of_mem_take hl), fun l hl => h.pcs l (List.mem_of_mem_take hl), h.hB, h.hN, h.hb, by have := h.len; simp; omega⟩
theorem Bd.nSz (h : Bd ls G B N K) {x : Ld} (hx : x ∈ ls) : Sz K (x.n : Rat) := by
 have o := Ok.int (G := 1) (h.pcs x hx).1 (h.pcs x hx).2
 refine o.sz (by decide) ?_ (by rw [Nat.one_mul]; exact h.hN)
 have := h.gK; have := h.g0; omega
theorem N1 {n : Nat} : GA 0 (n : Int).toNat = (List.range n).map fun (i : Nat) => D.int i := by simp [GA]
theorem Rx {k p : Nat} : (Ag k [] p).map aD = List.replicate k (.tup [.int 0, .int 1]) := by
 apply List.ext_getElem
 ·simp [Ag]
 ·intro i h1 h2
  simp [Ag, kindS, Lg]
end
section
variable {S : Sto} {ls : List Ld} {G B N K : Nat}
theorem Tw {k : Nat} (hk : k ≤ 20) {p : Nat} (hkind : ∀ l ∈ ls, l.k < k) (h : Bd ls G B N K) : ∃ S', Bh [.int k, A1 ls, .lst (ls.map fun x => aD (ownAt x p))] S = some (shD (Ag k ls p), S') /\ Ci [] S S' := by
 have ez : MY (ls.map hD) (ls.map fun x => aD (ownAt x p)) = ls.map fun x => .tup [hD x, aD (ownAt x p)] := by
  unfold MY
  rw [List.zip_map', List.map_map]
  rfl
 have hq : (S ++ [Cl.lst ((Ag k [] p).map aD)])[S.length]? = some (.lst ((Ag k [] p).map aD)) := List.getElem?_concat_length
 generalize hQ : S.length = q at *
 obtain ⟨E', S', ef, i, o4, o5, o6, f1, f2, rfl, f3, f4⟩ := EN (gs := []) (t := tTp [(tTp [(tNm 5), (tNm 6)]), (tNm 4)]) (b := MW (AK G8 [(eOp (o2 wIx) [(eV 3), (eV 5)]), (AK FX [(DF [(eV 6), (eC (.int 1))]), (eV 4)])]) (eV 3) (eV 5))
  (I := fun rs E S' => ∃ (i : Nat) (o4 o5 o6 : Option D), rs = (ls.drop i).map (fun x => D.tup [hD x, aD (ownAt x p)]) /\ i ≤ ls.length /\ E = [some (.int k), some (A1 ls), some (.lst (ls.map fun x => aD (ownAt x p))), some (.ref q), o4, o5, o6] /\ S'[q]? = some (.lst ((Ag k (ls.take i) p).map aD)) /\ Ci [] S S')
  (fun _ _ _ _ => Al) (ds := ls.map fun x => D.tup [hD x, aD (ownAt x p)]) (E := [some (.int k), some (A1 ls), some (.lst (ls.map fun x => aD (ownAt x p))), some (.ref q), none, none, none]) (S := S ++ [Cl.lst ((Ag k [] p).map aD)])
  ⟨0, none, none, none, by simp, Nat.zero_le _, rfl, by simpa using hq, .app⟩ (by
   rintro dd rs E T ⟨i, o4, o5, o6, i1, i2, rfl, i3, i4⟩
   have hlt : i < ls.length := by
    rcases Nat.lt_or_ge i ls.length with w | w
    ·exact w
    ·rw [List.drop_eq_nil_of_le w] at i1; cases i1
   rw [List.drop_eq_getElem_cons hlt, List.map_cons] at i1
   injection i1 with z1 z2
   subst z1 z2
   have hm : ls[i] ∈ ls := List.getElem_mem hlt
   have htk : ls.take (i + 1) = ls.take i ++ [ls[i]] := by rw [List.take_succ, List.getElem?_eq_getElem hlt]; rfl
   have tm := XI (S := T) (h.nSz hm) ((h.at hm p).sz h.g0 h.gK h.hB) (by have := h.hK; omega)
   rw [Tv] at tm
   have zb : 30 * (B * N) < 2 ^ K := by have := h.hb; omega
   have zb1 : B * N < 2 ^ K := by have := h.hb; omega
   have pl := Z4 (S := T) ((h.take i).kind (p := p) (kd := ls[i].k) |>.sz h.g0 h.gK zb) ((h.mul hm p).sz h.g0 h.gK zb1) (by have := h.hK; omega)
   have hkd := hkind _ hm
   have at1 : atI ((Ag k (ls.take i) p).map aD) (ls[i].k : Int) = some (aD (kindS (ls.take i) p ls[i].k)) := CV (by
    rw [List.getElem?_map, Ag, List.getElem?_map, List.getElem?_range hkd]; rfl)
   have ix1 : ixN ((Ag k (ls.take i) p).map aD).length (ls[i].k : Int) = some ls[i].k := L5 (by simp [Ag]; exact hkd)
   have ef : ((Ag k (ls.take i) p).map aD).set ls[i].k (aD (kindS (ls.take i) p ls[i].k + (ls[i].n : Rat) * ownAt ls[i] p)) = (Ag k (ls.take (i + 1)) p).map aD := by rw [htk, Pz, List.map_set]
   have dq := BH i3
   have cq := Aa i3
   generalize (Ag k (ls.take i) p).map aD = V at *
   generalize hx : ls[i] = x at *
   generalize aD (kindS (ls.take i) p x.k + (x.n : Rat) * ownAt x p) = D1 at *
   generalize aD ((x.n : Rat) * ownAt x p) = D2 at *
   generalize aD (kindS (ls.take i) p x.k) = D3 at *
   have lq := i4.len
   refine ⟨_, [some (.int k), some (A1 ls), some (.lst (ls.map fun x => aD (ownAt x p))), some (.ref q), some (aD (ownAt x p)), some (.int x.k), some (.int x.n)], T.set q (.lst (V.set x.k D1)), by simp; rfl, ?_, i + 1, _, _, _, rfl, hlt, rfl, by rw [← ef]; exact List.getElem?_set_self (Aw i3), Ci.new (A := []) (B := [q]) i4 (.set (by simp)) (by intro n hn'; simp at hn'; omega)⟩
   generalize aD (ownAt x p) = D4 at *
   simp [dq, at1, tm, pl, cq, ix1])
 have hz : i = ls.length := by
  have := congrArg List.length f1
  simp at this
  omega
 subst hz
 rw [List.take_length] at f3
 refine ⟨S', ?_, f4⟩
 have m1 : B8 (.val (.lst [Dx])) (.val (.int k)) = some (.own ((Ag k [] p).map aD)) := by
  have hs : k ≤ sizeLine := AX (by omega)
  have h1 : (k : Int) < 2 ^ 63 := by omega
  have h2 : -(2 : Int) ^ 63 ≤ k := by omega
  rw [Rx, LB, if_pos (by simp [hs]; omega)]
  simp [PB, Dx]
 have df := BH f3
 generalize (Ag k [] p).map aD = V0 at *
 rw [show shD (Ag k ls p) = .tup ((Ag k ls p).map aD) from rfl]
 generalize (Ag k ls p).map aD = V1 at *
 have dh : sqD (S ++ [Cl.lst V0]) (A1 ls) = some (ls.map hD, []) := nr rfl
 simp [Bh, Gb, -LB, m1, hQ, dh, ez, ef, df]
end
theorem Lr {α : Type} {gs : Gd} {t : Tf} {f : Ev} {C : En} {m : Nat} {e g : α -> D} {S0 : Sto} (hg : ∀ S, Ci [] S0 S -> gOk gs S) : ∀ {xs : List α} {acc : List D} {os : En} {S : Sto}, os.length = m -> Ci [] S0 S -> acc.length + xs.length ≤ sizeLine ->
    (∀ x ∈ xs, ∀ os S, os.length = m -> Ci [] S0 S -> ∃ us S', us.length = m /\ t (e x) (C ++ os) S = some (C ++ us) /\ f (C ++ us) S = some (g x, S') /\ Ci [] S0 S') ->
    ∃ S', CJ gs t Bx f (xs.map e) acc (C ++ os) S = some (acc ++ xs.map g, S') /\ Ci [] S0 S'
  | [], acc, os, S, ho, hS, hz, h => ⟨S, by rw [List.map_nil, El (hg S hS)]; simp, hS⟩
  | x :: xs, acc, os, S, ho, hS, hz, h => by
    obtain ⟨us, S1, hu, e1, e2, s1⟩ := h x List.mem_cons_self os S ho hS
    obtain ⟨S2, e3, s2⟩ := Lr hg (acc := acc ++ [g x]) hu s1 (by simp at hz ⊢; omega) fun x' hx => h x' (List.mem_cons_of_mem _ hx)
    refine ⟨S2, ?_, s2⟩
    rw [List.map_cons, HX (hg S hS) (by simp at hz; omega) e1 GS, e2, DM, e3]
    simp
theorem Es.bd {t : Tr} {k : Nat} {s : Stt} (h : Es t k s) (hk : k ≤ 16) : ∃ G B N K, Bd s.loads G B N K := by
 obtain ⟨G, B, g0, gb, b, h1, h2⟩ := h.gb
 have hB : B < 2 ^ 2750 := Nat.lt_of_lt_of_le b (Nat.pow_le_pow_right (by decide) (by omega))
 have hB' : B < 2 ^ 3000 := Nat.lt_of_lt_of_le hB (Nat.pow_le_pow_right (by decide) (by decide))
 have hN : (2 ^ 147 : Nat) < 2 ^ 148 := Nat.pow_lt_pow_right (by decide) (by decide)
 refine ⟨G, B, 2 ^ 147, 3000, g0, Nat.lt_of_le_of_lt gb hB', by decide, h1, fun l hl => ?_, hB', Nat.lt_of_lt_of_le hN (Nat.pow_le_pow_right (by decide) (by decide)), ?_, by have := h.len; omega⟩
 ·have := h.pcs l hl
  refine ⟨this.1, ?_⟩
  have e : (2 : Int) ^ (131 + k) ≤ ((2 ^ 147 : Nat) : Int) := by
   have : (2 : Nat) ^ (131 + k) ≤ 2 ^ 147 := Nat.pow_le_pow_right (by decide) (by omega)
   exact_mod_cast this
  omega
 ·have := Co (show 200 < 2 ^ 8 by decide) (Co hB hN)
  exact Nat.lt_of_lt_of_le this (Nat.pow_le_pow_right (by decide) (by decide))
section
variable {S : Sto} {t : Tr} {ls : List Ld} {ds : List AV} {n : Nat}
theorem XJ {x : Ld} {p : Nat} (h : p < x.ow.length) : atI (x.ow.map aD) (p : Int) = some (aD (ownAt x p)) := CV (by
 rw [List.getElem?_map, List.getElem?_eq_getElem h]
 simp [ownAt, List.getD_eq_getElem?_getD, List.getElem?_eq_getElem h])
theorem dD {ls : List Ld} {p : Nat} {T : Sto} (h : ∀ l ∈ ls, p < l.ow.length) (hl : ls.length ≤ 30) : CJ [] (tNm 1) Bx (eOp (o2 wIx) [(eV 1), (eV 0)]) (ls.map fun x => shD x.ow) [] [some (.int p), none] T = some (ls.map (fun x => aD (ownAt x p)), T) :=
 Cr (gs := []) (t := tNm 1) (f := eOp (o2 wIx) [(eV 1), (eV 0)]) (C := [some (.int p)]) (m := 1) (e := fun x : Ld => shD x.ow) (g := fun x => aD (ownAt x p)) (S := T) Al (xs := ls) (acc := []) (os := [none]) rfl (Nat.le_trans (show _ ≤ 50 by simp; omega) (AX (by decide))) (by
  intro x hx os ho
  obtain ⟨o1, rfl⟩ : ∃ o1, os = [o1] := by
   match os, ho with
   | [a], _ => exact ⟨a, rfl⟩
  have a := XJ (h x hx)
  refine ⟨[some (shD x.ow)], rfl, by simp, ?_⟩
  simp [shD, a])
end
section
variable {S : Sto} {t : Tr} {ls : List Ld} {ds : List AV} {n : Nat}
theorem SD (h : A9 t ls ds) (hn : n ≤ ds.length) : ∃ S', CY [Ac t ls ds, .int n] S = some (.lst ((List.range t.p).map fun p => shD (Ag t.k (runs t (st0 t ls) (ds.take n)).loads p)), S') /\ Ci [] S S' := by
 obtain ⟨S1, e1, s1⟩ := VI (S := S) h hn
 have il : (ds.take n).length ≤ 16 := by have := h.len; simp; omega
 have inv := h.at n
 obtain ⟨G, B, N, K, bd⟩ := inv.bd il
 have ho := inv.own
 have hk := inv.kind
 obtain ⟨t1, t2, t3, t4, t5, t6⟩ := h.tr
 generalize (runs t (st0 t ls) (ds.take n)).loads = L at *
 generalize (runs t (st0 t ls) (ds.take n)).hold = Ho at *
 obtain ⟨S2, e2, s2⟩ := Lr (gs := []) (t := tNm 3) (f := AK Bh [(eV 0), (eV 1), (CZ [3] 1 (FT (eV 2)) (tNm 1) Bx (eOp (o2 wIx) [(eV 1), (eV 0)]))]) (C := [some (.int t.k), some (A1 L), some (J0 L)]) (m := 1) (e := fun p : Nat => D.int p) (g := fun p => shD (Ag t.k L p)) (S0 := S1) (fun _ _ => Al) (xs := List.range t.p) (acc := []) (os := [none]) (S := S1) rfl .refl (Nat.le_trans (show _ ≤ 50 by simp; omega) (AX (by decide))) (by
  intro p hp os T ho' hT
  obtain ⟨o1, rfl⟩ : ∃ o1, os = [o1] := by
   match os, ho' with
   | [a], _ => exact ⟨a, rfl⟩
  have hp' : p < t.p := by simpa using hp
  have pc := dD (ls := L) (p := p) (T := T) (fun l hl => by rw [ho l hl]; exact hp') bd.len
  obtain ⟨T2, e3, s3⟩ := Tw (S := T) (k := t.k) (by omega) (p := p) hk bd
  refine ⟨[some (.int p)], T2, rfl, by simp, ?_, hT.trans s3⟩
  have dh : sqD T (J0 L) = some (L.map (fun x => shD x.ow), []) := nr rfl
  simp [dh, Pr, pc, e3])
 refine ⟨S2, ?_, s1.trans s2⟩
 have rk : IW (t.p : Int) = true := DR (by omega) (by omega)
 have ct : Jv [D.int t.p, D.int t.k, D.int t.b, shD t.ho, D.int t.h, D.int t.l] none (some 2) = [.int t.p, .int t.k] := nr rfl
 have td : wSl none (some 2) (.val t.d) = some (.val (.tup [.int t.p, .int t.k])) := nr rfl
 have dt : dr S t.d = .val t.d := rfl
 rw [← N1] at e2
 simp only [Ac] at e1 ⊢
 simp only [List.nil_append, List.cons_append, Int.toNat_natCast] at e2
 simp [CY, Hn, dt, td, e1, rk, Pr, e2]
end
def Pu (ls : List Ld) : Prop := ∀ l ∈ ls, l.ow.sum = 1
theorem QM {a b : Rat} : ∀ {ss os : List Rat}, ss.length = os.length -> (List.zipWith (fun s o => s * a + o * b) ss os).sum = ss.sum * a + os.sum * b
  | [], [], _ => by simp; grind
  | s :: ss, o :: os, h => by
    rw [List.zipWith_cons_cons, List.sum_cons, List.sum_cons, List.sum_cons, QM (by simpa using h)]
    grind
theorem T9 {x : Rat} {os ss : List Rat} (h : ss.length = os.length) (h1 : ss.sum = 1) (h2 : os.sum = 1) : (GO x os ss).sum = 1 := by
 unfold GO
 rw [QM h, h1, h2]
 grind
theorem RT {n m : Int} {ss os : List Rat} (h : ss.length = os.length) (h1 : ss.sum = 1) (h2 : os.sum = 1) (h0 : 0 < n + m) : (B5 n m ss os).sum = 1 := by
 have hc : ((n + m : Int) : Rat) ≠ 0 := by
  intro z
  have := Rat.intCast_eq_zero_iff.mp z
  omega
 have e : (fun (s o : Rat) => (s * n + o * m) / ((n + m : Int) : Rat)) = fun s o => s * ((n : Rat) / ((n + m : Int) : Rat)) + o * ((m : Rat) / ((n + m : Int) : Rat)) := by
  funext s o
  grind
 unfold B5
 rw [e, QM h, h1, h2]
 push_cast at hc ⊢
 grind
theorem QP {v : Rat} : ∀ {l : List Rat} {i : Nat}, i < l.length -> (l.set i v).sum = l.sum - l.getD i 0 + v
  | a :: l, 0, _ => by
    rw [List.set_cons_zero, List.sum_cons, List.sum_cons]
    simp
    grind
  | a :: l, i + 1, h => by
    rw [List.set_cons_succ, List.sum_cons, List.sum_cons, QP (by simpa using h)]
    simp
    grind
theorem V5 {p q : Nat} {x : Rat} {ss : List Rat} (hpq : p ≠ q) (hp : p < ss.length) (hq : q < ss.length) : (Fs p q x ss).sum = ss.sum := by
 unfold Fs
 rw [QP (by simpa using hq), QP hp]
 have : (ss.set p (ss.getD p 0 - ss.getD p 0 * x)).getD q 0 = ss.getD q 0 := by
  rw [List.getD_eq_getElem?_getD, List.getElem?_set_ne hpq, ← List.getD_eq_getElem?_getD]
 rw [this]
 grind
theorem UW {i : Nat} : ∀ {n : Nat}, (Pc n i).sum = if i < n then 1 else 0
  | 0 => by simp [Pc]
  | n + 1 => by
    have ih := UW (i := i) (n := n)
    unfold Pc at ih ⊢
    rw [List.range_succ, List.map_append, List.sum_append, ih]
    by_cases h : n = i
    · subst h; simp; grind
    · have : i < n + 1 ↔ i < n := by omega
      simp [h, this]
      grind
section
variable {t : Tr} {k : Nat} {st : Stt} {d : AV}
theorem GU {ls : List Ld} (h : Pu ls) {l : Nat} {n : Int} (hl : l < ls.length) : Pu (less ls l n) := fun x hx => by
 rcases IE hx hl with hx | rfl
 ·exact h x hx
 ·exact (h (AR ls l) (AW hl) :)
theorem JO {ls : List Ld} (h : Pu ls) {y : Ld} (hy : y.ow.sum = 1) : Pu (ls ++ [y]) := fun x hx => by
 rcases List.mem_append.mp hx with hx | hx
 ·exact h x hx
 ·rw [List.mem_singleton.mp hx]; exact hy
theorem SV (h : Es t k st) (hc : Can t st d) (ho : Pu st.loads) : Pu (step t st d).loads := by
  cases d with
  | bring p kd n =>
    refine JO ho ?_
    rw [UW, if_pos hc.1]
  | pool i j =>
    obtain ⟨hij, hi, hj, h1, h2, h3⟩ := hc
    refine JO (GU (GU ho hi) (by rw [Ce]; exact hj)) ?_
    exact RT (by rw [h.own _ (AW hi), h.own _ (AW hj)]) (ho _ (AW hi)) (ho _ (AW hj)) (by omega)
  | swap i g kd n => exact JO (GU ho hc.1) (ho (AR st.loads i) (AW hc.1) :)
  | trade u i g kd n => exact JO (GU ho hc.1) (ho (AR st.loads i) (AW hc.1) :)
  | spoil i n => exact GU ho hc.1
  | thr i n ws =>
    intro x hx
    obtain ⟨y, hy, rfl⟩ := List.mem_map.mp hx
    have hl := hc.1
    have ly : y.ow.length = t.p := by
      rcases IE hy hl with hy | rfl
      · exact h.own y hy
      · exact (h.own (AR st.loads i) (AW hl) :)
    exact T9 (by rw [ly, h.own _ (AW hl)]) (GU ho hl y hy) (ho _ (AW hl))
  | sell p q x =>
    intro y hy
    obtain ⟨z, hz, rfl⟩ := List.mem_map.mp hy
    obtain ⟨h1, h2, h3, _⟩ := hc
    have := h.own z hz
    show (Fs p q x z.ow).sum = 1
    rw [V5 h1 (by omega) (by omega)]
    exact ho z hz
theorem Og (ht : JE t) : ∀ {ds : List AV} {st : Stt} {k : Nat}, Es t k st -> IS t st ds -> k + ds.length ≤ 17 -> Pu st.loads -> Pu (runs t st ds).loads
 | [], st, k, h, _, _, o => o
 | d :: ds, st, k, h, g, hl, o => Og ht (ds := ds) (Qk ht h (by simp at hl; omega) g.1) g.2 (by simp at hl; omega) (SV h g.1 o)
theorem A9.ones {ls : List Ld} {ds : List AV} (h : A9 t ls ds) (ho : Pu ls) (n : Nat) : Pu (runs t (st0 t ls) (ds.take n)).loads := Og h.tr h.inv (Hz h.good) (by have := h.len; simp; omega) ho
end
def Eh (ls : List Ld) (kd : Nat) : Int := ((ls.filter fun x => x.k == kd).map fun x => x.n).sum
theorem sum_add {f g : Nat -> Rat} : ∀ {xs : List Nat}, (xs.map fun p => f p + g p).sum = (xs.map f).sum + (xs.map g).sum
  | [] => by simp; grind
  | x :: xs => by
    rw [List.map_cons, List.map_cons, List.map_cons, List.sum_cons, List.sum_cons, List.sum_cons, sum_add]
    grind
theorem P4 {c : Rat} {f : Nat -> Rat} : ∀ {xs : List Nat}, (xs.map fun p => c * f p).sum = c * (xs.map f).sum
  | [] => by simp
  | x :: xs => by
    rw [List.map_cons, List.map_cons, List.sum_cons, List.sum_cons, P4]
    grind
theorem Nv : ∀ {xs : List Nat}, (xs.map fun _ => (0 : Rat)).sum = 0
 | [] => rfl
 | x :: xs => by rw [List.map_cons, List.sum_cons, Nv]; grind
theorem Ub {x : Ld} {P : Nat} (h : x.ow.length = P) : (List.range P).map (ownAt x) = x.ow := by
 apply List.ext_getElem
 ·simp [h]
 ·intro i h1 h2
  simp [ownAt, List.getD_eq_getElem?_getD, List.getElem?_eq_getElem h2]
theorem IC {P kd : Nat} : ∀ {ls : List Ld}, (∀ l ∈ ls, l.ow.length = P) -> Pu ls -> ((List.range P).map fun p => kindS ls p kd).sum = (Eh ls kd : Rat)
  | [], _, _ => by
    have : (fun p => kindS [] p kd) = fun _ => (0 : Rat) := rfl
    rw [this, Nv]; rfl
  | x :: ls, h, o => by
    have ih := IC (kd := kd) (ls := ls) (fun l hl => h l (List.mem_cons_of_mem _ hl)) fun l hl => o l (List.mem_cons_of_mem _ hl)
    have e : (fun p => kindS (x :: ls) p kd) = fun p => (if x.k = kd then (x.n : Rat) * ownAt x p else 0) + kindS ls p kd := by
      funext p; exact Mx
    rw [e, sum_add, ih]
    unfold Eh
    rw [List.filter_cons]
    by_cases hk : x.k = kd
    · have : ((List.range P).map fun p => (if x.k = kd then (x.n : Rat) * ownAt x p else 0)) = (List.range P).map fun p => (x.n : Rat) * ownAt x p := by simp [hk]
      rw [this, P4, Ub (h x List.mem_cons_self), o x List.mem_cons_self]
      simp [hk]
    · have : ((List.range P).map fun p => (if x.k = kd then (x.n : Rat) * ownAt x p else 0)) = (List.range P).map fun _ => 0 := by simp [hk]
      rw [this, Nv]
      simp [hk]
      grind
section
variable {S : Sto} {t : Tr} {ls L : List Ld} {ds : List AV} {G B N K p : Nat}
def Fo (rs qs : List Rat) : List Rat := List.zipWith (fun a b => a - b) rs qs
theorem aW {F : Fn} (hF : ∀ {j k : Nat} {p q : Rat} (S : Sto), Sz j p -> Sz k q -> j + k ≤ 7990 -> F [aD p, aD q] S = some (aD (p - q), S)) {rs qs : List Rat} {j k : Nat} (h1 : ∀ r ∈ rs, Sz j r) (h2 : ∀ r ∈ qs, Sz k r) (hj : j + k ≤ 7990) (hl : rs.length ≤ 50) :
  CJ [] (tTp [(tNm 0), (tNm 1)]) Bx (AK F [(eV 0), (eV 1)]) (MY (rs.map aD) (qs.map aD)) [] [none, none] S = some ((Fo rs qs).map aD, S) := by
 have e := Cr (gs := []) (t := tTp [(tNm 0), (tNm 1)]) (f := AK F [(eV 0), (eV 1)]) (C := []) (m := 2) (e := fun z : Rat × Rat => D.tup [aD z.1, aD z.2]) (g := fun z => aD (z.1 - z.2)) (S := S) Al (xs := rs.zip qs) (acc := []) (os := [none, none]) rfl (Nat.le_trans (show _ ≤ 50 by simp; omega) (AX (by decide))) (by
  intro z hz os ho
  obtain ⟨q1, q2, rfl⟩ : ∃ q1 q2, os = [q1, q2] := by
   match os, ho with
   | [a, b], _ => exact ⟨a, b, rfl⟩
  have hm := List.of_mem_zip (a := z.1) (b := z.2) hz
  have l := hF S (h1 _ hm.1) (h2 _ hm.2) hj
  refine ⟨[some (aD z.1), some (aD z.2)], rfl, by simp, ?_⟩
  generalize aD (z.1 - z.2) = D1 at *
  simp [l])
 rw [← Qh] at e
 have em : (rs.zip qs).map (fun z => aD (z.1 - z.2)) = (Fo rs qs).map aD := by
  unfold Fo
  rw [← List.map_uncurry_zip_eq_zipWith, List.map_map]
  rfl
 rw [em] at e
 exact e
end
theorem V7 : (D.str "bring").lay = true /\ (D.str "pool").lay = true /\ (D.str "swap").lay = true /\ (D.str "trade").lay = true /\ (D.str "spoil").lay = true /\ (D.str "throw").lay = true /\ (D.str "sell").lay = true := by decide +kernel
theorem VH {d : AV} : d.d.lay = true := by
  obtain ⟨w1, w2, w3, w4, w5, w6, w7⟩ := V7
  have hw : ∀ ws : List Int, (D.tup (ws.map D.int)).lay = true := fun ws => Gk fun _ _ => rfl
  have ha : ∀ r : Rat, (aD r).lay = true := fun _ => rfl
  have hi : ∀ i : Int, (D.int i).lay = true := fun _ => rfl
  have ht : ∀ ds : List D, (D.tup ds).lay = D.lays ds := fun _ => rfl
  have hc : ∀ (d : D) (ds : List D), D.lays (d :: ds) = (d.lay && D.lays ds) := fun _ _ => rfl
  have hn : D.lays [] = true := rfl
  cases d with
  | thr l n ws =>
    have := hw ws
    generalize hq : D.tup (ws.map D.int) = q at *
    simp only [AV.d, hq, ht, hc, hn, hi, w6, this, Bool.and_self]
  | _ => simp only [AV.d, ht, hc, hn, hi, ha, w1, w2, w3, w4, w5, w7, Bool.and_self]
section
variable {S : Sto} {t : Tr} {ls L : List Ld} {ds : List AV}
end
def kn (x : Ld) : Nat × Int := (x.k, x.n)
structure Sim (s s' : Stt) : Prop where
 kn : s.loads.map kn = s'.loads.map kn
 nums : s.nums = s'.nums
section
variable {s s' : Stt} {t : Tr} {d : AV}
theorem Vs {ls : List Ld} {l : Nat} : kn (AR ls l) = (ls.map kn).getD l (0, 0) := by
 unfold AR
 rw [List.getD_eq_getElem?_getD, List.getD_eq_getElem?_getD, List.getElem?_map]
 cases ls[l]? <;> rfl
theorem Sim.at (h : Sim s s') (l : Nat) : (AR s.loads l).k = (AR s'.loads l).k /\ (AR s.loads l).n = (AR s'.loads l).n := by
 have e : Mi.kn (AR s.loads l) = Mi.kn (AR s'.loads l) := by rw [Vs, Vs, h.kn]
 exact ⟨congrArg Prod.fst e, congrArg Prod.snd e⟩
theorem Sim.len (h : Sim s s') : s.loads.length = s'.loads.length := by
 have := congrArg List.length h.kn
 simpa using this
theorem KQ {ls ls' : List Ld} {l : Nat} {n : Int} (h : ls.map kn = ls'.map kn) : (less ls l n).map kn = (less ls' l n).map kn := by
 have e : kn (AR ls l) = kn (AR ls' l) := by rw [Vs, Vs, h]
 unfold less
 rw [List.map_set, List.map_set, h]
 have e1 : (AR ls l).k = (AR ls' l).k := congrArg Prod.fst e
 have e2 : (AR ls l).n = (AR ls' l).n := congrArg Prod.snd e
 simp only [kn, e1, e2]
theorem Sim.can (h : Sim s s') (hc : Can t s d) : Can t s' d := by
 have hk := fun l => (h.at l).1
 have hn := fun l => (h.at l).2
 cases d <;> simp only [Can, hk, hn, h.len, h.nums] at hc ⊢ <;> exact hc
theorem Sim.step (h : Sim s s') : Sim (step t s d) (step t s' d) := by
  have hk := fun l => (h.at l).1
  have hn := fun l => (h.at l).2
  cases d with
  | bring p k n => exact ⟨by simp only [Mi.step, List.map_append, h.kn], h.nums⟩
  | pool a b =>
    refine ⟨?_, h.nums⟩
    simp only [Mi.step, List.map_append, hn]
    rw [KQ (KQ h.kn)]
    simp only [List.map_cons, List.map_nil, Mi.kn, hk, hn]
  | swap l g k n =>
    refine ⟨?_, h.nums⟩
    simp only [Mi.step, List.map_append]
    rw [KQ h.kn]
    rfl
  | trade u l g k n =>
    refine ⟨?_, by simp only [Mi.step, h.nums]⟩
    simp only [Mi.step, List.map_append]
    rw [KQ h.kn]
    rfl
  | spoil l n => exact ⟨KQ h.kn, h.nums⟩
  | thr l n ws =>
    refine ⟨?_, h.nums⟩
    simp only [Mi.step, List.map_map]
    exact KQ h.kn
  | sell p q x =>
    refine ⟨?_, h.nums⟩
    simp only [Mi.step, List.map_map]
    exact h.kn
theorem Sim.good : ∀ {ds : List AV} {s s' : Stt}, Sim s s' -> IS t s ds -> IS t s' ds
 | [], _, _, _, _ => trivial
 | d :: ds, s, s', h, g => ⟨h.can g.1, Sim.good h.step g.2⟩
theorem Q7 {p q : Nat} {x : Rat} : Sim (step t s (.sell p q x)) s := ⟨by simp only [Mi.step, List.map_map]; rfl, rfl⟩
theorem Mt {p q : Nat} {x : Rat} : ∀ {ds : List AV} {i : Nat} {s : Stt}, IS t s ds -> ds[i]? = some (.sell p q x) -> IS t s (ds.eraseIdx i)
  | d :: ds, 0, s, g, h => by
    simp at h
    subst h
    exact Q7.good g.2
  | d :: ds, i + 1, s, g, h => ⟨g.1, Mt g.2 (by simpa using h)⟩
theorem A9.erase {ls : List Ld} {ds : List AV} {i p q : Nat} {x : Rat} (h : A9 t ls ds) (hi : ds[i]? = some (.sell p q x)) : A9 t ls (ds.eraseIdx i) :=
 ⟨h.tr, h.inv, Mt h.good hi, Nat.le_trans (by rw [List.length_eraseIdx]; split <;> omega) h.len⟩
end
theorem Xl {gs : Gd} {t : Tf} {b : Ex} {I : List D -> En -> Sto -> Prop} {R : D -> Sto -> Prop} (hg : ∀ ds E S, I ds E S -> gOk gs S) : ∀ {ds : List D} {E : En} {S : Sto}, I ds E S ->
    (∀ d ds E S, I (d :: ds) E S -> ∃ E1, t d E S = some E1 /\ ((∃ E2 S2, b E1 S = some (.nx, E2, S2) /\ I ds E2 S2) ∨ ∃ w E2 S2, b E1 S = some (.ret w, E2, S2) /\ R w S2)) ->
    (∃ E' S', K4 gs t b ds E S = some (.nx, E', S') /\ I [] E' S') ∨ ∃ w E' S', K4 gs t b ds E S = some (.ret w, E', S') /\ R w S'
  | [], E, S, hI, h => .inl ⟨E, S, IJ (hg _ _ _ hI), hI⟩
  | d :: ds, E, S, hI, h => by
    obtain ⟨E1, e1, ⟨E2, S2, e2, I2⟩ | ⟨w, E2, S2, e2, r⟩⟩ := h d ds E S hI
    · rcases Xl hg I2 h with ⟨E', S', e3, I3⟩ | ⟨w, E', S', e3, r⟩
      · exact .inl ⟨E', S', by rw [C7 (hg _ _ _ hI), e1]; simp [e2, e3], I3⟩
      · exact .inr ⟨w, E', S', by rw [C7 (hg _ _ _ hI), e1]; simp [e2, e3], r⟩
    · exact .inr ⟨w, E2, S2, by rw [C7 (hg _ _ _ hI), e1]; simp [e2], r⟩
section
variable {S : Sto} {t : Tr} {ls L : List Ld} {ds : List AV} {G B N K p : Nat}
theorem A9.fin (h : A9 t ls ds) : Es t ds.length (runs t (st0 t ls) ds) := by
 have := h.at ds.length
 rwa [List.take_length] at this
theorem Vx (h : A9 t ls ds) : ∃ S', CY [Ac t ls ds, .int ds.length] S = some (.lst ((List.range t.p).map fun p => shD (Ag t.k (runs t (st0 t ls) ds).loads p)), S') /\ Ci [] S S' := by
 have := SD (S := S) h (n := ds.length) (Nat.le_refl _)
 rwa [List.take_length] at this
theorem RF (h : Bd L G B N K) {k : Nat} : ∀ r ∈ Ag k L p, Sz K r := by
 intro r hr
 obtain ⟨kd, _, rfl⟩ := List.mem_map.mp hr
 exact h.kind.sz h.g0 h.gK (by have := h.hb; omega)
theorem O3 {rs qs : List Rat} {j k : Nat} (h1 : ∀ r ∈ rs, Sz j r) (h2 : ∀ r ∈ qs, Sz k r) (hj : j + k ≤ 7990) (hl : rs.length ≤ 50) : FF [shD rs, shD qs] S = some (shD (Fo rs qs), S) := by
 have e := aW (S := S) (F := G7) (fun S a b c => Zy a b c) h1 h2 hj hl
 simp [FF, JX, shD, e]
end
def conv : AV -> Option AV
 | .thr l n _ => some (.spoil l n)
 | .sell .. => none
 | d => some d
def alone (ds : List AV) : List AV := ds.filterMap conv
def Gf (t : Tr) (s : Stt) (d : AV) : Stt := match conv d with
 | some e => step t s e
 | none => s
section
variable {t : Tr} {s s' : Stt} {d : AV} {ls : List Ld} {ds : List AV}
theorem bG {L : List Ld} {f : Ld -> Ld} (h : ∀ x, kn (f x) = kn x) : (L.map f).map kn = L.map kn := by
 rw [List.map_map]
 exact List.map_congr_left fun x _ => h x
theorem Y0 {l : Nat} {n : Int} {ws : List Int} : Sim (step t s (.thr l n ws)) (step t s (.spoil l n)) := ⟨bG fun _ => rfl, rfl⟩
theorem Sim.refl : Sim s s := ⟨rfl, rfl⟩
theorem Sim.trans {s2 : Stt} (h : Sim s s') (g : Sim s' s2) : Sim s s2 := ⟨h.kn.trans g.kn, h.nums.trans g.nums⟩
theorem Pg : Sim (step t s d) (Gf t s d) := by
 cases d with
 | thr l n ws => exact Y0
 | sell p q x => exact Q7
 | _ => exact Sim.refl
theorem WA {e : AV} (hc : Can t s d) (he : conv d = some e) : Can t s e := by
  cases d with
  | thr l n ws =>
    injection he with he
    subst he
    exact ⟨hc.1, hc.2.1, hc.2.2.1⟩
  | sell p q x => cases he
  | _ =>
    injection he with he
    subst he
    exact hc
theorem IP : ∀ {ds : List AV} {s : Stt}, runs t s (alone ds) = ds.foldl (Gf t) s
  | [], s => rfl
  | d :: ds, s => by
    show runs t s (List.filterMap conv (d :: ds)) = List.foldl (Gf t) (Gf t s d) ds
    rw [List.filterMap_cons]
    unfold Gf
    cases conv d with
    | none => exact IP
    | some e => exact IP (s := step t s e)
theorem GQ : ∀ {ds : List AV} {s s' : Stt}, Sim s s' -> IS t s ds -> IS t s' (alone ds) /\ Sim (runs t s ds) (runs t s' (alone ds))
  | [], s, s', h, g => ⟨trivial, h⟩
  | d :: ds, s, s', h, g => by
    have hc := h.can g.1
    have h2 : Sim (step t s d) (Gf t s' d) := h.step.trans Pg
    obtain ⟨i1, i2⟩ := GQ h2 g.2
    have e : alone (d :: ds) = (conv d).toList ++ alone ds := by
      unfold alone
      rw [List.filterMap_cons]
      cases conv d <;> rfl
    unfold Gf at h2 i1 i2
    cases hd : conv d with
    | none =>
      rw [hd] at i1 i2 e
      rw [e]
      exact ⟨i1, i2⟩
    | some f =>
      rw [hd] at i1 i2 e
      rw [e]
      exact ⟨⟨WA hc hd, i1⟩, i2⟩
theorem A9.take (h : A9 t ls ds) (i : Nat) : A9 t ls (ds.take i) := ⟨h.tr, h.inv, Hz h.good, by have := h.len; simp; omega⟩
theorem A9.alone (h : A9 t ls ds) : A9 t ls (alone ds) := ⟨h.tr, h.inv, (GQ Sim.refl h.good).1, Nat.le_trans (List.length_filterMap_le _ _) h.len⟩
def aSt (t : Tr) (ls : List Ld) (ds : List AV) (i : Nat) : Stt := runs t (st0 t ls) (Mi.alone (ds.take i))
structure AOk (t : Tr) (ls : List Ld) (ds : List AV) (i : Nat) : Prop where
 inv : Es t (Mi.alone (ds.take i)).length (aSt t ls ds i)
 le : (Mi.alone (ds.take i)).length ≤ 16
 sim : Sim (runs t (st0 t ls) (ds.take i)) (aSt t ls ds i)
theorem A9.aOk (h : A9 t ls ds) (i : Nat) : AOk t ls ds i := ⟨(h.take i).alone.fin, (h.take i).alone.len, (GQ Sim.refl (h.take i).good).2⟩
theorem Q1 {i : Nat} (hd : ds[i]? = some d) : aSt t ls ds (i + 1) = Gf t (aSt t ls ds i) d := by
 unfold aSt
 rw [IP, IP, List.take_succ, hd, List.foldl_append]
 rfl
theorem SM : aSt t ls ds ds.length = runs t (st0 t ls) (Mi.alone ds) := by
 unfold aSt
 rw [List.take_length]
theorem A9.aCan (h : A9 t ls ds) {i : Nat} (hd : ds[i]? = some d) : Can t (aSt t ls ds i) d := (h.aOk i).sim.can (IH h.good hd)
theorem W5 (h : Sim s s') : A1 s.loads = A1 s'.loads := by
 unfold A1
 have e : ∀ L : List Ld, L.map hD = (L.map kn).map fun z => D.tup [.int z.1, .int z.2] := fun L => by
  rw [List.map_map]; rfl
 rw [e, e, h.kn]
end
section
variable {S : Sto} {st : Stt} {t : Tr} {k : Nat} {o : D}
theorem Rk {i j : Nat} (ho : asS (dr S o) = some (st.loads.map fun x => shD x.ow)) (ht : JE t) (h : Es t k st) (hk : k ≤ 17) (hc : Can t st (.pool i j)) : Ae [A1 st.loads, o, (AV.pool i j).d] S = some (shD (B5 (AR st.loads i).n (AR st.loads j).n (AR st.loads i).ow (AR st.loads j).ow), S) := by
 obtain ⟨hij, hi, hj, h1, h2, h3⟩ := hc
 have sz := h.sz
 have pi := h.pcs _ (AW hi)
 have pj := h.pcs _ (AW hj)
 have ti := h.own _ (AW hi)
 have tj := h.own _ (AW hj)
 have zi := sz.1 _ (AW hi)
 have zj := sz.1 _ (AW hj)
 have hp : t.p ≤ 10 := by have := ht.2.1; omega
 have a1 := EA hi
 have a2 := EA hj
 have b1 := Hl hi
 have b2 := Hl hj
 by_cases hle : i ≤ j
 ·have hle' : (i : Int) ≤ j := by omega
  have e := Ct (S := S) (j := 30 + 170 * k) (n := 131 + k) zi zj (Dw pi.1 pi.2) (Dw pj.1 pj.2) (by omega) (by omega) (by omega)
  rw [Gp] at e
  have mf : A5 [(AV.pool i j).d] S = some (.lst [.int i, .int j], S) := by
   simp [A5, Bw, AV.d, hle, hle']
  simp only [AV.d] at mf ⊢
  simp [Ae, BW, mf, ho, a1, a2, b1, b2, e]
 ·have hle' : ¬ (i : Int) ≤ j := by omega
  have e := Ct (S := S) (j := 30 + 170 * k) (n := 131 + k) zj zi (Dw pj.1 pj.2) (Dw pi.1 pi.2) (by omega) (by omega) (by omega)
  rw [Gp, Lz] at e
  have mf : A5 [(AV.pool i j).d] S = some (.lst [.int j, .int i], S) := by
   simp [A5, Bw, AV.d, hle, hle']
  simp only [AV.d] at mf ⊢
  simp [Ae, BW, mf, ho, a1, a2, b1, b2, e]
theorem Rl {i kd : Nat} {g n : Int} (ho : asS (dr S o) = some (st.loads.map fun x => shD x.ow)) (hi : i < st.loads.length) : Ae [A1 st.loads, o, (AV.swap i g kd n).d] S = some (shD (AR st.loads i).ow, S) := by
 have b1 := Hl hi
 simp [Ae, BW, A5, Bw, AV.d, ho, b1]
theorem P5 {i kd : Nat} {u g n : Int} (ho : asS (dr S o) = some (st.loads.map fun x => shD x.ow)) (hi : i < st.loads.length) : Ae [A1 st.loads, o, (AV.trade u i g kd n).d] S = some (shD (AR st.loads i).ow, S) := by
 have b1 := Hl hi
 simp [Ae, BW, A5, Bw, AV.d, ho, b1]
end
end Mi
end
noncomputable section
namespace Mi
open PySem PySem.Spec L2
theorem ag {α : Type} {xs : List α} {l : Nat} {a : α} (h : xs[l]? = some a) : xs.set l a = xs := by
 apply List.ext_getElem?
 intro i
 by_cases e : l = i
 ·subst e
  rw [List.getElem?_set_self (List.getElem?_eq_some_iff.mp h).1, h]
 ·rw [List.getElem?_set_ne e]
def ows (L : List Ld) : List D := L.map fun x => shD x.ow
theorem IM {L : List Ld} {l : Nat} {n : Int} (hl : l < L.length) : ows (less L l n) = ows L := by
 unfold ows
 rw [N7, List.map_set]
 exact ag (by rw [List.getElem?_map, FD hl]; rfl)
theorem Ng {L : List Ld} {x : Ld} : ows (L ++ [x]) = ows L ++ [shD x.ow] := by simp [ows]
section
variable {S : Sto} {t : Tr} {s : Stt} {d : AV} {ls : List Ld} {ds : List AV} {p q k : Nat}
def Ib : Ex := (Am (xIf (eOp (o2 wEq) [(eOp (o2 wIx) [(eV 7), (eC (.int 0))]), (eC (.str "bring"))]) (Cp (LJ Lb (eV 6) [(AK Cn [(eOp (o2 wIx) [(eV 2), (eC (.int 0))]), (eOp (o2 wIx) [(eV 7), (eC (.int 1))])])])) (xIf (eOp (o2 (wIn false)) [(eOp (o2 wIx) [(eV 7), (eC (.int 0))]), (eC Cf)]) (Cp (LJ Lb (eV 6) [(AK Ae [(eV 5), (eV 6), (eV 7)])])) EB))
  (Bs 5 (AK Ad [(eV 5), (eV 7)])))
theorem R6 (ht : JE t) (h : Es t k s) (hk : k ≤ 16) (hc : Can t s d) (hq : S[q]? = some (.lst (ows s.loads))) {a0 a1 a3 a4 : Option D} : ∃ S', Ib [a0, a1, some t.d, a3, a4, some (A1 s.loads), some (.ref q), some d.d] S = some (.nx, [a0, a1, some t.d, a3, a4, some (A1 (Gf t s d).loads), some (.ref q), some d.d], S') /\ S'[q]? = some (.lst (ows (Gf t s d).loads)) /\ Ci [q] S S' := by
  have hlen := h.len
  have hz : (ows s.loads).length < sizeLine := Nat.lt_of_lt_of_le (show _ < 50 by simp [ows]; omega) (AX (by decide))
  have eh : A1 (step t s d).loads = A1 (Gf t s d).loads := W5 Pg
  have eb : ∀ T, Ad [A1 s.loads, d.d] T = some (A1 (Gf t s d).loads, T) := fun T => by rw [← eh]; exact Jl (S := T) h (by omega) hc
  have lq := Aw hq
  have cq := Aa hq
  have ho : asS (dr S (.ref q)) = some (s.loads.map fun x => shD x.ow) := by rw [BH hq]; rfl
  have put : ∀ y : D, (S.set q (.lst (ows s.loads ++ [y])))[q]? = some (.lst (ows s.loads ++ [y])) := fun y => List.getElem?_set_self lq
  cases d with
  | bring p' kd n =>
    have a1 := JV (S := S) (P := t.p) (p := p') (by have := ht.2.1; omega)
    have e2 := eb (S.set q (.lst (ows s.loads ++ [shD (Pc t.p p')])))
    have as1 : asS (.val t.d) = some [.int t.p, .int t.k, .int t.b, shD t.ho, .int t.h, .int t.l] := rfl
    have dt : ∀ T, dr T t.d = .val t.d := fun _ => rfl
    refine ⟨S.set q (.lst (ows s.loads ++ [shD (Pc t.p p')])), ?_, ?_, .set (by simp)⟩
    · generalize A1 (Gf t s (.bring p' kd n)).loads = H2 at *
      simp only [AV.d] at e2 ⊢
      generalize ows s.loads = O at *
      simp [Ib, cq, as1, dt, a1, hz, e2]
    · rw [put]
      show _ = some (Cl.lst (ows (s.loads ++ [⟨kd, n, Pc t.p p'⟩])))
      rw [Ng]
  | pool i j =>
    have m := Rk ho ht h (by omega) hc
    generalize hY : shD (B5 (AR s.loads i).n (AR s.loads j).n (AR s.loads i).ow (AR s.loads j).ow) = Y at *
    have e2 := eb (S.set q (.lst (ows s.loads ++ [Y])))
    refine ⟨S.set q (.lst (ows s.loads ++ [Y])), ?_, ?_, .set (by simp)⟩
    · generalize A1 (Gf t s (.pool i j)).loads = H2 at *
      simp only [AV.d] at e2 m ⊢
      generalize ows s.loads = O at *
      simp [Ib, cq, m, hz, e2]
    · rw [put, ← hY]
      obtain ⟨hij, hi, hj, _⟩ := hc
      show _ = some (Cl.lst (ows (less (less s.loads i (AR s.loads i).n) j (AR s.loads j).n ++ [_])))
      rw [Ng, IM (by rw [Ce]; exact hj), IM hi]
  | swap l g kd n =>
    have m := Rl (kd := kd) (g := g) (n := n) ho hc.1
    generalize hY : shD (AR s.loads l).ow = Y at *
    have e2 := eb (S.set q (.lst (ows s.loads ++ [Y])))
    refine ⟨S.set q (.lst (ows s.loads ++ [Y])), ?_, ?_, .set (by simp)⟩
    · generalize A1 (Gf t s (.swap l g kd n)).loads = H2 at *
      simp only [AV.d] at e2 m ⊢
      generalize ows s.loads = O at *
      simp [Ib, cq, m, hz, e2]
    · rw [put, ← hY]
      show _ = some (Cl.lst (ows (less s.loads l g ++ [_])))
      rw [Ng, IM hc.1]
  | trade u l g kd n =>
    have m := P5 (kd := kd) (u := u) (g := g) (n := n) ho hc.1
    generalize hY : shD (AR s.loads l).ow = Y at *
    have e2 := eb (S.set q (.lst (ows s.loads ++ [Y])))
    refine ⟨S.set q (.lst (ows s.loads ++ [Y])), ?_, ?_, .set (by simp)⟩
    · generalize A1 (Gf t s (.trade u l g kd n)).loads = H2 at *
      simp only [AV.d] at e2 m ⊢
      generalize ows s.loads = O at *
      simp [Ib, cq, m, hz, e2]
    · rw [put, ← hY]
      show _ = some (Cl.lst (ows (less s.loads l g ++ [_])))
      rw [Ng, IM hc.1]
  | spoil l n =>
    have e2 := eb S
    refine ⟨S, ?_, ?_, .refl⟩
    · generalize A1 (Gf t s (.spoil l n)).loads = H2 at *
      simp only [AV.d] at e2 ⊢
      simp [Ib, e2]
    · rw [hq]
      show _ = some (Cl.lst (ows (less s.loads l n)))
      rw [IM hc.1]
  | thr l n ws =>
    have e2 := eb S
    refine ⟨S, ?_, ?_, .refl⟩
    · generalize A1 (Gf t s (.thr l n ws)).loads = H2 at *
      simp only [AV.d] at e2 ⊢
      simp [Ib, e2]
    · rw [hq]
      show _ = some (Cl.lst (ows (less s.loads l n)))
      rw [IM hc.1]
  | sell a b x =>
    have e2 := eb S
    refine ⟨S, ?_, hq, .refl⟩
    generalize A1 (Gf t s (.sell a b x)).loads = H2 at *
    simp only [AV.d] at e2 ⊢
    simp [Ib, e2]
theorem eN {L : List Ld} {T : Sto} (hq : T[q]? = some (.lst (ows L))) (h : ∀ l ∈ L, p < l.ow.length) (hl : L.length ≤ 30) : CJ [(q, ows L)] (tNm 1) Bx (eOp (o2 wIx) [(eV 1), (eV 0)]) (ows L) [] [some (.int p), none] T = some (L.map (fun x => aD (ownAt x p)), T) :=
 Cr (gs := [(q, ows L)]) (t := tNm 1) (f := eOp (o2 wIx) [(eV 1), (eV 0)]) (C := [some (.int p)]) (m := 1) (e := fun x : Ld => shD x.ow) (g := fun x => aD (ownAt x p)) (S := T) (fun g hg => by rw [List.mem_singleton.mp hg]; exact Aa hq) (xs := L) (acc := []) (os := [none]) rfl (Nat.le_trans (show _ ≤ 50 by simp; omega) (AX (by decide))) (by
  intro x hx os ho
  obtain ⟨o1, rfl⟩ : ∃ o1, os = [o1] := by
   match os, ho with
   | [a], _ => exact ⟨a, rfl⟩
  have a := XJ (h x hx)
  refine ⟨[some (shD x.ow)], rfl, by simp, ?_⟩
  simp [shD, a])
theorem JT (h : A9 t ls ds) (hp : p < t.p) : ∃ S', DO [Ac t ls ds, .int p] S = some (shD (Ag t.k (runs t (st0 t ls) (alone ds)).loads p), S') /\ Ci [] S S' := by
 have hl0 : ls.length ≤ 4 := h.inv.len
 have fo := Oj (S := S) (ls := ls) (by omega)
 have hq : (S ++ [Cl.lst (ows ls)])[S.length]? = some (.lst (ows ls)) := List.getElem?_concat_length
 generalize hQ : S.length = q at *
 obtain ⟨E', S', ef, i, o, f1, f2, rfl, f3, f4⟩ := EN (gs := []) (t := tNm 7) (b := Ib)
  (I := fun rs E S' => ∃ (i : Nat) (o : Option D), rs = (ds.drop i).map AV.d /\ i ≤ ds.length /\ E = [some (Ac t ls ds), some (.int p), some t.d, some (.tup (ls.map Ld.d)), some (.tup (ds.map AV.d)), some (A1 (aSt t ls ds i).loads), some (.ref q), o] /\ S'[q]? = some (.lst (ows (aSt t ls ds i).loads)) /\ Ci [] S S')
  (fun _ _ _ _ => Al) (ds := ds.map AV.d) (E := [some (Ac t ls ds), some (.int p), some t.d, some (.tup (ls.map Ld.d)), some (.tup (ds.map AV.d)), some (A1 ls), some (.ref q), none]) (S := S ++ [Cl.lst (ows ls)])
  ⟨0, none, by simp, Nat.zero_le _, rfl, hq, .app⟩ (by
   rintro dd rs E T ⟨i, o, i1, i2, rfl, i3, i4⟩
   have hlt : i < ds.length := by
    rcases Nat.lt_or_ge i ds.length with w | w
    ·exact w
    ·rw [List.drop_eq_nil_of_le w] at i1; cases i1
   rw [List.drop_eq_getElem_cons hlt, List.map_cons] at i1
   injection i1 with z1 z2
   subst z1 z2
   have hd : ds[i]? = some ds[i] := List.getElem?_eq_getElem hlt
   have ak := h.aOk i
   obtain ⟨T2, e, q2, s2⟩ := R6 (S := T) h.tr ak.inv ak.le (h.aCan hd) i3 (a0 := some (Ac t ls ds)) (a1 := some (.int p)) (a3 := some (.tup (ls.map Ld.d))) (a4 := some (.tup (ds.map AV.d)))
   rw [← Q1 hd] at e q2
   have lq := i4.len
   exact ⟨_, _, T2, by simp, e, i + 1, _, rfl, hlt, rfl, q2, Ci.new (A := []) (B := [q]) i4 s2 (by intro n hn'; simp at hn'; omega)⟩)
 have hz : i = ds.length := by
  have := congrArg List.length f1
  simp at this
  omega
 subst hz
 have ak := h.aOk ds.length
 obtain ⟨G, B, N, K, bd⟩ := ak.inv.bd ak.le
 have hw := ak.inv.own
 have hkd := ak.inv.kind
 rw [SM] at *
 generalize (runs t (st0 t ls) (alone ds)).loads = L at *
 have pc := eN (p := p) f3 (fun l hl => by rw [hw l hl]; exact hp) bd.len
 obtain ⟨t1, t2, t3, t4, t5, t6⟩ := h.tr
 obtain ⟨S3, e3, s3⟩ := Tw (S := S') (k := t.k) (by omega) (p := p) hkd bd
 refine ⟨S3, ?_, f4.trans s3⟩
 have fh := IA (S := S) (ls := ls) (x := t.d) (y := .tup (ds.map AV.d)) (by omega)
 have as1 : asS (.val t.d) = some [.int t.p, .int t.k, .int t.b, shD t.ho, .int t.h, .int t.l] := rfl
 have dt : ∀ T, dr T t.d = .val t.d := fun _ => rfl
 have sq := Gw f3
 have eb : Ic = (Am (NB (tTp [(tNm 2), (tNm 3), (tNm 4)]) (eV 0))
  (Am (Bs 5 (AK BS [(eV 0)]))
  (Am (Bs 6 (Qw [] 1 (FT (eV 3)) (tNm 0) Bx (eOp (o2 wIx) [(eV 0), (eC (.int 2))])))
  (Am (KG (FT (eV 4)) (tNm 7) Ib)
  (BV (AK Bh [(eOp (o2 wIx) [(eV 2), (eC (.int 1))]), (eV 5), (CZ [1] 1 (FT (eV 6)) (tNm 1) Bx (eOp (o2 wIx) [(eV 1), (eV 0)]))])))))) := rfl
 have fo' : CJ [] (tNm 0) Bx (eOp (o2 wIx) [(eV 0), (eC (.int 2))]) (ls.map Ld.d) [] [none] S = some (ows ls, S) := fo
 unfold DO
 rw [eb]
 simp only [Ac] at ef ⊢
 generalize ows ls = O0 at *
 generalize ows L = O1 at *
 simp [fh, fo', hQ, ef, as1, dt, sq, Pr, pc, e3]
end
section
variable {S : Sto} {t : Tr} {ls L : List Ld} {ds : List AV} {n p i q : Nat} {x : Rat}
theorem KH (hp : p < t.p) : BU [Ac t ls ds, .int p] S = some (.non, S) := by
 have h1 : (p : Int) ≤ (t.p : Int) - 1 := by omega
 have k1 : St.Kd.int.isA "int" = true := by decide
 have k2 : St.Kd.int.isA "bool" = false := by decide
 simp [k1, k2, BU, Ej, GI, Ie, Cg, FE, Ff, Gi, Ep, Fz, Ac, Tr.d, kdW, h1]
theorem TV {k : Nat} {L : List Ld} (hp : p < n) : atI ((List.range n).map fun p => shD (Ag k L p)) (p : Int) = some (shD (Ag k L p)) := CV (by rw [List.getElem?_map, List.getElem?_range hp]; rfl)
theorem fH (h : A9 t ls ds) (hn : n ≤ ds.length) (hp : p < t.p) : ∃ S', Dz [Ac t ls ds, .int n, .int p] S = some (shD (Ag t.k (runs t (st0 t ls) (ds.take n)).loads p), S') /\ Ci [] S S' := by
 obtain ⟨S1, e1, s1⟩ := SD (S := S) h hn
 have r1 := HY (S := S) h
 have r2 := PD (S := S) (t := t) (ls := ls) hn
 have r3 := KH (S := S) (ls := ls) (ds := ds) hp
 have a := TV (k := t.k) (L := (runs t (st0 t ls) (ds.take n)).loads) hp
 refine ⟨S1, ?_, s1⟩
 simp [Dz, JN, r1, r2, r3, e1, a]
theorem Rt (h : A9 t ls ds) (hn : n ≤ ds.length) : Gn [Ac t ls ds, .int n] S = some (A1 (runs t (st0 t ls) (ds.take n)).loads, S) := by
 have hl0 : ls.length ≤ 4 := h.inv.len
 have hd := h.len
 have ct := JP (ds := ds.map AV.d) (n := n) (by simp; omega)
 obtain ⟨E', S', ef, i, o, f1, f2, rfl, rfl⟩ := EN (gs := []) (t := tNm 3) (b := Bs 2 (AK Ad [(eV 2), (eV 3)]))
  (I := fun rs E S' => ∃ (i : Nat) (o : Option D), rs = ((ds.take n).drop i).map AV.d /\ i ≤ n /\ E = [some (Ac t ls ds), some (.int n), some (A1 (runs t (st0 t ls) (ds.take i)).loads), o] /\ S' = S)
  (fun _ _ _ _ => Al) (ds := (ds.take n).map AV.d) (E := [some (Ac t ls ds), some (.int n), some (A1 ls), none]) (S := S)
  ⟨0, none, by simp, Nat.zero_le _, by simp [runs, st0], rfl⟩ (by
   rintro dd rs E T ⟨i, o, i1, i2, rfl, rfl⟩
   have hlt : i < (ds.take n).length := by
    rcases Nat.lt_or_ge i (ds.take n).length with w | w
    ·exact w
    ·rw [List.drop_eq_nil_of_le w] at i1; cases i1
   rw [List.drop_eq_getElem_cons hlt, List.map_cons] at i1
   injection i1 with z1 z2
   subst z1 z2
   have hlt' : i < ds.length := by simp at hlt; omega
   have hin : i < n := by simp at hlt; omega
   have hg : (ds.take n)[i] = ds[i] := List.getElem_take
   rw [hg]
   have can := IH h.good (List.getElem?_eq_getElem hlt')
   have il : (ds.take i).length ≤ 16 := by simp; omega
   have e3 := Jl (S := T) (h.at i) (by omega) can
   have rt := Jp (t := t) (st := st0 t ls) (List.getElem?_eq_getElem hlt')
   refine ⟨_, [some (Ac t ls ds), some (.int n), some (A1 (runs t (st0 t ls) (ds.take (i + 1))).loads), some ds[i].d], T, by simp; rfl, ?_, i + 1, some ds[i].d, rfl, hin, rfl, rfl⟩
   rw [rt]
   simp [e3])
 have hz : i = n := by
  have := congrArg List.length f1
  simp at this
  omega
 subst hz
 have fh := IA (S := S') (ls := ls) (x := t.d) (y := .tup (ds.map AV.d)) (by omega)
 simp only [Ac] at ef ⊢
 rw [List.map_take] at ef
 simp [Gn, Lq, fh, ct, ef]
theorem Zk {L : List Ld} {kd : Nat} {T : Sto} (hl : L.length ≤ 30) : CJ [] (tTp [(tNm 1), (tNm 2)]) (eOp (o2 wEq) [(eV 1), (eV 0)]) (eV 2) (L.map hD) [] [some (.int kd), none, none] T = some ((((L.filter fun x => x.k == kd).map fun x => x.n).map D.int), T) := by
 have e := Dr (gs := []) (t := tTp [(tNm 1), (tNm 2)]) (c := eOp (o2 wEq) [(eV 1), (eV 0)]) (f := eV 2) (C := [some (.int kd)]) (m := 2) (e := hD) (g := fun x => D.int x.n) (b := fun x => x.k == kd) (S := T) Al (xs := L) (acc := []) (os := [none, none]) rfl (Nat.le_trans (show _ ≤ 50 by simp; omega) (AX (by decide))) (by
  intro x hx os ho
  obtain ⟨o1, o2, rfl⟩ : ∃ o1 o2, os = [o1, o2] := by
   match os, ho with
   | [a, b], _ => exact ⟨a, b, rfl⟩
  refine ⟨[some (.int x.k), some (.int x.n)], rfl, by simp, ?_, by simp⟩
  have : ((x.k : Int) == (kd : Int)) = (x.k == kd) := by
   rw [Bool.eq_iff_iff, beq_iff_eq, beq_iff_eq]
   omega
  simp [this])
 rw [List.map_map]
 exact e
theorem Wm (h : A9 t ls ds) (hn : n ≤ ds.length) : EV [Ac t ls ds, .int n] S = some (.tup ((List.range t.k).map fun kd => .int (Eh (runs t (st0 t ls) (ds.take n)).loads kd)), S) := by
 have r1 := HY (S := S) h
 have r2 := PD (S := S) (t := t) (ls := ls) hn
 have hb := Rt (S := S) h hn
 have il : (ds.take n).length ≤ 16 := by have := h.len; simp; omega
 have inv := (h.at n).len
 obtain ⟨t1, t2, t3, t4, t5, t6⟩ := h.tr
 generalize (runs t (st0 t ls) (ds.take n)).loads = L at *
 have e := Cr (gs := []) (t := tNm 1) (f := eOp (o1 TR) [(CZ [1] 2 (FT (eV 0)) (tTp [(tNm 1), (tNm 2)]) (eOp (o2 wEq) [(eV 1), (eV 0)]) (eV 2))]) (C := [some (A1 L)]) (m := 1) (e := fun p : Nat => D.int p) (g := fun kd => D.int (Eh L kd)) (S := S) Al (xs := List.range t.k) (acc := []) (os := [none]) rfl (Nat.le_trans (show _ ≤ 50 by simp; omega) (AX (by decide))) (by
  intro kd hk os ho
  obtain ⟨o1, rfl⟩ : ∃ o1, os = [o1] := by
   match os, ho with
   | [a], _ => exact ⟨a, rfl⟩
  have sc := Zk (L := L) (kd := kd) (T := S) (by omega)
  refine ⟨[some (.int kd)], rfl, by simp, ?_⟩
  have dh : sqD S (A1 L) = some (L.map hD, []) := nr rfl
  have is := FY ((L.filter fun x => x.k == kd).map fun x => x.n)
  generalize (((L.filter fun x => x.k == kd).map fun x => x.n).map D.int) = Z at *
  simp [dh, Pr, sc, is, Eh])
 rw [← N1] at e
 have rk : IW (t.k : Int) = true := DR (by omega) (by omega)
 have td : wIx (.val t.d) (.val (.int 1)) = some (.val (.int t.k)) := by simp [Tr.d]
 have dt : dr S t.d = .val t.d := rfl
 simp only [List.nil_append, List.cons_append, Int.toNat_natCast] at e
 simp only [Ac] at r1 r2 hb ⊢
 have tb : wIx (.val (.tup [t.d, .tup (ls.map Ld.d), .tup (ds.map AV.d)])) (.val (.int 0)) = some (.val t.d) := by simp
 simp [EV, Ki, r1, r2, hb, -Sk, tb, td, dt, rk, Pr, e]
end
section
variable {S : Sto} {t : Tr} {ls L : List Ld} {ds : List AV} {n p i q : Nat} {x : Rat}
theorem Gm (h : A9 t ls ds) (hp : p < t.p) : ∃ S', Bc [Ac t ls ds, .int p] S = some (shD (Ag t.k (runs t (st0 t ls) (alone ds)).loads p), S') /\ Ci [] S S' := by
 obtain ⟨S1, e1, s1⟩ := JT (S := S) h hp
 have r1 := HY (S := S) h
 have r3 := KH (S := S) (ls := ls) (ds := ds) hp
 exact ⟨S1, by simp [Bc, Km, r1, r3, e1], s1⟩
theorem Kz (h : A9 t ls ds) (hp : p < t.p) : ∃ S', CD [Ac t ls ds, .int p] S = some (shD (Fo (Ag t.k (runs t (st0 t ls) ds).loads p) (Ag t.k (runs t (st0 t ls) (alone ds)).loads p)), S') /\ Ci [] S S' := by
 obtain ⟨S1, e1, s1⟩ := Vx (S := S) h
 obtain ⟨S2, e2, s2⟩ := JT (S := S1) h hp
 have r1 := HY (S := S) h
 have r3 := KH (S := S) (ls := ls) (ds := ds) hp
 obtain ⟨G, B, N, K, bd⟩ := h.fin.bd h.len
 obtain ⟨G', B', N', K', bd'⟩ := h.alone.fin.bd h.alone.len
 obtain ⟨t1, t2, t3, t4, t5, t6⟩ := h.tr
 have l := O3 (S := S2) (RF bd (k := t.k) (p := p)) (RF bd' (k := t.k) (p := p)) (by have := bd.hK; have := bd'.hK; omega) (by simp [Ag]; omega)
 have a : atI ((List.range t.p).map fun p => shD (Ag t.k (runs t (st0 t ls) ds).loads p)) (p : Int) = some (shD (Ag t.k (runs t (st0 t ls) ds).loads p)) := CV (by rw [List.getElem?_map, List.getElem?_range hp]; rfl)
 refine ⟨S2, ?_, s1.trans s2⟩
 simp only [Ac] at r1 r3 e1 e2 ⊢
 generalize ((List.range t.p).map fun p => shD (Ag t.k (runs t (st0 t ls) ds).loads p)) = RR at *
 simp [CD, JS, r1, r3, e1, a, e2, l]
end
section
variable {S : Sto} {t : Tr} {ls L : List Ld} {ds : List AV} {n p i q : Nat} {x : Rat}
theorem Y2 (h : ds[i]? = some (.sell p q x)) : atI (ds.map AV.d) (i : Int) = some (AV.sell p q x).d := CV (by rw [List.getElem?_map, h]; rfl)
theorem Rp (h : ds[i]? = some (.sell p q x)) : Cq [Ac t ls ds, .int i] S = some (.non, S) := by
 have hi : i < ds.length := (List.getElem?_eq_some_iff.mp h).1
 have h1 : (i : Int) ≤ (ds.length : Int) - 1 := by omega
 have k1 : St.Kd.int.isA "int" = true := by decide
 have k2 : St.Kd.int.isA "bool" = false := by decide
 have a := Y2 h
 simp [k1, k2, Cq, F5, Fg, HP, HU, Ku, Cg, FE, Ff, Gi, Ep, Fz, Ac, kdW, h1, a, AV.d]
theorem erase_eq {α : Type} {xs : List α} : xs.eraseIdx i = xs.take i ++ xs.drop (i + 1) := List.eraseIdx_eq_take_drop_succ xs i
theorem UY {n : Nat} (hi : i < ds.length) (hl : ds.length ≤ 50) : Jv (ds.map AV.d) none (some (i : Int)) = (ds.take i).map AV.d /\ Jv (ds.map AV.d) (some ((i : Int) + 1)) none = (ds.drop (i + 1)).map AV.d /\ ((ds.take i).map AV.d).length + ((ds.drop (i + 1)).map AV.d).length ≤ sizeLine := by
 refine ⟨?_, ?_, Nat.le_trans (show _ ≤ 100 by simp; omega) (AX (by decide))⟩
 ·rw [JP (by simp; omega), List.map_take]
 ·have := Qn (ds := ds.map AV.d) (n := i + 1) (by simp; omega)
  rw [List.map_drop]
  simpa using this
theorem MM (hi : i < ds.length) (hl : ds.length ≤ 50) : DV [Ac t ls ds, .int i] S = some (Ac t ls (ds.eraseIdx i), S) := by
 obtain ⟨c1, c2, c3⟩ := UY (n := 0) hi hl
 rw [erase_eq]
 simp only [Ac, List.map_append]
 generalize (ds.take i).map AV.d = A at *
 generalize (ds.drop (i + 1)).map AV.d = B at *
 simp [DV, HC, c1, c2, c3]
theorem Tg (h : A9 t ls ds) (hs : ds[i]? = some (.sell p q x)) : GW [Ac t ls ds, .int i] S = some (Ac t ls (ds.eraseIdx i), S) := by
 have hi : i < ds.length := (List.getElem?_eq_some_iff.mp hs).1
 have e1 := HY (S := S) h
 have e2 := Rp (S := S) (t := t) (ls := ls) hs
 have e3 := MM (S := S) (t := t) (ls := ls) hi (by have := h.len; omega)
 simp [GW, NQ, e1, e2, e3]
def Ja : AV -> Bool
 | .sell .. => true
 | _ => false
theorem TC {d : AV} (h : Ja d = true) : ∃ p q x, d = .sell p q x := by
 cases d with
 | sell p q x => exact ⟨p, q, x, rfl⟩
 | _ => cases h
theorem O7 {E : En} {w : Nat} {d : AV} (h : at? E w = some d.d) {v : Nat} (hv : at? E v = some (.str "sell")) : eOp (o2 wEq) [(eOp (o2 wIx) [(eV w), (eC (.int 0))]), (eV v)] E S = some (.bl (Ja d), S) := by
 cases d <;> simp [h, hv, AV.d, Ja]
theorem US (hl : ds.length ≤ 50) : ∃ is : List Nat, Ec [Ac t ls ds, .str "sell"] S = some (.lst (is.map fun (i : Nat) => D.int i), S) /\ ∀ i ∈ is, ∃ p q x, ds[i]? = some (.sell p q x) := by
 have e := Dr (gs := []) (t := tTp [(tNm 1), (tNm 2)]) (c := eOp (o2 wEq) [(eOp (o2 wIx) [(eV 2), (eC (.int 0))]), (eV 0)]) (f := eV 1) (C := [some (.str "sell")]) (m := 2) (e := fun (i : Nat) => D.tup [.int i, (ds.map AV.d).getD i .non]) (g := fun (i : Nat) => D.int i) (b := fun i => Ja (ds.getD i (.pool 0 0))) (S := S) Al (xs := List.range ds.length) (acc := []) (os := [none, none]) rfl (Nat.le_trans (show _ ≤ 50 by simp; omega) (AX (by decide))) (by
  intro z hz os ho
  obtain ⟨q1, q2, rfl⟩ : ∃ q1 q2, os = [q1, q2] := by
   match os, ho with
   | [a, b], _ => exact ⟨a, b, rfl⟩
  have hz' : z < ds.length := by simpa using hz
  have ed : (ds.map AV.d).getD z .non = (ds.getD z (.pool 0 0)).d := by
   rw [List.getD_eq_getElem?_getD, List.getD_eq_getElem?_getD, List.getElem?_map, List.getElem?_eq_getElem hz']; rfl
  refine ⟨[some (.int z), some (ds.getD z (.pool 0 0)).d], rfl, by rw [ed]; simp, ?_, by simp⟩
  exact O7 rfl rfl)
 have er := MT (ds := ds.map AV.d)
 rw [List.length_map] at er
 rw [← er] at e
 refine ⟨(List.range ds.length).filter fun i => Ja (ds.getD i (.pool 0 0)), ?_, fun i hi => ?_⟩
 ·simp only [List.nil_append, List.cons_append] at e
  simp [Ec, Kp, Ac, Pr, e]
 ·obtain ⟨h1, h2⟩ := List.mem_filter.mp hi
  have hi' : i < ds.length := by simpa using h1
  obtain ⟨p, q, x, e⟩ := TC h2
  refine ⟨p, q, x, ?_⟩
  rw [List.getD_eq_getElem?_getD, List.getElem?_eq_getElem hi'] at e
  rw [List.getElem?_eq_getElem hi']
  exact congrArg some e
theorem dk (hl : ds.length ≤ 50) : CJ [] (tNm 1) (eOp (o2 wEq) [(eOp (o2 wIx) [(eV 1), (eC (.int 0))]), (eV 0)]) (eV 1) (ds.map AV.d) [] [some (.str "sell"), none] S = some ((ds.filter Ja).map AV.d, S) :=
 Dr (gs := []) (t := tNm 1) (c := eOp (o2 wEq) [(eOp (o2 wIx) [(eV 1), (eC (.int 0))]), (eV 0)]) (f := eV 1) (C := [some (.str "sell")]) (m := 1) (e := AV.d) (g := AV.d) (b := Ja) (S := S) Al (xs := ds) (acc := []) (os := [none]) rfl (Nat.le_trans (show _ ≤ 50 by simp; omega) (AX (by decide))) (by
  intro z hz os ho
  obtain ⟨q1, rfl⟩ : ∃ q1, os = [q1] := by
   match os, ho with
   | [a], _ => exact ⟨a, rfl⟩
  exact ⟨[some z.d], rfl, by simp, O7 rfl rfl, by simp⟩)
theorem ne_nil {xs : List D} (h : D.lays xs = true) : wNe (.val (.lst xs)) (.val (.lst [])) = some (.val (.bl (!xs.isEmpty))) := by
 rw [QG, Xk, Xk, if_pos (Q4 h)]
 cases xs <;> rfl
theorem R4 (h : Ew p S) : ∃ t ls ds S', DC [.ref p, .int 14, .str "sell"] S = some (Ac t ls ds, S') /\ A9 t ls ds /\ ∀ l ∈ ls, l.ow.sum = 1 := by
  obtain ⟨t0, ls0, ds0, S0, e0, ⟨b0, _⟩, ⟨n0, _⟩, p0⟩ := SS (M := 14) (by decide) h
  rw [show ((14 : Nat) : Int) = 14 from rfl] at e0
  have r5 : IW 5 = true := DR (by omega) (by omega)
  have hb : Jh = Am (Bs 3 (AK Df [(eV 0), (eV 1)]))
    (Am (KG (OZ [(eC (.int 5))]) (tNm 4) (Am (xIf (eOp (o2 wNe) [(CZ [2] 1 (FT (eOp (o2 wIx) [(eV 3), (eC (.int 2))])) (tNm 1) (eOp (o2 wEq) [(eOp (o2 wIx) [(eV 1), (eC (.int 0))]), (eV 0)]) (eV 1)), (JF [])]) (BV (eV 3)) EB)
    (Bs 3 (AK Df [(eV 0), (eV 1)]))))
    (BV (eV 3))) := rfl
  rcases Xl (gs := []) (t := tNm 4) (b := Am (xIf (eOp (o2 wNe) [(CZ [2] 1 (FT (eOp (o2 wIx) [(eV 3), (eC (.int 2))])) (tNm 1) (eOp (o2 wEq) [(eOp (o2 wIx) [(eV 1), (eC (.int 0))]), (eV 0)]) (eV 1)), (JF [])]) (BV (eV 3)) EB)
    (Bs 3 (AK Df [(eV 0), (eV 1)])))
    (I := fun rs E S' => ∃ t ls ds o, E = [some (.ref p), some (.int 14), some (.str "sell"), some (Ac t ls ds), o] /\ (A9 t ls ds /\ ∀ l ∈ ls, l.ow.sum = 1) /\ Ew p S')
    (R := fun w S' => ∃ t ls ds, w = Ac t ls ds /\ A9 t ls ds /\ ∀ l ∈ ls, l.ow.sum = 1)
    (fun _ _ _ _ => Al) (ds := GA 0 (5 : Int).toNat) (E := [some (.ref p), some (.int 14), some (.str "sell"), some (Ac t0 ls0 ds0), none]) (S := S0) ⟨t0, ls0, ds0, none, rfl, ⟨b0, n0⟩, p0⟩ (by
      rintro dd rs E T ⟨t, ls, ds, o, rfl, i1, i2⟩
      have hl := i1.1.len
      have c := dk (S := T) (ds := ds) (by omega)
      have nn := ne_nil (xs := (ds.filter Ja).map AV.d) (Gk fun _ _ => VH)
      refine ⟨[some (.ref p), some (.int 14), some (.str "sell"), some (Ac t ls ds), some dd], by simp, ?_⟩
      generalize (ds.filter Ja).map AV.d = Z at *
      cases hz : Z.isEmpty with
      | true =>
        left
        obtain ⟨t1, ls1, ds1, S1, e1, ⟨b1, _⟩, ⟨n1, _⟩, p1⟩ := SS (M := 14) (by decide) i2
        rw [show ((14 : Nat) : Int) = 14 from rfl] at e1
        refine ⟨[some (.ref p), some (.int 14), some (.str "sell"), some (Ac t1 ls1 ds1), some dd], S1, ?_, t1, ls1, ds1, some dd, rfl, ⟨b1, n1⟩, p1⟩
        rw [hz] at nn
        simp [Ac, Pr, c, -QG, nn, e1]
      | false =>
        right
        refine ⟨Ac t ls ds, [some (.ref p), some (.int 14), some (.str "sell"), some (Ac t ls ds), some dd], T, ?_, t, ls, ds, rfl, i1⟩
        rw [hz] at nn
        simp [Ac, Pr, c, -QG, nn]) with ⟨E', S', ef, t, ls, ds, o, rfl, i1, i2⟩ | ⟨w, E', S', ef, t, ls, ds, rfl, i1⟩
  · refine ⟨t, ls, ds, S', ?_, i1⟩
    unfold DC
    rw [hb]
    simp [e0, r5] at ef ⊢
    simp [ef]
  · refine ⟨t, ls, ds, S', ?_, i1⟩
    unfold DC
    rw [hb]
    simp [e0, r5] at ef ⊢
    simp [ef]
end
def SH (G B : Nat) (L : List Ld) : Prop := ∀ l ∈ L, ∀ r ∈ l.ow, Ok G B r
def YX (k : Nat) (L A : List Ld) : Prop := ∃ G B : Nat, 0 < G /\ G ≤ B /\ B < 2 ^ (30 + 170 * k) /\ SH G B L /\ SH G B A
section
variable {t : Tr} {k k' : Nat} {s a : Stt} {L : List Ld} {G B : Nat} {d : AV}
theorem SH.less (h : SH G B L) {l : Nat} {n : Int} (hl : l < L.length) : SH G B (less L l n) := fun x hx r hr => by
 rcases IE hx hl with hx | rfl
 ·exact h x hx r hr
 ·exact h (AR L l) (AW hl) r hr
theorem SH.app (h : SH G B L) {y : Ld} (hy : ∀ r ∈ y.ow, Ok G B r) : SH G B (L ++ [y]) := fun x hx r hr => by
 rcases List.mem_append.mp hx with hx | hx
 ·exact h x hx r hr
 ·rw [List.mem_singleton.mp hx] at hr; exact hy r hr
theorem SH.up (h : SH G B L) {T B' : Nat} (hT : B * T ≤ B') : SH (G * T) B' L := fun x hx r hr => (h x hx r hr).up hT
theorem QY {B k : Nat} (h : B < 2 ^ (30 + 170 * k)) : B < 2 ^ (30 + 170 * (k + 1)) := Nat.lt_of_lt_of_le h (Nat.pow_le_pow_right (by decide) (by omega))
theorem Rh (ht : JE t) (h : Es t k' s) (hk : k' ≤ 16) (sim : Sim s a) (hc : Can t s d) (j : YX k s.loads a.loads) : YX (k + 1) (step t s d).loads (Gf t a d).loads := by
  obtain ⟨G, B, g0, gb, b, h1, h2⟩ := j
  have len := sim.len
  cases d with
  | bring p kd n => exact ⟨G, B, g0, gb, QY b, h1.app (UM gb), h2.app (UM gb)⟩
  | pool i j =>
    obtain ⟨hij, hi, hj, n1, n2, n3⟩ := hc
    have pi := (h.pcs _ (AW hi)).2
    have pj := (h.pcs _ (AW hj)).2
    have e : (2 : Int) ^ (131 + k') ≤ 2 ^ 147 := Hg (by omega)
    have hT : ((AR s.loads i).n + (AR s.loads j).n).toNat < 2 ^ 149 := by omega
    have si := (sim.at i).2
    have sj := (sim.at j).2
    have T0 : 0 < ((AR s.loads i).n + (AR s.loads j).n).toNat := by omega
    refine ⟨G * ((AR s.loads i).n + (AR s.loads j).n).toNat, B * ((AR s.loads i).n + (AR s.loads j).n).toNat, Nat.mul_pos g0 T0, Nat.mul_le_mul_right _ gb, NZ b hT (by decide), ?_, ?_⟩
    · exact (((h1.less hi).less (by rw [Ce]; exact hj)).up (Nat.le_refl _)).app (MG n1 n2 (h1 _ (AW hi)) (h1 _ (AW hj)))
    · have m1 : 0 < (AR a.loads i).n := by omega
      have m2 : 0 < (AR a.loads j).n := by omega
      rw [si, sj]
      exact (((h2.less (by omega)).less (by rw [Ce]; omega)).up (Nat.le_refl _)).app (MG m1 m2 (h2 _ (AW (by omega))) (h2 _ (AW (by omega))))
  | swap l g kd n =>
    have hla : l < a.loads.length := by rw [← len]; exact hc.1
    exact ⟨G, B, g0, gb, QY b, (h1.less hc.1).app (h1 (AR s.loads l) (AW hc.1) :), (h2.less hla).app (h2 (AR a.loads l) (AW hla) :)⟩
  | trade u l g kd n =>
    have hla : l < a.loads.length := by rw [← len]; exact hc.1
    exact ⟨G, B, g0, gb, QY b, (h1.less hc.1).app (h1 (AR s.loads l) (AW hc.1) :), (h2.less hla).app (h2 (AR a.loads l) (AW hla) :)⟩
  | spoil l n => exact ⟨G, B, g0, gb, QY b, h1.less hc.1, h2.less (by have := hc.1; omega)⟩
  | thr l n ws =>
    obtain ⟨hl, n1, n2, w1, w2⟩ := hc
    have wb := H0 ht h (by omega) w1 w2
    have e : (2 : Int) ^ (145 + k') ≤ 2 ^ 161 := Hg (by omega)
    have hT : (DN t s.loads ws).toNat < 2 ^ 162 := by omega
    refine ⟨G * (DN t s.loads ws).toNat, B * (DN t s.loads ws).toNat, Nat.mul_pos g0 (by omega), Nat.mul_le_mul_right _ gb, NZ b hT (by decide), fun x hx r hr => ?_, (h2.less (by omega)).up (Nat.le_refl _)⟩
    obtain ⟨y, hy, rfl⟩ := List.mem_map.mp hx
    exact Pf ht h (by omega) w1 w2 hl n1 n2 (h1 _ (AW hl)) (h1.less hl y hy) r hr
  | sell p q x =>
    obtain ⟨hpq, hp, hq, x1, x2, x3⟩ := hc
    have dp := x.den_pos
    have hT : 2 * x.den < 2 ^ 5 := by omega
    have hb := NZ b hT (by decide)
    have e : B * (2 * x.den) = 2 * B * x.den := by rw [← Nat.mul_assoc, Nat.mul_comm B 2]
    rw [e] at hb
    have e2 : B * x.den ≤ 2 * B * x.den := Nat.mul_le_mul_right _ (by omega)
    refine ⟨G * x.den, 2 * B * x.den, Nat.mul_pos g0 dp, Nat.le_trans (Nat.mul_le_mul_right _ gb) e2, hb, fun y hy r hr => ?_, h2.up e2⟩
    obtain ⟨z, hz, rfl⟩ := List.mem_map.mp hy
    exact QL (by rw [h.own z hz]; exact hp) (by rw [h.own z hz]; exact hq) x1 x2 (h1 z hz) r hr
theorem A9.joint {ls : List Ld} {ds : List AV} (h : A9 t ls ds) : ∀ i, i ≤ ds.length -> YX i (runs t (st0 t ls) (ds.take i)).loads (aSt t ls ds i).loads
  | 0, _ => by
    obtain ⟨G, B, g0, gb, b, h1, _⟩ := h.inv.gb
    exact ⟨G, B, g0, gb, b, h1, h1⟩
  | i + 1, hi => by
    have hd : ds[i]? = some ds[i] := List.getElem?_eq_getElem (by omega)
    rw [Jp hd, Q1 hd]
    exact Rh h.tr (h.at i) (by have := h.len; simp; omega) (h.aOk i).sim (IH h.good hd) (h.joint i (by omega))
end
def OkZ (G B : Nat) (r : Rat) : Prop := ∃ z : Int, r * (G : Rat) = (z : Rat) /\ z.natAbs ≤ B
section
variable {G B C K : Nat} {r q : Rat} {S : Sto}
theorem OkZ.sz (h : OkZ G B r) (hG : 0 < G) (g : G < 2 ^ K) (b : B < 2 ^ K) : Sz K r := by
 obtain ⟨z, e, hz⟩ := h
 have e2 : r = (z : Rat) / ((G : Int) : Rat) := by
  have := KP hG
  rw [show (((G : Nat) : Int) : Rat) = (G : Rat) from rfl, ← e]
  grind
 rw [e2]
 exact MO (by omega) (Nat.lt_of_le_of_lt hz b) (by simpa using g)
theorem OkZ.zero : OkZ G B 0 := ⟨0, by simp, Nat.zero_le _⟩
theorem OkZ.add (h : OkZ G B r) (g : OkZ G C q) : OkZ G (B + C) (r + q) := by
 obtain ⟨z, e1, h1⟩ := h
 obtain ⟨y, e2, h2⟩ := g
 refine ⟨z + y, ?_, by omega⟩
 push_cast
 rw [← e1, ← e2]
 grind
theorem Ok.subZ (h : Ok G B r) (g : Ok G B q) : OkZ G B (r - q) := by
 obtain ⟨z, e1, h1⟩ := h
 obtain ⟨y, e2, h2⟩ := g
 refine ⟨(z : Int) - y, ?_, by omega⟩
 have : (((z : Int) - (y : Int) : Int) : Rat) = (z : Rat) - (y : Rat) := by push_cast; rfl
 rw [this, ← e1, ← e2]
 grind
theorem Oz (hG : 0 < G) (gK : G < 2 ^ K) (hK : 2 * K ≤ 7990) {X : Option D} : ∀ {rs : List Rat} {acc : Rat} {m : Nat} {o : Option D}, OkZ G (m * B) acc -> (∀ r ∈ rs, OkZ G B r) -> (m + rs.length) * B < 2 ^ K ->
    ∃ o', K4 [] (tNm 2) (Bs 1 (AK Bn [(eV 1), (eV 2)])) (rs.map aD) [X, some (aD acc), o] S = some (.nx, [X, some (aD (acc + rs.sum)), o'], S)
  | [], acc, m, o, ha, hr, hb => ⟨o, by
      rw [List.map_nil, IJ Al, List.sum_nil]
      have : acc + 0 = acc := by grind
      rw [this]⟩
  | r :: rs, acc, m, o, ha, hr, hb => by
    have h1 := hr r List.mem_cons_self
    have b1 : (m + 1) * B ≤ (m + (r :: rs).length) * B := Nat.mul_le_mul_right _ (by simp)
    have mb : (m + 1) * B = m * B + B := by rw [Nat.succ_mul]
    have e := NV (S := S) (ha.sz hG gK (by omega)) (h1.sz hG gK (by omega)) (by omega)
    have ha2 : OkZ G ((m + 1) * B) (acc + r) := by rw [mb]; exact ha.add h1
    obtain ⟨o', ih⟩ := Oz hG gK hK (X := X) (rs := rs) (acc := acc + r) (m := m + 1) (o := some (aD r)) ha2 (fun q hq => hr q (List.mem_cons_of_mem _ hq)) (by
      have : m + 1 + rs.length = m + (r :: rs).length := by simp; omega
      rw [this]; exact hb)
    refine ⟨o', ?_⟩
    have ea : acc + (r :: rs).sum = acc + r + rs.sum := by rw [List.sum_cons]; grind
    rw [List.map_cons, C7 Al, ea, ← ih]
    simp [e]
theorem ZC {rs : List Rat} (hG : 0 < G) (gK : G < 2 ^ K) (hK : 2 * K ≤ 7990) (hr : ∀ r ∈ rs, OkZ G B r) (hb : rs.length * B < 2 ^ K) : EY [.lst (rs.map aD)] S = some (aD rs.sum, S) := by
 obtain ⟨o', e⟩ := Oz (S := S) hG gK hK (X := some (.lst (rs.map aD))) (rs := rs) (acc := 0) (m := 0) (o := none) OkZ.zero hr (by simpa using hb)
 have ez : (0 : Rat) + rs.sum = rs.sum := by grind
 rw [ez, Lg] at e
 simp [EY, Li, e]
end
@[simp] theorem eP {cf : Bool} {f : Ev} {E : En} {S : Sto} : dH cf f E S = (f E S).bind (lrK cf) := nr rfl
@[simp] theorem dN {cf : Bool} {j : Int} {S : Sto} : lrK cf (.int j, S) = if (decide (0 ≤ j) && decide (j ≤ 1000)) = true then fin cf (.own (GA 0 j.toNat)) S else none := nr rfl
theorem MS {ds : List AV} : alone (alone ds) = alone ds := by
 unfold alone
 rw [List.filterMap_filterMap]
 congr 1
 funext d
 cases d <;> rfl
theorem L8 {i p q : Nat} {x : Rat} : ∀ {ds : List AV} {i : Nat}, ds[i]? = some (.sell p q x) -> alone (ds.eraseIdx i) = alone ds
  | d :: ds, 0, h => by
    simp at h
    subst h
    rfl
  | d :: ds, i + 1, h => by
    have ih := L8 (ds := ds) (i := i) (by simpa using h)
    show alone (d :: ds.eraseIdx i) = _
    unfold alone at ih ⊢
    rw [List.filterMap_cons, List.filterMap_cons, ih]
theorem Rf {ds : List AV} {d : AV} : alone (ds ++ [d]) = alone ds ++ (conv d).toList := by
 unfold alone
 rw [List.filterMap_append]
 cases h : conv d <;> simp [List.filterMap_cons, h]
section
variable {S : Sto} {t : Tr} {ls L A : List Ld} {ds : List AV} {n p i q k kd : Nat}
theorem Qm (h : L.map kn = A.map kn) : Eh L kd = Eh A kd := by
 have e : ∀ L : List Ld, Eh L kd = (((L.map kn).filter fun z => z.1 == kd).map fun z => z.2).sum := fun L => by
  unfold Eh
  rw [List.filter_map, List.map_map]
  rfl
 rw [e, e, h]
theorem A9.onesF (h : A9 t ls ds) (ho : Pu ls) : Pu (runs t (st0 t ls) ds).loads := by
 have := h.ones ho ds.length
 rwa [List.take_length] at this
theorem A9.jointF (h : A9 t ls ds) : ∃ G B N K : Nat, Bd (runs t (st0 t ls) ds).loads G B N K /\ Bd (runs t (st0 t ls) (Mi.alone ds)).loads G B N K := by
 have j := h.joint ds.length (Nat.le_refl _)
 rw [List.take_length, SM] at j
 obtain ⟨G, B, g0, gb, b, h1, h2⟩ := j
 have hl := h.len
 have ha := h.alone
 have hal := ha.len
 have i1 := h.fin
 have i2 := ha.fin
 have hB : B < 2 ^ 2750 := Nat.lt_of_lt_of_le b (Nat.pow_le_pow_right (by decide) (by omega))
 have hB' : B < 2 ^ 3000 := Nat.lt_of_lt_of_le hB (Nat.pow_le_pow_right (by decide) (by decide))
 have hN : (2 ^ 147 : Nat) < 2 ^ 148 := Nat.pow_lt_pow_right (by decide) (by decide)
 have pc : ∀ {k : Nat} {s : Stt}, Es t k s -> k ≤ 16 -> ∀ l ∈ s.loads, 0 ≤ l.n /\ l.n ≤ ((2 ^ 147 : Nat) : Int) := fun {k s} h hk l hl => by
  have := h.pcs l hl
  refine ⟨this.1, ?_⟩
  have e : (2 : Int) ^ (131 + k) ≤ ((2 ^ 147 : Nat) : Int) := by
   have : (2 : Nat) ^ (131 + k) ≤ 2 ^ 147 := Nat.pow_le_pow_right (by decide) (by omega)
   exact_mod_cast this
  omega
 have hb : 200 * (B * 2 ^ 147) < 2 ^ 3000 := by
  have := Co (show 200 < 2 ^ 8 by decide) (Co hB hN)
  exact Nat.lt_of_lt_of_le this (Nat.pow_le_pow_right (by decide) (by decide))
 have nk := Nat.lt_of_lt_of_le hN (Nat.pow_le_pow_right (show 0 < 2 by decide) (show 148 ≤ 3000 by decide))
 exact ⟨G, B, 2 ^ 147, 3000, ⟨g0, Nat.lt_of_le_of_lt gb hB', by decide, h1, pc i1 hl, hB', nk, hb, by have := i1.len; omega⟩, ⟨g0, Nat.lt_of_le_of_lt gb hB', by decide, h2, pc i2 hal, hB', nk, hb, by have := i2.len; omega⟩⟩
theorem Qs {f : Nat -> List Rat} {P : Nat} (hP : 1 ≤ P) (hP4 : P ≤ 4) (hk : k ≤ 20) (hf : ∀ p, p < P -> (f p).length = k) (hs : ∀ kd, kd < k -> EY [.lst (((List.range P).map fun p => (f p).getD kd 0).map aD)] S = some (aD ((List.range P).map fun p => (f p).getD kd 0).sum, S)) :
    C9 [.lst ((List.range P).map fun p => shD (f p))] S = some (.lst (((List.range k).map fun kd => ((List.range P).map fun p => (f p).getD kd 0).sum).map aD), S) := by
  have e := Cr (gs := []) (t := tNm 1) (f := AK EY [(CZ [1] 1 (FT (eV 0)) (tNm 1) Bx (eOp (o2 wIx) [(eV 1), (eV 0)]))]) (C := [some (.lst ((List.range P).map fun p => shD (f p)))]) (m := 1) (e := fun kd : Nat => D.int kd) (g := fun kd => aD ((List.range P).map fun p => (f p).getD kd 0).sum) (S := S) Al (xs := List.range k) (acc := []) (os := [none]) rfl (Nat.le_trans (show _ ≤ 50 by simp; omega) (AX (by decide))) (by
    intro kd hkd os ho
    obtain ⟨o1, rfl⟩ : ∃ o1, os = [o1] := by
      match os, ho with
      | [a], _ => exact ⟨a, rfl⟩
    have hkd' : kd < k := by simpa using hkd
    have c := Cr (gs := []) (t := tNm 1) (f := eOp (o2 wIx) [(eV 1), (eV 0)]) (C := [some (.int kd)]) (m := 1) (e := fun p : Nat => shD (f p)) (g := fun p => aD ((f p).getD kd 0)) (S := S) Al (xs := List.range P) (acc := []) (os := [none]) rfl (Nat.le_trans (show _ ≤ 50 by simp; omega) (AX (by decide))) (by
      intro p hp os ho
      obtain ⟨o1, rfl⟩ : ∃ o1, os = [o1] := by
        match os, ho with
        | [a], _ => exact ⟨a, rfl⟩
      have hl : kd < (f p).length := by rw [hf p (by simpa using hp)]; exact hkd'
      have a : atI ((f p).map aD) (kd : Int) = some (aD ((f p).getD kd 0)) := CV (by
        rw [List.getElem?_map, List.getElem?_eq_getElem hl, List.getD_eq_getElem?_getD, List.getElem?_eq_getElem hl]; rfl)
      refine ⟨[some (shD (f p))], rfl, by simp, ?_⟩
      simp [shD, a])
    have h1 := hs kd hkd'
    rw [show (List.range P).map (fun p => aD ((f p).getD kd 0)) = ((List.range P).map fun p => (f p).getD kd 0).map aD by rw [List.map_map]; rfl] at c
    refine ⟨[some (.int kd)], rfl, by simp, ?_⟩
    simp only [List.cons_append, List.nil_append] at c ⊢
    generalize ((List.range P).map fun p => (f p).getD kd 0).map aD = V at *
    generalize aD ((List.range P).map fun p => (f p).getD kd 0).sum = D1 at *
    generalize (List.range P).map (fun p => shD (f p)) = RW at *
    simp [Pr, c, h1])
  have a0 : atI ((List.range P).map fun p => shD (f p)) 0 = some (.tup ((f 0).map aD)) := by
    have := CV (xs := (List.range P).map fun p => shD (f p)) (n := 0) (x := .tup ((f 0).map aD)) (by rw [List.getElem?_map, List.getElem?_range (by omega)]; rfl)
    exact this
  have l0 : ((f 0).map aD).length = k := by rw [List.length_map]; exact hf 0 (by omega)
  have rk : IW (k : Int) = true := DR (by omega) (by omega)
  rw [← N1] at e
  simp only [List.cons_append, List.nil_append, Int.toNat_natCast] at e
  rw [List.map_map]
  rw [show ((aD ∘ fun kd => ((List.range P).map fun p => (f p).getD kd 0).sum)) = fun kd => aD ((List.range P).map fun p => (f p).getD kd 0).sum from rfl]
  generalize (List.range k).map (fun kd => aD ((List.range P).map fun p => (f p).getD kd 0).sum) = W at *
  generalize (List.range P).map (fun p => shD (f p)) = RW at *
  generalize (f 0).map aD = F0 at *
  simp [C9, NP, a0, l0, rk, Pr, e]
theorem Rw (hk : kd < k) : (Ag k L p).getD kd 0 = kindS L p kd := by
 unfold Ag
 rw [List.getD_eq_getElem?_getD, List.getElem?_map, List.getElem?_range hk]; rfl
theorem RL (hk : kd < k) : (Fo (Ag k L p) (Ag k A p)).getD kd 0 = kindS L p kd - kindS A p kd := by
 unfold Fo Ag
 rw [List.getD_eq_getElem?_getD, List.getElem?_zipWith, List.getElem?_map, List.getElem?_map, List.getElem?_range hk]; rfl
def Ji (k : Nat) (L : List Ld) : List D := (List.range k).map fun kd => aD (Eh L kd : Rat)
theorem Rb (h : A9 t ls ds) (ho : Pu ls) : C9 [.lst ((List.range t.p).map fun p => shD (Ag t.k (runs t (st0 t ls) (alone ds)).loads p))] S = some (.lst (Ji t.k (runs t (st0 t ls) ds).loads), S) := by
 obtain ⟨t1, t2, t3, t4, t5, t6⟩ := h.tr
 obtain ⟨G, B, N, K, bR, bA⟩ := h.jointF
 have oA := h.alone.onesF ho
 have wA := h.alone.fin.own
 have kn' := (GQ Sim.refl h.good (t := t)).2.kn
 have tot : ∀ kd, ((List.range t.p).map fun p => kindS (runs t (st0 t ls) (alone ds)).loads p kd).sum = (Eh (runs t (st0 t ls) ds).loads kd : Rat) := fun kd => by
  rw [IC wA oA, ← Qm kn']
 generalize (runs t (st0 t ls) (alone ds)).loads = A at *
 generalize (runs t (st0 t ls) ds).loads = R at *
 have e1 : ∀ kd, kd < t.k -> (List.range t.p).map (fun p => (Ag t.k A p).getD kd 0) = (List.range t.p).map fun p => kindS A p kd := fun kd hk => List.map_congr_left fun p _ => Rw hk
 have := Qs (S := S) (f := fun p => Ag t.k A p) (P := t.p) (k := t.k) t1 t2 (by omega) (fun p _ => by simp [Ag]) (fun kd hk => by
  rw [e1 kd hk]
  refine ZE (B := 30 * (B * N)) bA.g0 bA.gK (by have := bA.hK; omega) (fun r hr => ?_) ?_
  ·obtain ⟨p, _, rfl⟩ := List.mem_map.mp hr
   exact bA.kind
  ·have l1 : ((List.range t.p).map fun p => kindS A p kd).length ≤ 4 := by simpa using t2
   have := Nat.mul_le_mul_right (30 * (B * N)) l1
   have := bA.hb
   omega)
 rw [this]
 unfold Ji
 rw [List.map_map]
 congr 3
 refine List.map_congr_left fun kd hk => ?_
 show aD ((List.range t.p).map fun p => (Ag t.k A p).getD kd 0).sum = _
 rw [e1 kd (by simpa using hk), tot]
theorem UG (h : A9 t ls ds) (ho : Pu ls) : C9 [.lst ((List.range t.p).map fun p => shD (Fo (Ag t.k (runs t (st0 t ls) ds).loads p) (Ag t.k (runs t (st0 t ls) (alone ds)).loads p)))] S = some (.lst (List.replicate t.k (.tup [.int 0, .int 1])), S) := by
 obtain ⟨t1, t2, t3, t4, t5, t6⟩ := h.tr
 obtain ⟨G, B, N, K, bR, bA⟩ := h.jointF
 have oA := h.alone.onesF ho
 have oR := h.onesF ho
 have wA := h.alone.fin.own
 have wR := h.fin.own
 have kn' := (GQ Sim.refl h.good (t := t)).2.kn
 have tot : ∀ kd, ((List.range t.p).map fun p => kindS (runs t (st0 t ls) ds).loads p kd - kindS (runs t (st0 t ls) (alone ds)).loads p kd).sum = 0 := fun kd => by
  have e : (fun p => kindS (runs t (st0 t ls) ds).loads p kd - kindS (runs t (st0 t ls) (alone ds)).loads p kd) = fun p => kindS (runs t (st0 t ls) ds).loads p kd + (-1) * kindS (runs t (st0 t ls) (alone ds)).loads p kd := by
   funext p; grind
  rw [e, sum_add, P4, IC wR oR, IC wA oA, Qm kn']
  grind
 generalize (runs t (st0 t ls) (alone ds)).loads = A at *
 generalize (runs t (st0 t ls) ds).loads = R at *
 have e1 : ∀ kd, kd < t.k -> (List.range t.p).map (fun p => (Fo (Ag t.k R p) (Ag t.k A p)).getD kd 0) = (List.range t.p).map fun p => kindS R p kd - kindS A p kd := fun kd hk => List.map_congr_left fun p _ => RL hk
 have := Qs (S := S) (f := fun p => Fo (Ag t.k R p) (Ag t.k A p)) (P := t.p) (k := t.k) t1 t2 (by omega) (fun p _ => by simp [Ag, Fo]) (fun kd hk => by
  rw [e1 kd hk]
  refine ZC (B := 30 * (B * N)) bA.g0 bA.gK (by have := bA.hK; omega) (fun r hr => ?_) ?_
  ·obtain ⟨p, _, rfl⟩ := List.mem_map.mp hr
   exact bR.kind.subZ bA.kind
  ·have l1 : ((List.range t.p).map fun p => kindS R p kd - kindS A p kd).length ≤ 4 := by simpa using t2
   have := Nat.mul_le_mul_right (30 * (B * N)) l1
   have := bA.hb
   omega)
 rw [this, List.map_map]
 have er : List.replicate t.k (D.tup [.int 0, .int 1]) = (List.range t.k).map fun _ => D.tup [.int 0, .int 1] := by rw [List.map_const', List.length_range]
 rw [er]
 congr 3
 refine List.map_congr_left fun kd hk => ?_
 show aD ((List.range t.p).map fun p => (Fo (Ag t.k R p) (Ag t.k A p)).getD kd 0).sum = _
 rw [e1 kd (by simpa using hk), tot, Lg]
end
end Mi
end
noncomputable section
namespace Mi
open PySem PySem.Spec L2
@[simp] theorem cu : wIn true (.val (.str "bring")) (.val (.tup [.str "sell"])) = some (.val (.bl true)) := nr rfl
@[simp] theorem eJ : wIn true (.val (.str "pool")) (.val (.tup [.str "sell"])) = some (.val (.bl true)) := nr rfl
@[simp] theorem dW : wIn true (.val (.str "swap")) (.val (.tup [.str "sell"])) = some (.val (.bl true)) := nr rfl
@[simp] theorem bq : wIn true (.val (.str "trade")) (.val (.tup [.str "sell"])) = some (.val (.bl true)) := nr rfl
@[simp] theorem cc : wIn true (.val (.str "spoil")) (.val (.tup [.str "sell"])) = some (.val (.bl true)) := nr rfl
@[simp] theorem dR : wIn true (.val (.str "sell")) (.val (.tup [.str "sell"])) = some (.val (.bl false)) := nr rfl
section
variable {S : Sto} {t : Tr} {ls : List Ld} {ds : List AV} {p i q : Nat}
def Rg : Ex := (xIf (eOp (o2 wEq) [(eOp (o2 wIx) [(eV 3), (eC (.int 0))]), (eC (.str "throw"))]) (Cp (LJ Lb (eV 2) [(eOp (o2 Dq) [(DF [(eC (.str "spoil"))]), (eOp (Ju true true) [(eV 3), (eC (.int 1)), (eC (.int 3))])])])) (xIf (eOp (o2 (wIn true)) [(eOp (o2 wIx) [(eV 3), (eC (.int 0))]), (eV 1)]) (Cp (LJ Lb (eV 2) [(eV 3)])) EB))
theorem UQ {acc : List D} {d : AV} {a0 : Option D} (hq : S[q]? = some (.lst acc)) (hz : acc.length ≤ 50) : Rg [a0, some (.tup [.str "sell"]), some (.ref q), some d.d] S = some (.nx, [a0, some (.tup [.str "sell"]), some (.ref q), some d.d], S.set q (.lst (acc ++ (conv d).toList.map AV.d))) := by
  have cq := Aa hq
  have hz' : acc.length < sizeLine := Nat.lt_of_lt_of_le (show acc.length < 60 by omega) (AX (by decide))
  cases d with
  | thr l n ws =>
    have ct : Jv [D.str "throw", .int l, .int n, .tup (ws.map .int)] (some 1) (some 3) = [.int l, .int n] := nr rfl
    simp [Rg, AV.d, cq, hz', ct, conv]
  | sell a b x =>
    have : S.set q (.lst (acc ++ (conv (.sell a b x)).toList.map AV.d)) = S := by
      apply List.ext_getElem?
      intro i
      by_cases e : q = i
      · subst e
        rw [List.getElem?_set_self (Aw hq), hq]; simp [conv]
      · rw [List.getElem?_set_ne e]
    rw [this]
    simp [Rg, AV.d]
  | _ => simp [Rg, AV.d, cq, hz', conv]
theorem Py (h : A9 t ls ds) : ∃ S', D6 [Ac t ls ds, .tup [.str "sell"]] S = some (Ac t ls (alone ds), S') /\ Ci [] S S' := by
 have hl := h.len
 have hq : (S ++ [Cl.lst []])[S.length]? = some (.lst []) := List.getElem?_concat_length
 generalize hQ : S.length = q at *
 obtain ⟨E', S', ef, i, o, f1, f2, rfl, f3, f4⟩ := EN (gs := []) (t := tNm 3) (b := Rg)
  (I := fun rs E S' => ∃ (i : Nat) (o : Option D), rs = (ds.drop i).map AV.d /\ i ≤ ds.length /\ E = [some (Ac t ls ds), some (.tup [.str "sell"]), some (.ref q), o] /\ S'[q]? = some (.lst ((alone (ds.take i)).map AV.d)) /\ Ci [] S S')
  (fun _ _ _ _ => Al) (ds := ds.map AV.d) (E := [some (Ac t ls ds), some (.tup [.str "sell"]), some (.ref q), none]) (S := S ++ [Cl.lst []])
  ⟨0, none, by simp, Nat.zero_le _, rfl, hq, .app⟩ (by
   rintro dd rs E T ⟨i, o, i1, i2, rfl, i3, i4⟩
   have hlt : i < ds.length := by
    rcases Nat.lt_or_ge i ds.length with w | w
    ·exact w
    ·rw [List.drop_eq_nil_of_le w] at i1; cases i1
   rw [List.drop_eq_getElem_cons hlt, List.map_cons] at i1
   injection i1 with z1 z2
   subst z1 z2
   have la : (alone (ds.take i)).length ≤ 50 := Nat.le_trans (List.length_filterMap_le _ _) (by simp; omega)
   have e := UQ (S := T) (d := ds[i]) (a0 := some (Ac t ls ds)) i3 (by simpa using la)
   have en : (alone (ds.take i)).map AV.d ++ (conv ds[i]).toList.map AV.d = (alone (ds.take (i + 1))).map AV.d := by
    rw [List.take_succ, List.getElem?_eq_getElem hlt]
    show _ = (alone (ds.take i ++ [ds[i]])).map AV.d
    rw [Rf, List.map_append]
   rw [en] at e
   have lq := i4.len
   exact ⟨_, _, _, by simp, e, i + 1, _, rfl, hlt, rfl, List.getElem?_set_self (Aw i3), Ci.new (A := []) (B := [q]) i4 (.set (by simp)) (by intro n hn'; simp at hn'; omega)⟩)
 have hz : i = ds.length := by
  have := congrArg List.length f1
  simp at this
  omega
 subst hz
 rw [List.take_length] at f3
 have df := BH f3
 refine ⟨S', ?_, f4⟩
 have eb : Js = (Am (Bs 2 (K3 []))
  (Am (KG (FT (eOp (o2 wIx) [(eV 0), (eC (.int 2))])) (tNm 3) Rg)
  (BV (eOp (o2 Dq) [(eOp (Ju false true) [(eV 0), (eC (.int 2))]), (DF [(eOp (o1 Dm) [(eV 2)])])])))) := rfl
 have ct : Jv [t.d, .tup (ls.map Ld.d), .tup (ds.map AV.d)] none (some 2) = [t.d, .tup (ls.map Ld.d)] := nr rfl
 have z3 : 3 ≤ sizeLine := AX (by decide)
 unfold D6
 rw [eb]
 simp only [Ac] at ef ⊢
 generalize (alone ds).map AV.d = AD at *
 simp [hQ, ef, ct, df, z3]
theorem stC {L : List Ld} {k : Nat} (hk : k ≤ 20) : CJ [] (tNm 0) Bx (DF [(eV 0), (eC (.int 1))]) ((List.range k).map fun kd => D.int (Eh L kd)) [] [none] S = some (Ji k L, S) := by
 have e := Cr (gs := []) (t := tNm 0) (f := DF [(eV 0), (eC (.int 1))]) (C := []) (m := 1) (e := fun kd => D.int (Eh L kd)) (g := fun kd => aD (Eh L kd : Rat)) (S := S) Al (xs := List.range k) (acc := []) (os := [none]) rfl (Nat.le_trans (show _ ≤ 50 by simp; omega) (AX (by decide))) (by
  intro x hx os ho
  obtain ⟨o1, rfl⟩ : ∃ o1, os = [o1] := by
   match os, ho with
   | [a], _ => exact ⟨a, rfl⟩
  refine ⟨[some (.int (Eh L x))], rfl, by simp, ?_⟩
  rw [Tv]
  simp)
 exact e
theorem ff {F : Fn} {g : Nat -> D} {b : D} (hp : t.p ≤ 4) (hF : ∀ p, p < t.p -> ∀ T, ∃ T', F [b, .int p] T = some (g p, T') /\ Ci [] T T') : ∃ S', CJ [] (tNm 1) Bx (AK F [(eV 0), (eV 1)]) (GA 0 t.p) [] [some b, none] S = some ((List.range t.p).map g, S') /\ Ci [] S S' := by
 obtain ⟨S2, e2, s2⟩ := Lr (gs := []) (t := tNm 1) (f := AK F [(eV 0), (eV 1)]) (C := [some b]) (m := 1) (e := fun p : Nat => D.int p) (g := g) (S0 := S) (fun _ _ => Al) (xs := List.range t.p) (acc := []) (os := [none]) (S := S) rfl .refl (Nat.le_trans (show _ ≤ 50 by simp; omega) (AX (by decide))) (by
  intro p hp os T ho' hT
  obtain ⟨o1, rfl⟩ : ∃ o1, os = [o1] := by
   match os, ho' with
   | [a], _ => exact ⟨a, rfl⟩
  obtain ⟨T2, e3, s3⟩ := hF p (by simpa using hp) T
  exact ⟨[some (.int p)], T2, rfl, by simp, by simp [e3], hT.trans s3⟩)
 rw [← N1] at e2
 simp only [List.nil_append, List.cons_append, Int.toNat_natCast] at e2
 exact ⟨S2, e2, s2⟩
def XZ : Ex := (Am (Bs 7 (CZ [] 1 (FT (AK EV [(eV 6), (eOp (o1 Jm) [(eOp (o2 wIx) [(eV 6), (eC (.int 2))])])])) (tNm 0) Bx (DF [(eV 0), (eC (.int 1))])))
  (Am (xIf (eOp (o2 wNe) [(AK C9 [(CZ [6] 1 (FT (eV 5)) (tNm 1) Bx (AK Bc [(eV 0), (eV 1)]))]), (eV 7)]) (BV (eC (.bl false))) EB)
  (Am (Bs 8 (AK C9 [(CZ [6] 1 (FT (eV 5)) (tNm 1) Bx (AK CD [(eV 0), (eV 1)]))]))
  (xIf (eOp (o2 wNe) [(eV 8), (eOp (o2 B8) [(JF [(DF [(eC (.int 0)), (eC (.int 1))])]), (eOp (o2 wIx) [(eOp (o2 wIx) [(eV 3), (eC (.int 0))]), (eC (.int 1))])])]) (BV (eC (.bl false))) EB))))
theorem UX {α : Type} {xs : List α} {f : α -> Rat} : Dd (.lst (xs.map fun x => aD (f x))) (.lst (xs.map fun x => aD (f x))) = true /\ deq (.lst (xs.map fun x => aD (f x))) (.lst (xs.map fun x => aD (f x))) = true :=
 ⟨PJ (Gk fun _ _ => SQ) (Nat.le_trans (eW (n := 2) (by
  intro d hd
  obtain ⟨r, _, rfl⟩ := List.mem_map.mp hd
  exact fq)) (by decide)), QV (Gk fun _ _ => SQ)⟩
theorem Qq {k : Nat} : List.replicate k (D.tup [.int 0, .int 1]) = (List.range k).map fun _ => aD 0 := by
 rw [List.map_const', List.length_range, Lg]
theorem Xj (h : A9 t ls ds) (ho : Pu ls) {x y : D} {a0 a1 a2 a4 o7 o8 a9 a10 a11 : Option D} : ∃ u7 u8 S', XZ [a0, a1, a2, some (.tup [t.d, x, y]), a4, some (.lst (GA 0 t.p)), some (Ac t ls ds), o7, o8, a9, a10, a11] S = some (.nx, [a0, a1, a2, some (.tup [t.d, x, y]), a4, some (.lst (GA 0 t.p)), some (Ac t ls ds), u7, u8, a9, a10, a11], S') := by
 obtain ⟨t1, t2, t3, t4, t5, t6⟩ := id h.tr
 have sb := Wm (S := S) h (n := ds.length) (Nat.le_refl _)
 rw [List.take_length] at sb
 have sc := stC (S := S) (L := (runs t (st0 t ls) ds).loads) (k := t.k) (by omega)
 obtain ⟨S1, e1, s1⟩ := ff (S := S) (t := t) (F := Bc) (b := Ac t ls ds) t2 (fun p hp T => Gm (S := T) h hp)
 have m1 := Rb (S := S1) h ho
 obtain ⟨S2, e2, s2⟩ := ff (S := S1) (t := t) (F := CD) (b := Ac t ls ds) t2 (fun p hp T => Kz (S := T) h hp)
 have m2 := UG (S := S2) h ho
 have k1 := UX (xs := List.range t.k) (f := fun kd => (Eh (runs t (st0 t ls) ds).loads kd : Rat))
 have k2 := UX (xs := List.range t.k) (f := fun _ => 0)
 rw [← Qq] at k2
 have mz : B8 (.val (.lst [.tup [.int 0, .int 1]])) (.val (.int (t.k : Int))) = some (.own (List.replicate t.k (.tup [.int 0, .int 1]))) := by
  have hs : t.k ≤ sizeLine := AX (by omega)
  rw [LB, if_pos (by simp [hs]; omega)]
  simp
 refine ⟨some (.lst (Ji t.k (runs t (st0 t ls) ds).loads)), some (.lst (List.replicate t.k (.tup [.int 0, .int 1]))), S2, ?_⟩
 have as1 : asS (.val t.d) = some [.int t.p, .int t.k, .int t.b, shD t.ho, .int t.h, .int t.l] := rfl
 have dt : ∀ T, dr T t.d = .val t.d := fun _ => rfl
 have nd : (ds.map AV.d).length = ds.length := by simp
 have k1' : Dd (.lst (Ji t.k (runs t (st0 t ls) ds).loads)) (.lst (Ji t.k (runs t (st0 t ls) ds).loads)) = true /\ deq (.lst (Ji t.k (runs t (st0 t ls) ds).loads)) (.lst (Ji t.k (runs t (st0 t ls) ds).loads)) = true := k1
 simp only [Ac] at sb e1 e2 ⊢
 generalize (List.range t.k).map (fun kd => D.int (Eh (runs t (st0 t ls) ds).loads kd)) = SI at *
 generalize Ji t.k (runs t (st0 t ls) ds).loads = SL at *
 generalize (List.range t.p).map (fun p => shD (Ag t.k (runs t (st0 t ls) (alone ds)).loads p)) = RA at *
 generalize (List.range t.p).map (fun p => shD (Fo (Ag t.k (runs t (st0 t ls) ds).loads p) (Ag t.k (runs t (st0 t ls) (alone ds)).loads p))) = RB at *
 generalize List.replicate t.k (D.tup [.int 0, .int 1]) = ZS at *
 generalize ds.map AV.d = DD at *
 generalize GA 0 t.p = RG at *
 simp [XZ, nd, sb, sc, Pr, e1, m1, k1'.1, k1'.2, e2, m2, as1, dt, -LB, mz, k2.1, k2.2]
end
end Mi
end
noncomputable section
namespace Mi
open PySem PySem.Spec L2
section
variable {S : Sto} {t : Tr} {ls : List Ld} {ds : List AV} {p i q : Nat}
theorem Nr {rs : List Rat} : Dd (.tup (rs.map aD)) (.tup (rs.map aD)) = true /\ deq (.tup (rs.map aD)) (.tup (rs.map aD)) = true := ⟨X4, ZW⟩
def Wq : Ex := (xIf (eOp (o2 wNe) [(AK Bc [(AK GW [(eV 3), (eV 11)]), (eV 9)]), (eV 10)]) (BV (eC (.bl false))) EB)
theorem UJ (h : A9 t ls ds) (hp : p < t.p) {is : List Nat} (his : ∀ i ∈ is, ∃ p q x, ds[i]? = some (.sell p q x)) {a0 a1 a2 a4 a5 a6 a7 a8 o11 : Option D} : ∃ u11 S', K4 [] (tNm 11) Wq (is.map fun (i : Nat) => D.int i) [a0, a1, a2, some (Ac t ls ds), a4, a5, a6, a7, a8, some (.int p), some (shD (Ag t.k (runs t (st0 t ls) (alone ds)).loads p)), o11] S = some (.nx, [a0, a1, a2, some (Ac t ls ds), a4, a5, a6, a7, a8, some (.int p), some (shD (Ag t.k (runs t (st0 t ls) (alone ds)).loads p)), u11], S') := by
 obtain ⟨E', S', ef, u11, _, rfl⟩ := EN (gs := []) (t := tNm 11) (b := Wq)
  (I := fun rs E S' => ∃ (u11 : Option D), (∀ d ∈ rs, ∃ i : Nat, d = .int i /\ ∃ p q x, ds[i]? = some (.sell p q x)) /\ E = [a0, a1, a2, some (Ac t ls ds), a4, a5, a6, a7, a8, some (.int p), some (shD (Ag t.k (runs t (st0 t ls) (alone ds)).loads p)), u11])
  (fun _ _ _ _ => Al) (ds := is.map fun (i : Nat) => D.int i) (E := [a0, a1, a2, some (Ac t ls ds), a4, a5, a6, a7, a8, some (.int p), some (shD (Ag t.k (runs t (st0 t ls) (alone ds)).loads p)), o11]) (S := S)
  ⟨o11, by
   intro d hd
   obtain ⟨i, hi, rfl⟩ := List.mem_map.mp hd
   exact ⟨i, rfl, his i hi⟩, rfl⟩ (by
   rintro dd rs E T ⟨u11, i1, rfl⟩
   obtain ⟨i, rfl, a, b, x, hx⟩ := i1 dd List.mem_cons_self
   have u := Tg (S := T) h hx
   obtain ⟨T2, e, s⟩ := Gm (S := T) (h.erase hx) hp
   rw [L8 (i := i) hx] at e
   have k := Nr (rs := Ag t.k (runs t (st0 t ls) (alone ds)).loads p)
   refine ⟨_, [a0, a1, a2, some (Ac t ls ds), a4, a5, a6, a7, a8, some (.int p), some (shD (Ag t.k (runs t (st0 t ls) (alone ds)).loads p)), some (.int i)], T2, by simp; rfl, ?_, some (.int i), fun d hd => i1 d (List.mem_cons_of_mem _ hd), rfl⟩
   simp only [shD] at e ⊢
   generalize (Ag t.k (runs t (st0 t ls) (alone ds)).loads p).map aD = V at *
   simp [Wq, u, e, k.1, k.2])
 exact ⟨u11, S', ef⟩
def Vo : Ex := (Am (Bs 10 (AK Bc [(eV 3), (eV 9)]))
  (Am (xIf (eOr (eOp (o2 wNe) [(AK Bc [(eV 4), (eV 9)]), (eV 10)]) (eOp (o2 wNe) [(AK Dz [(eV 4), (eOp (o1 Jm) [(eOp (o2 wIx) [(eV 4), (eC (.int 2))])]), (eV 9)]), (eV 10)])) (BV (eC (.bl false))) EB)
  (Am (xIf (eOp (o2 wNe) [(AK CD [(eV 4), (eV 9)]), (eOp (o2 B8) [(DF [(DF [(eC (.int 0)), (eC (.int 1))])]), (eOp (o2 wIx) [(eOp (o2 wIx) [(eV 3), (eC (.int 0))]), (eC (.int 1))])])]) (BV (eC (.bl false))) EB)
  (KG (FT (eOp (Ju false true) [(AK Ec [(eV 3), (eC (.str "sell"))]), (eC (.int 2))])) (tNm 11) Wq))))
theorem UN {rs : List Rat} : Fo rs rs = rs.map fun _ => 0 := by
  unfold Fo
  induction rs with
  | nil => rfl
  | cons r rs ih =>
    rw [List.zipWith_cons_cons, List.map_cons, ih]
    congr 1
    grind
theorem YK {xs : List D} : ∃ m, Jv xs none (some 2) = xs.take m := by
 unfold Jv
 exact ⟨_, by simp [HT.sIx]; rfl⟩
theorem YQ (h : A9 t ls ds) (hp : p < t.p) {a0 a1 a2 a5 a6 a7 a8 o10 o11 : Option D} : ∃ u10 u11 S', Vo [a0, a1, a2, some (Ac t ls ds), some (Ac t ls (alone ds)), a5, a6, a7, a8, some (.int p), o10, o11] S = some (.nx, [a0, a1, a2, some (Ac t ls ds), some (Ac t ls (alone ds)), a5, a6, a7, a8, some (.int p), u10, u11], S') := by
 obtain ⟨t1, t2, t3, t4, t5, t6⟩ := id h.tr
 have ha := h.alone
 obtain ⟨S1, e1, s1⟩ := Gm (S := S) h hp
 obtain ⟨S2, e2, s2⟩ := Gm (S := S1) ha hp
 rw [MS] at e2
 obtain ⟨S3, e3, s3⟩ := fH (S := S2) ha (n := (alone ds).length) (Nat.le_refl _) hp
 rw [List.take_length] at e3
 obtain ⟨S4, e4, s4⟩ := Kz (S := S3) ha hp
 rw [MS, UN] at e4
 obtain ⟨is, e5, his⟩ := US (S := S4) (t := t) (ls := ls) (ds := ds) (by have := h.len; omega)
 obtain ⟨m, cm⟩ := YK (xs := is.map fun (i : Nat) => D.int i)
 rw [← List.map_take] at cm
 obtain ⟨u11, S5, e6⟩ := UJ (S := S4) h hp (is := is.take m) (fun i hi => his i (List.mem_of_mem_take hi)) (a0 := a0) (a1 := a1) (a2 := a2) (a4 := some (Ac t ls (alone ds))) (a5 := a5) (a6 := a6) (a7 := a7) (a8 := a8) (o11 := o11)
 have k := Nr (rs := Ag t.k (runs t (st0 t ls) (alone ds)).loads p)
 have kz := Nr (rs := (Ag t.k (runs t (st0 t ls) (alone ds)).loads p).map fun _ => 0)
 have ez : ((Ag t.k (runs t (st0 t ls) (alone ds)).loads p).map fun _ => (0 : Rat)).map aD = List.replicate t.k (.tup [.int 0, .int 1]) := by
  unfold Ag
  rw [List.map_map, List.map_map, Qq]
  rfl
 have mz : B8 (.val (.tup [.tup [.int 0, .int 1]])) (.val (.int (t.k : Int))) = some (.val (.tup (List.replicate t.k (.tup [.int 0, .int 1])))) := by
  have hs : t.k ≤ sizeLine := AX (by omega)
  have h0 : ¬ (t.k : Int) ≤ 0 := by omega
  have h1 : (1 : Int) ≤ t.k := by omega
  rw [Qc, if_neg (by simp; omega), if_pos (by simp [hs]; omega)]
  simp
 refine ⟨some (shD (Ag t.k (runs t (st0 t ls) (alone ds)).loads p)), u11, S5, ?_⟩
 have as1 : asS (.val t.d) = some [.int t.p, .int t.k, .int t.b, shD t.ho, .int t.h, .int t.l] := rfl
 have dt : ∀ T, dr T t.d = .val t.d := fun _ => rfl
 have nd : ((alone ds).map AV.d).length = (alone ds).length := by simp
 simp only [Ac, shD] at e1 e2 e3 e4 e5 e6 as1 ⊢
 rw [ez] at e4 kz
 generalize (Ag t.k (runs t (st0 t ls) (alone ds)).loads p).map aD = V at *
 generalize List.replicate t.k (D.tup [.int 0, .int 1]) = ZS at *
 generalize (is.take m).map (fun (i : Nat) => D.int i) = I2 at *
 generalize is.map (fun (i : Nat) => D.int i) = I1 at *
 generalize (alone ds).map AV.d = AD at *
 generalize (alone ds).length = al at *
 simp [Vo, e1, e2, k.1, k.2, nd, e3, e4, as1, dt, -Qc, mz, kz.1, kz.2, e5, cm, e6]
def Qu : Ex := (Am (Bs 2 (AK Hw [(AK C5 [(eV 0), (eV 1)])]))
  (Am (Bs 3 (AK DC [(eV 2), (eC (.int 14)), (eC (.str "sell"))]))
  (Am (Bs 4 (AK D6 [(eV 3), (DF [(eC (.str "sell"))])]))
  (Am (Bs 5 (eLR (eOp (o2 wIx) [(eOp (o2 wIx) [(eV 3), (eC (.int 0))]), (eC (.int 0))])))
  (Am (KG (FT (DF [(eV 3), (eV 4)])) (tNm 6) XZ)
  (KG (FT (eV 5)) (tNm 9) Vo))))))
theorem Vc {ns : List Int} {k : Nat} {o2 o3 o4 o5 o6 o7 o8 o9 o10 o11 : Option D} : ∃ u2 u3 u4 u5 u6 u7 u8 u9 u10 u11 S', Qu [some (.scr ns), some (.int k), o2, o3, o4, o5, o6, o7, o8, o9, o10, o11] S = some (.nx, [some (.scr ns), some (.int k), u2, u3, u4, u5, u6, u7, u8, u9, u10, u11], S') := by
 obtain ⟨c, e0⟩ := YI (S := S) (ns := ns) (k := k)
 obtain ⟨p, S1, e1, hp, _, _⟩ := bJ (S := S) c
 obtain ⟨t, ls, ds, S2, e2, hb, ho⟩ := R4 hp
 obtain ⟨S3, e3, s3⟩ := Py (S := S2) hb
 obtain ⟨t1, t2, t3, t4, t5, t6⟩ := id hb.tr
 obtain ⟨v7, v8, S4, e4⟩ := Xj (S := S3) hb ho (x := .tup (ls.map Ld.d)) (y := .tup (ds.map AV.d)) (a0 := some (.scr ns)) (a1 := some (.int k)) (a2 := some (.ref p)) (a4 := some (Ac t ls (alone ds))) (o7 := o7) (o8 := o8) (a9 := o9) (a10 := o10) (a11 := o11)
 obtain ⟨w7, w8, S5, e5⟩ := Xj (S := S4) hb.alone ho (x := .tup (ls.map Ld.d)) (y := .tup (ds.map AV.d)) (a0 := some (.scr ns)) (a1 := some (.int k)) (a2 := some (.ref p)) (a4 := some (Ac t ls (alone ds))) (o7 := v7) (o8 := v8) (a9 := o9) (a10 := o10) (a11 := o11)
 have fl : K4 [] (tNm 6) XZ [Ac t ls ds, Ac t ls (alone ds)] [some (.scr ns), some (.int k), some (.ref p), some (Ac t ls ds), some (Ac t ls (alone ds)), some (.lst (GA 0 t.p)), o6, o7, o8, o9, o10, o11] S3 = some (.nx, [some (.scr ns), some (.int k), some (.ref p), some (Ac t ls ds), some (Ac t ls (alone ds)), some (.lst (GA 0 t.p)), some (Ac t ls (alone ds)), w7, w8, o9, o10, o11], S5) := by
  have e4' : XZ [some (.scr ns), some (.int k), some (.ref p), some (Ac t ls ds), some (Ac t ls (alone ds)), some (.lst (GA 0 t.p)), some (Ac t ls ds), o7, o8, o9, o10, o11] S3 = _ := e4
  have e5' : XZ [some (.scr ns), some (.int k), some (.ref p), some (Ac t ls ds), some (Ac t ls (alone ds)), some (.lst (GA 0 t.p)), some (Ac t ls (alone ds)), v7, v8, o9, o10, o11] S4 = _ := e5
  rw [C7 Al, QH, DM]
  show (XZ [some (.scr ns), some (.int k), some (.ref p), some (Ac t ls ds), some (Ac t ls (alone ds)), some (.lst (GA 0 t.p)), some (Ac t ls ds), o7, o8, o9, o10, o11] S3).bind _ = _
  rw [e4', DM, QR, C7 Al, QH, DM]
  show (XZ [some (.scr ns), some (.int k), some (.ref p), some (Ac t ls ds), some (Ac t ls (alone ds)), some (.lst (GA 0 t.p)), some (Ac t ls (alone ds)), v7, v8, o9, o10, o11] S4).bind _ = _
  rw [e5', DM, QR, IJ Al]
  rfl
 obtain ⟨E', S', ef, u9, u10, u11, _, rfl⟩ := EN (gs := []) (t := tNm 9) (b := Vo)
  (I := fun rs E S' => ∃ (u9 u10 u11 : Option D), (∀ d ∈ rs, ∃ i : Nat, d = .int i /\ i < t.p) /\ E = [some (.scr ns), some (.int k), some (.ref p), some (Ac t ls ds), some (Ac t ls (alone ds)), some (.lst (GA 0 t.p)), some (Ac t ls (alone ds)), w7, w8, u9, u10, u11])
  (fun _ _ _ _ => Al) (ds := GA 0 t.p) (E := [some (.scr ns), some (.int k), some (.ref p), some (Ac t ls ds), some (Ac t ls (alone ds)), some (.lst (GA 0 t.p)), some (Ac t ls (alone ds)), w7, w8, o9, o10, o11]) (S := S5)
  ⟨o9, o10, o11, by
   intro d hd
   have er : GA 0 t.p = (List.range t.p).map fun (i : Nat) => D.int i := by simp [GA]
   rw [er] at hd
   obtain ⟨i, hi, rfl⟩ := List.mem_map.mp hd
   exact ⟨i, rfl, by simpa using hi⟩, rfl⟩ (by
   rintro dd rs E T ⟨u9, u10, u11, i1, rfl⟩
   obtain ⟨i, rfl, hi⟩ := i1 dd List.mem_cons_self
   obtain ⟨x10, x11, T2, e⟩ := YQ (S := T) hb hi (a0 := some (.scr ns)) (a1 := some (.int k)) (a2 := some (.ref p)) (a5 := some (.lst (GA 0 t.p))) (a6 := some (Ac t ls (alone ds))) (a7 := w7) (a8 := w8) (o10 := u10) (o11 := u11)
   exact ⟨_, _, T2, by simp, e, some (.int i), x10, x11, fun d hd => i1 d (List.mem_cons_of_mem _ hd), rfl⟩)
 refine ⟨some (.ref p), some (Ac t ls ds), some (Ac t ls (alone ds)), some (.lst (GA 0 t.p)), some (Ac t ls (alone ds)), w7, w8, u9, u10, u11, S', ?_⟩
 have as1 : asS (.val t.d) = some [.int t.p, .int t.k, .int t.b, shD t.ho, .int t.h, .int t.l] := rfl
 have dt : ∀ T, dr T t.d = .val t.d := fun _ => rfl
 have pl : (t.p : Int) ≤ 1000 := by omega
 have ix : wIx (dr S3 (Ac t ls ds)) (.val (.int 0)) = some (.val t.d) := by simp [Ac]
 have dv : dr S3 (Ac t ls ds) = .val (Ac t ls ds) := rfl
 have asb : asS (.val (Ac t ls ds)) = some [t.d, .tup (ls.map Ld.d), .tup (ds.map AV.d)] := rfl
 generalize Ac t ls (alone ds) = BA at *
 generalize Ac t ls ds = BB at *
 simp [Qu, e0, e1, e2, e3, dv, asb, as1, dt, pl, fl, ef]
theorem bC (ns : List Int) (h : ns.length ≤ 63) : ∃ S', OF [.scr ns] S = some (.bl true, S') := by
 obtain ⟨n, hn, hn2⟩ : ∃ n : Nat, (if (if (3 : Int) < ns.length then (3 : Int) else ns.length) > 1 then (if (3 : Int) < ns.length then (3 : Int) else ns.length) else 1) = (n : Int) /\ n ≤ 3 := by
  refine ⟨(if (if (3 : Int) < ns.length then (3 : Int) else ns.length) > 1 then (if (3 : Int) < ns.length then (3 : Int) else ns.length) else 1).toNat, ?_, ?_⟩
  ·split <;> split <;> omega
  ·split <;> split <;> omega
 have rn : IW (n : Int) = true := DR (by omega) (by omega)
 obtain ⟨E', S', ef, q1, q2, q3, q4, q5, q6, q7, q8, q9, q10, q11, _, rfl⟩ := EN (gs := []) (t := tNm 1) (b := Qu)
  (I := fun rs E S' => ∃ (o1 o2 o3 o4 o5 o6 o7 o8 o9 o10 o11 : Option D), (∀ d ∈ rs, ∃ k : Nat, d = .int k) /\ E = [some (.scr ns), o1, o2, o3, o4, o5, o6, o7, o8, o9, o10, o11])
  (fun _ _ _ _ => Al) (ds := GA 0 n) (E := [some (.scr ns), none, none, none, none, none, none, none, none, none, none, none]) (S := S)
  ⟨none, none, none, none, none, none, none, none, none, none, none, by
   intro d hd
   obtain ⟨k, _, rfl⟩ := List.mem_map.mp hd
   exact ⟨k, by simp⟩, rfl⟩ (by
   rintro dd rs E T ⟨o1, o2, o3, o4, o5, o6, o7, o8, o9, o10, o11, i1, rfl⟩
   obtain ⟨k, rfl⟩ := i1 dd List.mem_cons_self
   obtain ⟨u2, u3, u4, u5, u6, u7, u8, u9, u10, u11, T2, e⟩ := Vc (S := T) (ns := ns) (k := k) (o2 := o2) (o3 := o3) (o4 := o4) (o5 := o5) (o6 := o6) (o7 := o7) (o8 := o8) (o9 := o9) (o10 := o10) (o11 := o11)
   exact ⟨_, _, T2, by simp, e, some (.int k), u2, u3, u4, u5, u6, u7, u8, u9, u10, u11, fun d hd => i1 d (List.mem_cons_of_mem _ hd), rfl⟩)
 refine ⟨S', ?_⟩
 have eb : UB = Am (KG (OZ [(eOp (o2 bh) [(eC (.int 1)), (eOp (o2 ZM) [(eOp (o1 Jm) [(eV 0)]), (eC (.int 3))])])]) (tNm 1) Qu) (BV (eC (.bl true))) := rfl
 unfold OF
 rw [eb]
 simp [hn, rn, ef]
end
open PyProof.Rows (boot_isinstance boot_int boot_bool boot_tuple boot_str boot_list boot_abs boot_all boot_any boot_sum boot_max boot_min boot_range boot_enumerate boot_zip boot_sorted boot_set boot_divmod)
structure All (w : World) (K : PySem.W.Frag) (mg : Str -> Option Value) : Prop where
 bt : Bts mg
 c_ALL : RP K mg "ALL" Tb
 c_MAKERS : RP K mg "MAKERS" Cf
 c_NOTHING : RP K mg "NOTHING" Dx
 s_p_is_whole : St.Src K mg "is_whole" s_p_is_whole
 s_p_is_from : St.Src K mg "is_from" s_p_is_from
 s_p_is_within : St.Src K mg "is_within" s_p_is_within
 s_p_greatest_divisor : St.Src K mg "greatest_divisor" s_p_greatest_divisor
 s_p_lowest : St.Src K mg "lowest" s_p_lowest
 s_p_plus : St.Src K mg "plus" s_p_plus
 s_p_less : St.Src K mg "less" s_p_less
 s_p_less_each : St.Src K mg "less_each" s_p_less_each
 s_p_times : St.Src K mg "times" s_p_times
 s_p_mixed : St.Src K mg "mixed" s_p_mixed
 s_p_is_partner : St.Src K mg "is_partner" s_p_is_partner
 s_p_has_pieces : St.Src K mg "has_pieces" s_p_has_pieces
 s_p_can_pool : St.Src K mg "can_pool" s_p_can_pool
 s_p_can_swap : St.Src K mg "can_swap" s_p_can_swap
 s_p_can_do : St.Src K mg "can_do" s_p_can_do
 s_p_held_without : St.Src K mg "held_without" s_p_held_without
 s_p_held_behind : St.Src K mg "held_behind" s_p_held_behind
 s_p_held_at_first : St.Src K mg "held_at_first" s_p_held_at_first
 s_p_held_by : St.Src K mg "held_by" s_p_held_by
 s_p_made_from : St.Src K mg "made_from" s_p_made_from
 s_p_first_wrong : St.Src K mg "first_wrong" s_p_first_wrong
 s_p_refuse_undone : St.Src K mg "refuse_undone" s_p_refuse_undone
 s_p_is_place : St.Src K mg "is_place" s_p_is_place
 s_p_is_place_of : St.Src K mg "is_place_of" s_p_is_place_of
 s_p_refuse_no_number : St.Src K mg "refuse_no_number" s_p_refuse_no_number
 s_p_refuse_no_partner : St.Src K mg "refuse_no_partner" s_p_refuse_no_partner
 s_p_all_to_one : St.Src K mg "all_to_one" s_p_all_to_one
 s_p_mixed_shares : St.Src K mg "mixed_shares" s_p_mixed_shares
 s_p_made_shares : St.Src K mg "made_shares" s_p_made_shares
 s_p_worth_of_all : St.Src K mg "worth_of_all" s_p_worth_of_all
 s_p_part_thrown : St.Src K mg "part_thrown" s_p_part_thrown
 s_p_thrown_shares : St.Src K mg "thrown_shares" s_p_thrown_shares
 s_p_sold_shares : St.Src K mg "sold_shares" s_p_sold_shares
 s_p_shares_behind : St.Src K mg "shares_behind" s_p_shares_behind
 s_p_owners_behind : St.Src K mg "owners_behind" s_p_owners_behind
 s_p_state_by : St.Src K mg "state_by" s_p_state_by
 s_p_sums_by_kinds : St.Src K mg "sums_by_kinds" s_p_sums_by_kinds
 s_p_theirs_told : St.Src K mg "theirs_told" s_p_theirs_told
 s_p_theirs_by : St.Src K mg "theirs_by" s_p_theirs_by
 s_p_alone_told : St.Src K mg "alone_told" s_p_alone_told
 s_p_alone_of : St.Src K mg "alone_of" s_p_alone_of
 s_p_by_others : St.Src K mg "by_others" s_p_by_others
 s_p_refuse_no_sale : St.Src K mg "refuse_no_sale" s_p_refuse_no_sale
 s_p_without_deed : St.Src K mg "without_deed" s_p_without_deed
 s_p_unsold : St.Src K mg "unsold" s_p_unsold
 s_p_stock_by : St.Src K mg "stock_by" s_p_stock_by
 s_law_pen : St.Src K mg "_law_pen" s_law_pen
 s_law_cell_at : St.Src K mg "_law_cell_at" s_law_cell_at
 s_law_draw : St.Src K mg "_law_draw" s_law_draw
 s_law_common : St.Src K mg "_law_common" s_law_common
 s_law_made : St.Src K mg "_law_made" s_law_made
 s_law_whole : St.Src K mg "_law_whole" s_law_whole
 s_law_train : St.Src K mg "_law_train" s_law_train
 s_law_pieces : St.Src K mg "_law_pieces" s_law_pieces
 s_law_first : St.Src K mg "_law_first" s_law_first
 s_law_begun : St.Src K mg "_law_begun" s_law_begun
 s_law_share : St.Src K mg "_law_share" s_law_share
 s_law_worths : St.Src K mg "_law_worths" s_law_worths
 s_law_deed : St.Src K mg "_law_deed" s_law_deed
 s_law_plus : St.Src K mg "_law_plus" s_law_plus
 s_law_times : St.Src K mg "_law_times" s_law_times
 s_law_pooled : St.Src K mg "_law_pooled" s_law_pooled
 s_law_cost : St.Src K mg "_law_cost" s_law_cost
 s_law_less : St.Src K mg "_law_less" s_law_less
 s_law_borne : St.Src K mg "_law_borne" s_law_borne
 s_law_sold : St.Src K mg "_law_sold" s_law_sold
 s_law_turn : St.Src K mg "_law_turn" s_law_turn
 s_law_do : St.Src K mg "_law_do" s_law_do
 s_law_book : St.Src K mg "_law_book" s_law_book
 s_law_book_of : St.Src K mg "_law_book_of" s_law_book_of
 s_law_without : St.Src K mg "_law_without" s_law_without
 s_law_sum : St.Src K mg "_law_sum" s_law_sum
 s_law_sums : St.Src K mg "_law_sums" s_law_sums
 s_law_places : St.Src K mg "_law_places" s_law_places
 s_p_law : St.Src K mg "law" s_p_law
section
variable {P : Program} {w : World} {K : PySem.W.Frag} {mg : Str -> Option Value} {base : Heap}
theorem Wn {f : Addr} {fd : FuncData} (F : Fun K "law" "law" s_p_law f fd) (B : Bts mg) (D0 : JK P w K mg base) (Cc : Kg P w K mg base) (C8 : Jg P w K mg base) (GN : Mu P w K mg base) (EX : KU P w K mg base) (HR : Ob P w K mg base) (D8 : Jd P w K mg base) (ED : JJ P w K mg base) (D7 : Jr P w K mg base) (FK : NG P w K mg base) (EZ : Kf P w K mg base) : PU P w K mg base CX0 11 f fd ["_law_script"] (spD K 1 OF) := by
 refine aU (k := 10) F DU rfl fun cdv A outer s H E hr => ?_
 have hu := AS hr
 exact (AG (EG PassesOwn.never rfl (E5 rfl B.range (AA (A7 (UT rfl) rfl B.max boot_max (AA AF (AA (A7 (O2 rfl) rfl B.min boot_min (AA (A7 CM rfl B.len boot_len (AA (AB 0) AE)) (AA AF AE))) AE))) AE)) (Aj 1 DU.nd) (AG (Ap 2 (AH HR (hr.mono (by decide)) rfl (AA (AH D8 (hr.mono (by decide)) rfl (AA (AB 0) (AA (AB 1) AE))) AE)) DU.nd)
    (AG (Ap 3 (AH ED (hr.mono (by decide)) rfl (AA (AB 2) (AA AF (AA BL AE)))) DU.nd)
    (AG (Ap 4 (AH D7 (hr.mono (by decide)) rfl (AA (AB 3) (AA (BJ (AA BL AE)) AE))) DU.nd)
    (AG (Ap 5 (eX rfl rfl B.list rfl B.range (AA (AL AZ (AL AZ (AB 3) AF) AF) AE)) DU.nd)
    (AG (EG PassesOwn.never rfl (CG (BJ (AA (AB 3) (AA (AB 4) AE)))) (Aj 6 DU.nd) (AG (Dg [] 1 ["_law_pieces_here"] rfl DU.nd rfl rfl Rv (CG (AH EX (hr.mono (by decide)) rfl (AA (AB 6) (AA (A7 CM rfl B.len boot_len (AA (AL AZ (AB 6) AF) AE)) AE)))) (fun s H fp => ⟨(Aj 0 Rj), B3, (BJ (AA (AB 0) (AA AF AE)))⟩))
    (AG (B9 (Ao (GY hu) (AH FK (hr.mono (by decide)) rfl (AA (B4 [6] 1 ["_law_one", "_law_partner"] rfl RU (CG (AB 5)) (fun s H fp => ⟨(Aj 1 R7), B3, (AH Cc (hr.mono (by decide)) rfl (AA (AB 0) (AA (AB 1) AE)))⟩)) AE)) (AB 7)) (AJ (AU QO)) Ay)
    (AG (Ap 8 (AH FK (hr.mono (by decide)) rfl (AA (B4 [6] 1 ["_law_one", "_law_partner"] rfl R5 (CG (AB 5)) (fun s H fp => ⟨(Aj 1 RX), B3, (AH C8 (hr.mono (by decide)) rfl (AA (AB 0) (AA (AB 1) AE)))⟩)) AE)) DU.nd)
    (AJ (B9 (Ao (GY hu) (AB 8) (Ah Au (B6 (AA (BJ (AA AF (AA AF AE))) AE)) (AL AZ (AL AZ (AB 3) AF) AF))) (AJ (AU QO)) Ay))))))
    (AJ (EG PassesOwn.never rfl (CG (AB 5)) (Aj 9 DU.nd) (AG (Ap 10 (AH Cc (hr.mono (by decide)) rfl (AA (AB 3) (AA (AB 9) AE))) DU.nd)
    (AG (B9 (DW.dt (YU (Ao (GY hu) (AH Cc (hr.mono (by decide)) rfl (AA (AB 4) (AA (AB 9) AE))) (AB 10)) (T8 (Ao (GY hu) (AH D0 (hr.mono (by decide)) rfl (AA (AB 4) (AA (A7 CM rfl B.len boot_len (AA (AL AZ (AB 4) AF) AE)) (AA (AB 9) AE)))) (AB 10))))) (AJ (AU QO)) Ay)
    (AG (B9 (Ao (GY hu) (AH C8 (hr.mono (by decide)) rfl (AA (AB 4) (AA (AB 9) AE))) (Ah Au (BJ (AA (BJ (AA AF (AA AF AE))) AE)) (AL AZ (AL AZ (AB 3) AF) AF))) (AJ (AU QO)) Ay)
    (AJ (EG PassesOwn.never rfl (CG (HW (AH EZ (hr.mono (by decide)) rfl (AA (AB 3) (AA BL AE))) AF)) (Aj 11 DU.nd) (AJ (B9 (Ao (GY hu) (AH Cc (hr.mono (by decide)) rfl (AA (AH GN (hr.mono (by decide)) rfl (AA (AB 3) (AA (AB 11) AE))) (AA (AB 9) AE))) (AB 10)) (AJ (AU QO)) Ay)))))))))))))))
    (AJ (AU QO)))
theorem aq {f : Addr} {fd : FuncData} (F : Fun K "law" "law" s_p_law f fd) (T : All w K mg) : PU P w K mg base CX0 11 f fd ["_law_script"] (spD K 1 OF) := by
 have B := T.bt
 have c_ALL := T.c_ALL
 have c_MAKERS := T.c_MAKERS
 have c_NOTHING := T.c_NOTHING
 have Eg := Eg (P := P) (w := w) (base := base) T.s_p_is_whole B
 have Fc := Fc (P := P) (w := w) (base := base) T.s_p_is_from Eg
 have BZ := BZ (P := P) (w := w) (base := base) T.s_p_is_within Fc
 have Bv := Bv (P := P) (w := w) (base := base) T.s_p_greatest_divisor B
 have BQ := BQ (P := P) (w := w) (base := base) T.s_p_lowest Bv
 have F1 := F1 (P := P) (w := w) (base := base) T.s_p_plus BQ
 have F3 := F3 (P := P) (w := w) (base := base) T.s_p_less BQ
 have EE := EE (P := P) (w := w) (base := base) T.s_p_less_each B F3
 have Eb := Eb (P := P) (w := w) (base := base) T.s_p_times BQ
 have HV := HV (P := P) (w := w) (base := base) T.s_p_mixed BQ
 have DJ := DJ (P := P) (w := w) (base := base) T.s_p_is_partner BZ
 have BD := BD (P := P) (w := w) (base := base) T.s_p_has_pieces B
 have Eo := Eo (P := P) (w := w) (base := base) T.s_p_can_pool BD
 have Dc := Dc (P := P) (w := w) (base := base) T.s_p_can_swap BD
 have Ga := Ga (P := P) (w := w) (base := base) T.s_p_can_do BD Eo Dc
 have Bb := Bb (P := P) (w := w) (base := base) T.s_p_held_without
 have Ar := Ar (P := P) (w := w) (base := base) T.s_p_held_behind Bb
 have Ak := Ak (P := P) (w := w) (base := base) T.s_p_held_at_first
 have FW := FW (P := P) (w := w) (base := base) T.s_p_held_by Ar Ak
 have Dv := Dv (P := P) (w := w) (base := base) T.s_p_made_from B
 have Cz := Cz (P := P) (w := w) (base := base) T.s_p_first_wrong B Ga Ar Ak
 have AY := AY (P := P) (w := w) (base := base) T.s_p_refuse_undone Cz
 have Ee := Ee (P := P) (w := w) (base := base) T.s_p_is_place B BZ
 have C1 := C1 (P := P) (w := w) (base := base) T.s_p_is_place_of Ee
 have A4 := A4 (P := P) (w := w) (base := base) T.s_p_refuse_no_number B BZ
 have Ai := Ai (P := P) (w := w) (base := base) T.s_p_refuse_no_partner DJ
 have Bz := Bz (P := P) (w := w) (base := base) T.s_p_all_to_one B c_ALL c_NOTHING
 have Ba := Ba (P := P) (w := w) (base := base) T.s_p_mixed_shares B HV
 have Bm := Bm (P := P) (w := w) (base := base) T.s_p_made_shares B Dv Ba
 have Ck := Ck (P := P) (w := w) (base := base) T.s_p_worth_of_all B
 have Cy := Cy (P := P) (w := w) (base := base) T.s_p_part_thrown BQ Ck
 have CT := CT (P := P) (w := w) (base := base) T.s_p_thrown_shares Ba Cy
 have Cu := Cu (P := P) (w := w) (base := base) T.s_p_sold_shares B F1 F3 Eb
 have BR := BR (P := P) (w := w) (base := base) T.s_p_shares_behind CT Cu
 have CW := CW (P := P) (w := w) (base := base) T.s_p_owners_behind c_MAKERS Bz Bm BR
 have Er := Er (P := P) (w := w) (base := base) T.s_p_state_by Ar Ak BR CW
 have BP := BP (P := P) (w := w) (base := base) T.s_p_sums_by_kinds B c_NOTHING F1 Eb
 have Bj := Bj (P := P) (w := w) (base := base) T.s_p_theirs_told B Er BP
 have D0 := D0 (P := P) (w := w) (base := base) T.s_p_theirs_by AY A4 Ai Bj
 have B0 := B0 (P := P) (w := w) (base := base) T.s_p_alone_told c_MAKERS Ar Ak Bz Bm BP
 have Cc := Cc (P := P) (w := w) (base := base) T.s_p_alone_of AY Ai B0
 have C8 := C8 (P := P) (w := w) (base := base) T.s_p_by_others B EE AY Ai Bj B0
 have CH := CH (P := P) (w := w) (base := base) T.s_p_refuse_no_sale C1
 have Cj := Cj (P := P) (w := w) (base := base) T.s_p_without_deed
 have GN := GN (P := P) (w := w) (base := base) T.s_p_unsold AY CH Cj
 have EX := EX (P := P) (w := w) (base := base) T.s_p_stock_by B FW AY A4
 have HR := HR (P := P) (w := w) (base := base) T.s_law_pen B
 have D8 := D8 (P := P) (w := w) (base := base) T.s_law_cell_at B
 have AN := AN (P := P) (w := w) (base := base) T.s_law_draw
 have Ef := Ef (P := P) (w := w) (base := base) T.s_law_common
 have A6 := A6 (P := P) (w := w) (base := base) T.s_law_made B Ef
 have Cw := Cw (P := P) (w := w) (base := base) T.s_law_whole B AN A6
 have Fj := Fj (P := P) (w := w) (base := base) T.s_law_train AN Cw
 have By := By (P := P) (w := w) (base := base) T.s_law_pieces AN
 have FU := FU (P := P) (w := w) (base := base) T.s_law_first B AN Cw By
 have Fq := Fq (P := P) (w := w) (base := base) T.s_law_begun B
 have FZ := FZ (P := P) (w := w) (base := base) T.s_law_share AN A6
 have Ea := Ea (P := P) (w := w) (base := base) T.s_law_worths B AN
 have GV := GV (P := P) (w := w) (base := base) T.s_law_deed B AN By FZ Ea
 have BN := BN (P := P) (w := w) (base := base) T.s_law_plus A6
 have BX := BX (P := P) (w := w) (base := base) T.s_law_times A6
 have Ed := Ed (P := P) (w := w) (base := base) T.s_law_pooled B A6 BN BX
 have GK := GK (P := P) (w := w) (base := base) T.s_law_cost B A6
 have Dh := Dh (P := P) (w := w) (base := base) T.s_law_less BN
 have EO := EO (P := P) (w := w) (base := base) T.s_law_borne B BN BX Dh
 have FR := FR (P := P) (w := w) (base := base) T.s_law_sold B BN BX Dh
 have GX := GX (P := P) (w := w) (base := base) T.s_law_turn GK EO FR
 have Jt := Jt (P := P) (w := w) (base := base) T.s_law_do B Ed GX
 have FQ := FQ (P := P) (w := w) (base := base) T.s_law_book B AN Fj FU Fq GV Jt
 have ED := ED (P := P) (w := w) (base := base) T.s_law_book_of B FQ
 have D7 := D7 (P := P) (w := w) (base := base) T.s_law_without B
 have Hq := Hq (P := P) (w := w) (base := base) T.s_law_sum BN
 have FK := FK (P := P) (w := w) (base := base) T.s_law_sums B Hq
 have EZ := EZ (P := P) (w := w) (base := base) T.s_law_places B
 exact Wn (P := P) (w := w) (base := base) F B D0 Cc C8 GN EX HR D8 ED D7 FK EZ
theorem Zb {l : PySem.W.OpenLaw} {fa : Addr} (hfa : mg "law" = some (.ref fa)) (T : All w K mg) :
  ∃ fd : FuncData, (∀ (s : Shared) (v : Value), BindsTo s fd ⟨[v], []⟩ [("_law_script", v)]) /\ ∀ base : Heap, K.In base -> base.Ns mainGlobals mg -> PU l.prog w K mg base CX0 11 fa fd ["_law_script"] (X9 K) := by
 obtain ⟨f, fd, F, hm⟩ := T.s_p_law.ex
 have e := hfa.symm.trans hm
 cases e
 refine ⟨fd, fun s v => ?_, fun base _ _ => ?_⟩
 ·obtain ⟨oc, od, kV, doc, pm, an, cdv, ct, osl, hfd, _⟩ := F.ex
  subst hfd
  exact .of_eq rfl
 ·exact ZY (aq (P := l.prog) (w := w) (base := base) F T) fun ns hl => bC ns hl
end
theorem walk {l : PySem.W.OpenLaw} {q : Program} {loose : List Str} {XP : (Str -> Option Value) -> Heap -> Prop} {YP : World -> Heap -> Prop} {d : DefRec} {K : Params -> PySem.W.Frag} (hn : l.most = some 63) (hdf : d.params.defaults = [])
  (hY : ∀ (w : World) (h : Heap), YP w h -> (K w.params).In h) (hd : d.name = "law")
  (F : ∀ (w : World) (mg : Str -> Option Value) (h : Heap), (K w.params).In h -> h.Ns mainGlobals mg -> All w (K w.params) mg) :
  PySem.W.WalkO q loose XP YP l.row.toRowW d [] (fun f vs => PySem.call f vs) :=
 L2.X1 (n := 63) (k := 11) (x := "_law_script") (CX := fun _ => CX0) (sp := fun w => X9 (K w.params)) hn (by decide) hdf ⟨rfl, by decide, by decide⟩ hY (fun w mg fa h KX G hmg => Zb (by rw [← hd]; exact hmg) (F w mg h KX G)) (fun _ _ a ns hl _ hS => ⟨a, ns, rfl, hS, hl, fun _ => rfl⟩) fun _ _ _ _ _ z => z
end Mi
end
section
namespace PySem.W.Fast
def tw6432516911067401558:=0
def tw3218355971971416090:=0
def tw563235459299348464:=0
def tw1587234469328783351:=0
def tw2064641228722699967:=0
def tw7434788209881864892:=0
def tw1953137196837207343:=0
def tw5092776179045837824:=0
def tw4950716880620137302:=0
def tw14096110523258826799:=0
def tw294383166066485336:=0
def tw11193808583371590996:=0
def tw1220729099563563893:=0
def tw7033592616160486567:=0
def tw10977045670925206275:=0
def tw4977890449974152127:=0
def tw4644662370231164935:=0
def tw12684401364467155206:=0
def tw9693326503404749451:=0
def tw200709267064667523:=0
def tw4483517564375208040:=0
def tw11106483202418736180:=0
def tw6901987023713937001:=0
def tw18146008971311000437:=0
def tw4153361154235479671:=0
def tw7412635543409877005:=0
def tw12499625550945009411:=0
def tw13760459395872836386:=0
def tw17177512430200631656:=0
def tw310699483311856138:=0
def tw10933953715414398794:=0
def tw208057683198323732:=0
def tw991039088841690802:=0
def tw16929973305231407199:=0
def tw17397137132159474091:=0
def tw12326432016312632929:=0
def tw12460333277122631185:=0
def tw9953538600587788480:=0
def tw15495960773590312296:=0
def tw18367133460495200085:=0
def tw6390484222450598269:=0
def tw1330150780703144614:=0
def tw14531234387896339445:=0
def tw12854895338606769169:=0
def tw9552904495059077317:=0
def tw189437562414880436:=0
def tw4986556658831123398:=0
def tw15386287841665899039:=0
def tw15663154656229377739:=0
def tw16403187854643608082:=0
def tw4984525302760101611:=0
def tw8419523049692176655:=0
def tw11250566752956353847:=0
def tw9026540980237034204:=0
def tw14600816664278680764:=0
def tw1519342719843074417:=0
def tw8149744001526300591:=0
def tw5298365470265634615:=0
def tw12409562078167235251:=0
def tw4402741950580154014:=0
def tw16032133191523379301:=0
def tw8226983992691728806:=0
def tw6481847668149246295:=0
def tw14039028935152253510:=0
def tw7222103619012638906:=0
def tw11675380735421876632:=0
def tw16212075821808150913:=0
def tw796859953462562069:=0
def tw10885329722717035209:=0
def tw6949212104068610557:=0
def tw7356154364070009980:=0
def tw4011066365674508462:=0
def tw13435225569752497674:=0
def tw3793142623213026612:=0
def tw5348031640958252060:=0
def tw151549376220566705:=0
def tw13560451636301897550:=0
def tw9789853744433332726:=0
def tw7819996102451117425:=0
def tw14598048721257150838:=0
def tw8020266370796601816:=0
def tw9868603451449250077:=0
def tw5157984553401471303:=0
def tw7688325653120780968:=0
def tw13262279009100717071:=0
def tw1854633462869726929:=0
def tw6131735764739477558:=0
def tw16245634052324704068:=0
def tw5394026528610131093:=0
def tw2447866464393603110:=0
def tw14229823993317752905:=0
def tw13541557630882572362:=0
def tw12854280190472597466:=0
def tw9782231704877219358:=0
def tw17318976607671440990:=0
def tw2837879457546874969:=0
def tw15057987614664287789:=0
def tw14238799914215927510:=0
def tw7876319109241592248:=0
def tw811849599349109688:=0
def tw6079148784910097696:=0
def tw3767597610499520154:=0
def tw2016234371613732520:=0
def tw17867773832619437650:=0
def tw759562930628831067:=0
def tw9238421835486705792:=0
def tw3757965744548513824:=0
def tw5644425284522186498:=0
def tw17253478335484515741:=0
def tw14790358434153423386:=0
def tw17048519424468228170:=0
def tw18163923309544001465:=0
def tw15840987022751427780:=0
def tw14232144994604366223:=0
def tw14602957048953148739:=0
def tw11921613445117593020:=0
def tw14622601517619427962:=0
def tw5294141197851223314:=0
def tw8275535468326852125:=0
def tw534005759889468544:=0
def tw10372110245472610294:=0
def tw15408792358521325612:=0
def tw15715540566320270036:=0
def tw17217752317009679002:=0
def tw1576677186430669781:=0
def tw518134786988646568:=0
def tw5848925298577143766:=0
def tw10227409560248837592:=0
def tw10606227186632613304:=0
def tw3292005819751080217:=0
def tw502759167040337839:=0
def tw5252755928632267537:=0
def tw13036942578758936153:=0
def tw18098352080025142827:=0
def tw1904708684672114948:=0
def tw16744368436496249406:=0
def tw11630498325578712199:=0
def tw13907725391550805369:=0
def tw15459950314840600131:=0
def tw17358817309988574297:=0
def tw11690760356499717151:=0
def tw2006870016667058663:=0
def tw18088570884225834796:=0
def tw10679361628267766186:=0
def tw1108291271166947287:=0
def tw7268102834893369658:=0
def tw1908460301005359005:=0
def tw16314195458033025496:=0
def tw15812633310017296579:=0
def tw3536911144190320407:=0
def tw3780772845467029524:=0
def tw3087948250057068338:=0
def tw1873068719352882384:=0
def tw325279904931959842:=0
def tw3632318960432293018:=0
def tw5294736811997010071:=0
def tw15459791445229988669:=0
def tw6243359301246945871:=0
def tw3263752645984936500:=0
def tw12443142048274183756:=0
def tw13699829636867675246:=0
def tw10851003242594272257:=0
def tw16691108163529314779:=0
def tw184570348746122419:=0
def tw3305348996665087316:=0
def tw11776816065931810340:=0
def tw11983851389664858248:=0
def tw10832385519495562596:=0
def tw7171910553711852650:=0
def tw1276574289639473247:=0
def tw13133779931958390428:=0
def tw3416506476178409219:=0
def tw13234912627344097455:=0
def tw16408151310739078806:=0
def tw10191986103776637571:=0
def tw17044515099453658311:=0
def tw9618358921993842337:=0
def tw6909784796406496548:=0
def tw20187730036465690:=0
def tw11860667586525967647:=0
def tw17431972854449361427:=0
def tw9799244092680674310:=0
def tw14141545190854825700:=0
def tw10989362524605318729:=0
def tw9115695243245843556:=0
def tw3331236908462691021:=0
def tw14290452286863849042:=0
def tw4778187524724682519:=0
def tw1649322922935142457:=0
def tw4121795473833416539:=0
def tw8302449385550460200:=0
def tw10476737285718811132:=0
def tw7885899593736562313:=0
def tw2471070139659820021:=0
def tw3131685328791345447:=0
def tw8312632157297782397:=0
def tw2638345768818084169:=0
def tw3603733103088945056:=0
def tw1696440755649853728:=0
def tw11354717743857814520:=0
def tw1547614322307300200:=0
def tw5532345505050689280:=0
def tw3311278355532104271:=0
def tw10084762574097951394:=0
def tw13901417405875618762:=0
def tw4400908441611123370:=0
def tw17634821068445202674:=0
def tw8482065678949215657:=0
def tw2132274175216233403:=0
def tw10545194804637820773:=0
end PySem.W.Fast
open PySem PySem.W PyProof.Rows
set_option maxRecDepth 100000 in
set_option maxHeartbeats 0 in
theorem PySem.Challenge.cw_sharetrail_k65_whole_alone_and_together_holds : PySem.Challenge.rw_sharetrail_k65_whole_alone_and_together.Holds := by
  w_on; o_law; k_head; (case hw => w_witness2)
  k_fill
  refine Mi.walk (l := PySem.Challenge.rw_sharetrail_k65_whole_alone_and_together) rfl rfl (fun w h Y => PySem.W.kIn_of Y) rfl ?F
  case F =>
    intro w mg h KX G
    have c_ALL : Mi.RP (L2.KOf KX) mg "ALL" Mi.Tb := by
      dsimp only [L2.KOf]
      refine' Mi.Ug KX G ?e ?r
      (case e => k_is)
      case r =>
        refine' Mi.QD ?l ?z ?r
        (case l => k_is)
        (case z => decide)
        case r =>
          refine' Paired.cons ?_ ?_
          · exact Mi.OK
          refine' Paired.cons ?_ ?_
          · exact Mi.OK
          exact Paired.nil
    have c_MAKERS : Mi.RP (L2.KOf KX) mg "MAKERS" Mi.Cf := by
      dsimp only [L2.KOf]
      refine' Mi.Ug KX G ?e ?r
      (case e => k_is)
      case r =>
        refine' Mi.QD ?l ?z ?r
        (case l => k_is)
        (case z => decide)
        case r =>
          refine' Paired.cons ?_ ?_
          · exact Mi.OP
          refine' Paired.cons ?_ ?_
          · exact Mi.OP
          refine' Paired.cons ?_ ?_
          · exact Mi.OP
          refine' Paired.cons ?_ ?_
          · exact Mi.OP
          exact Paired.nil
    have c_NOTHING : Mi.RP (L2.KOf KX) mg "NOTHING" Mi.Dx := by
      dsimp only [L2.KOf]
      refine' Mi.Ug KX G ?e ?r
      (case e => k_is)
      case r =>
        refine' Mi.QD ?l ?z ?r
        (case l => k_is)
        (case z => decide)
        case r =>
          refine' Paired.cons ?_ ?_
          · exact Mi.OK
          refine' Paired.cons ?_ ?_
          · exact Mi.OK
          exact Paired.nil
    have z_abs : mg "abs" = none := by
      refine' PySem.W.mg_none_of KX G ?z
      (case z => k_is)
    have z_bool : mg "bool" = none := by
      refine' PySem.W.mg_none_of KX G ?z
      (case z => k_is)
    have z_enumerate : mg "enumerate" = none := by
      refine' PySem.W.mg_none_of KX G ?z
      (case z => k_is)
    have z_int : mg "int" = none := by
      refine' PySem.W.mg_none_of KX G ?z
      (case z => k_is)
    have z_isinstance : mg "isinstance" = none := by
      refine' PySem.W.mg_none_of KX G ?z
      (case z => k_is)
    have z_len : mg "len" = none := by
      refine' PySem.W.mg_none_of KX G ?z
      (case z => k_is)
    have z_list : mg "list" = none := by
      refine' PySem.W.mg_none_of KX G ?z
      (case z => k_is)
    have z_max : mg "max" = none := by
      refine' PySem.W.mg_none_of KX G ?z
      (case z => k_is)
    have z_min : mg "min" = none := by
      refine' PySem.W.mg_none_of KX G ?z
      (case z => k_is)
    have z_range : mg "range" = none := by
      refine' PySem.W.mg_none_of KX G ?z
      (case z => k_is)
    have z_sorted : mg "sorted" = none := by
      refine' PySem.W.mg_none_of KX G ?z
      (case z => k_is)
    have z_sum : mg "sum" = none := by
      refine' PySem.W.mg_none_of KX G ?z
      (case z => k_is)
    have z_tuple : mg "tuple" = none := by
      refine' PySem.W.mg_none_of KX G ?z
      (case z => k_is)
    have z_zip : mg "zip" = none := by
      refine' PySem.W.mg_none_of KX G ?z
      (case z => k_is)
    refine ⟨⟨z_abs, z_bool, z_enumerate, z_int, z_isinstance, z_len, z_list, z_max, z_min, z_range, z_sorted, z_sum, z_tuple, z_zip⟩, c_ALL, c_MAKERS, c_NOTHING, ?_, ?_, ?_, ?_, ?_, ?_, ?_, ?_, ?_, ?_, ?_, ?_, ?_, ?_, ?_, ?_, ?_, ?_, ?_, ?_, ?_, ?_, ?_, ?_, ?_, ?_, ?_, ?_, ?_, ?_, ?_, ?_, ?_, ?_, ?_, ?_, ?_, ?_, ?_, ?_, ?_, ?_, ?_, ?_, ?_, ?_, ?_, ?_, ?_, ?_, ?_, ?_, ?_, ?_, ?_, ?_, ?_, ?_, ?_, ?_, ?_, ?_, ?_, ?_, ?_, ?_, ?_, ?_, ?_, ?_, ?_, ?_, ?_, ?_, ?_⟩
    all_goals (refine' Mi.Z3 KX G ?a ?l ?c ?k; (case a => k_is); (case l => k_is); (case c => k_is); (case k => k_is))
end
