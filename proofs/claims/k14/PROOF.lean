import PyProof.Rows.All
import Wide.All
import OpenK.AllK
import Wide.FinOn
import Lean
import PyProof.EqAt
import PyProof.EqKinds
import PyProof.TupleCall
import KE.KUnpack
import PyProof.NeKinds
import PyProof.EnumFor
import PyProof.EnumStmt
import PySem.Challenge.RW_cleanrows_k14_disks_written
set_option Elab.async false
set_option linter.all false
set_option maxRecDepth 100000
/-! THE HAND LAYER, for ints, bools, texts, own classes, LISTS and tuples (index, slices, in, append, pop ..), calls, loops. Paste it whole ahead of your own text; what your proof does not reach may be deleted. -/
namespace L2
open PySem PySem.Spec PyProof.Rows

/-- a key: an int or a str -/
abbrev Key := Sum Int Str
def keyIs : Key → Value → Bool
  | .inl k, v => Value.isInt k v
  | .inr x, v => Value.isStrOf x v
def keyH (w : World) : Key → Int
  | .inl k => hashInt k
  | .inr x => hashStr w x
theorem keyIs_shape : ∀ {k : Key} {v : Value}, keyIs k v = true → (∃ i t, k = Sum.inl i ∧ v = Value.int i t) ∨ (∃ x t, k = Sum.inr x ∧ v = Value.str x t)
  | .inl i, v, h => by
    obtain ⟨t, e⟩ := Value.isInt_shape (k := i) (v := v) h
    exact .inl ⟨i, t, rfl, e⟩
  | .inr x, v, h => by
    obtain ⟨t, e⟩ := Value.isStrOf_shape (x := x) (v := v) h
    exact .inr ⟨x, t, rfl, e⟩
theorem key_ll (a b : Int) : decide ((Sum.inl a : Key) = Sum.inl b) = (a == b) := by
  by_cases e : a = b
  · subst e; simp
  · have h : ¬ (Sum.inl a : Key) = Sum.inl b := fun q => e (Sum.inl.inj q)
    rw [decide_eq_false h]
    exact (beq_eq_false_iff_ne.mpr e).symm
theorem key_rr (a b : Str) : decide ((Sum.inr a : Key) = Sum.inr b) = decide (a = b) := by
  by_cases e : a = b
  · subst e; simp
  · have h : ¬ (Sum.inr a : Key) = Sum.inr b := fun q => e (Sum.inr.inj q)
    rw [decide_eq_false h, decide_eq_false e]
theorem key_lr (a : Int) (b : Str) : decide ((Sum.inl a : Key) = Sum.inr b) = false := decide_eq_false (fun q => nomatch q)
theorem key_rl (a : Str) (b : Int) : decide ((Sum.inr a : Key) = Sum.inl b) = false := decide_eq_false (fun q => nomatch q)

def mixKind (prog : Program) (w : World) : PySem.KeyKind prog w Key where
  is := keyIs
  hash := keyH w
  inj := fun v a b ha hb => by
    rcases keyIs_shape ha with ⟨i, t, rfl, rfl⟩ | ⟨x, t, rfl, rfl⟩
    · rcases keyIs_shape hb with ⟨j, u, rfl, e⟩ | ⟨y, u, rfl, e⟩
      · injection e with e1 _; rw [e1]
      · exact nomatch e
    · rcases keyIs_shape hb with ⟨j, u, rfl, e⟩ | ⟨y, u, rfl, e⟩
      · exact nomatch e
      · injection e with e1 _; rw [e1]
  byValue := fun k v h => by
    rcases keyIs_shape h with ⟨i, t, rfl, rfl⟩ | ⟨x, t, rfl, rfl⟩ <;> rfl
  pyHash := fun hv h => by
    rcases keyIs_shape hv with ⟨i, t, rfl, rfl⟩ | ⟨x, t, rfl, rfl⟩
    · exact wpAny_pyHash_int h
    · exact wpAny_pyHash_str h
  eqBool := fun hu hv h => by
    rcases keyIs_shape hu with ⟨i, t, rfl, rfl⟩ | ⟨x, t, rfl, rfl⟩
    · rcases keyIs_shape hv with ⟨j, u, rfl, rfl⟩ | ⟨y, u, rfl, rfl⟩
      · rw [key_ll] at h; exact wpAny_eqBool_int h
      · rw [key_lr] at h; exact SeqAt.EqAt.int_str i t y u _ _ _ _ h
    · rcases keyIs_shape hv with ⟨j, u, rfl, rfl⟩ | ⟨y, u, rfl, rfl⟩
      · rw [key_rl] at h; exact SeqAt.EqAt.str_int x t j u _ _ _ _ h
      · rw [key_rr] at h; exact wpAny_eqBool_str h
  «strs» := fun k x t v h => by
    rcases keyIs_shape h with ⟨i, u, rfl, e⟩ | ⟨y, u, rfl, e⟩
    · exact nomatch e
    · injection e with e1 _
      subst e1
      cases v <;> rfl

end L2

namespace L2
open PySem PySem.Spec PyProof.Rows

/-- a value, without the heap -/
inductive V where
  | non | bl (b : Bool) | int (i : Int) | str (x : Str) | byt (b : Array UInt8) | flt (b : UInt64) | ref (a : Addr) | ty (n : String)
  deriving DecidableEq

def RelV : V → Value → Prop
  | .non, u => u = Value.none
  | .bl b, u => u = Value.bool b
  | .int i, u => ∃ t, u = Value.int i t
  | .str x, u => ∃ t, u = Value.str x t
  | .byt b, u => ∃ t, u = Value.bytes b t
  | .flt b, u => ∃ t, u = Value.float b t
  | .ref a, u => u = Value.ref a
  | .ty n, u => u = Value.type n

abbrev Vals : List V → List Value → Prop := Paired RelV
theorem Vals.length {xs : List V} {us : List Value} (r : Vals xs us) : xs.length = us.length := Paired.length r
theorem Vals.get : ∀ {xs : List V} {us : List Value} {i : Nat} {x : V}, Vals xs us → xs[i]? = some x → ∃ u, us[i]? = some u ∧ RelV x u
  | _, _, _, _, .nil, e => by simp at e
  | _, _, 0, _, .cons r _, e => by simp at e; subst e; exact ⟨_, rfl, r⟩
  | _, _, i + 1, x, .cons _ t, e => by
    obtain ⟨u, h1, h2⟩ := Vals.get (i := i) (x := x) t (by simpa using e)
    exact ⟨u, by simpa using h1, h2⟩
theorem Vals.set {x : V} {u : Value} (r : RelV x u) : ∀ {xs : List V} {us : List Value} (i : Nat), Vals xs us → Vals (xs.set i x) (us.set i u)
  | _, _, _, .nil => .nil
  | _, _, 0, .cons _ t => .cons r t
  | _, _, i + 1, .cons q t => .cons q (Vals.set r i t)
theorem Vals.append : ∀ {xs ys : List V} {us ws : List Value}, Vals xs us → Vals ys ws → Vals (xs ++ ys) (us ++ ws)
  | _, _, _, _, .nil, s => s
  | _, _, _, _, .cons r t, s => .cons r (Vals.append t s)
theorem Vals.take : ∀ {xs : List V} {us : List Value} (n : Nat), Vals xs us → Vals (xs.take n) (us.take n)
  | _, _, 0, _ => .nil
  | _, _, _ + 1, .nil => .nil
  | _, _, n + 1, .cons r t => .cons r (Vals.take n t)
theorem Vals.drop : ∀ {xs : List V} {us : List Value} (n : Nat), Vals xs us → Vals (xs.drop n) (us.drop n)
  | _, _, 0, r => r
  | _, _, _ + 1, .nil => .nil
  | _, _, n + 1, .cons _ t => Vals.drop n t
theorem Vals.none_of : ∀ {xs : List V} {us : List Value} {i : Nat}, Vals xs us → xs[i]? = none → us[i]? = none := fun {xs us i} r e => by
  have h1 := r.length
  have h2 : xs.length ≤ i := List.getElem?_eq_none_iff.mp e
  exact List.getElem?_eq_none_iff.mpr (by omega)

def RelO : Option V → Option Value → Prop
  | some v, some u => RelV v u
  | none, none => True
  | _, _ => False
def KV {κ : Type} : List (κ × V) → List (κ × Value) → Prop := Paired fun (p : κ × V) (q : κ × Value) => p.1 = q.1 ∧ RelV p.2 q.2

/-- a key of a dict (00_mix): an int or a text -/
def kV : Key → V
  | .inl i => .int i
  | .inr x => .str x

/-- what stands at a tracked address -/
inductive HO where
  /-- a list -/
  | lst (xs : List V)
  /-- a tuple (never changes) -/
  | tup (xs : List V)
  /-- a dict whose keys are ints and texts; one whose keys are tuples of ints and texts (the empty one is both) -/
  | dK (kvs : List (Key × V)) | dT (kvs : List (List Key × V))
  /-- a set of ints: its members, its size -/
  | set (S : Int → Bool) (n : Nat)
  /-- an instance of the class at C, its dict at dx, its attributes -/
  | ins (C dx : Addr) (fs : List (Str × V))
  /-- the dict of the instance at x -/
  | own (x : Addr)
  /-- the dict of an exception -/
  | xd (fs : List (Str × V))
  /-- a bound method, f of x -/
  | met (f x : Addr)
  /-- a range object lo, lo + 1, .. below hi -/
  | rng (lo hi : Int)
  /-- a thing that is known to the object (the script; a dict while a loop walks it): read, never written while it is so -/
  | frz (o : Obj) (u : HO)
  /-- a code object's table -/
  | tbl (ps : Array Value)
  /-- any other thing, by what is true of its one object (a def of one's own: SetO a S n := HO.ext fun h => ..) -/
  | ext (φ : Heap → Prop)

abbrev Hp := Addr → Option HO
def upd (H : Hp) (a : Addr) (o : HO) : Hp := fun b => if b = a then some o else H b
theorem upd_same {H : Hp} {a : Addr} {o : HO} : upd H a o a = some o := by unfold upd; rw [if_pos rfl]
theorem upd_ne {H : Hp} {a b : Addr} {o : HO} (h : b ≠ a) : upd H a o b = H b := by unfold upd; rw [if_neg h]
theorem upd_upd {H : Hp} {a : Addr} {o u : HO} : upd (upd H a o) a u = upd H a u := by
  funext b; unfold upd; split <;> rfl
theorem ne_of_none {H : Hp} {a b : Addr} {o : HO} (h : H a = some o) (h' : H b = none) : a ≠ b := by
  intro e; subst e; rw [h] at h'; cases h'

section
variable (P : Program) (w : World)
def ObjOk (H : Hp) (h : Heap) (a : Addr) : HO → Prop
  | .lst xs => xs.length ≤ sizeLine ∧ ∃ (its : List Value) (n : Nat), Vals xs its ∧ h.get? a = some { cls := .type "list", data := .seq its.toArray n }
  | .tup xs => xs.length ≤ sizeLine ∧ ∃ its : List Value, Vals xs its ∧ IsTup h a its.toArray
  | .dK kvs => kvs.length ≤ sizeLine ∧ (a == sysModules) = false ∧ ∃ vs, KV kvs vs ∧ h.DictOf (mixKind P w) a vs
  | .dT kvs => kvs.length ≤ sizeLine ∧ (a == sysModules) = false ∧ ∃ xs : List (List Key × Addr × Value),
      Paired (fun (p : List Key × V) (q : List Key × Addr × Value) => p.1 = q.1 ∧ H q.2.1 = some (.tup (p.1.map kV)) ∧ RelV p.2 q.2.2) kvs xs ∧
      ∃ o es ep, h.get? a = some o ∧ o.ExactDict ∧ o.data = .dict es ep ∧ es.toList = xs.map (entryOfKey (tupleKind (mixKind P w))) ∧ (xs.map (·.1)).Nodup
  | .set S n => h.SetOf (intKind P w) a S n
  | .ins C dx fs => H dx = some (.own a) ∧ fs.length ≤ 1000 ∧ dx ≠ a ∧ h.get? a = some (PySem.W.instObj C dx) ∧
      ∃ mA, h.Ns1 dx mA ∧ (∀ f, RelO (fs.lookup f) (mA f)) ∧ PySem.Within mA (fs.map (·.1))
  | .own _ => ∃ o, h.get? a = some o
  | .xd fs => ∃ mA, h.Ns1 a mA ∧ ∀ f, RelO (fs.lookup f) (mA f)
  | .rng lo hi => ∃ t u v, h.get? a = some { cls := .type "range", data := .fields #[.int lo t, .int hi u, .int 1 v] }
  | .frz o u => h.get? a = some o ∧ ObjOk H h a u
  | .tbl ps => h.get? a = some { cls := .none, data := .fields ps }
  | .met f x => h.get? a = some (PySem.W.methodObj (.ref f) (.ref x))
  | .ext φ => φ h ∧ (∃ o, h.get? a = some o) ∧ ∀ h1 h2 : Heap, φ h1 → (∀ o, h1.get? a = some o → h2.get? a = some o) → φ h2
/-- the abstract heap is held -/
def HOk (H : Hp) (h : Heap) : Prop := ∀ a o, H a = some o → ObjOk P w H h a o
end

section
variable {P : Program} {w : World} {H H' : Hp} {h h' : Heap} {a : Addr} {o : HO}
theorem ObjOk.lt (x : ObjOk P w H h a o) : a < h.objs.size := by
  cases o with
  | lst xs => obtain ⟨_, _, _, _, e⟩ := x; exact Heap.lt_size e
  | tup xs => obtain ⟨_, _, _, p⟩ := x; exact p.lt
  | dK kvs => obtain ⟨_, _, _, _, o, _, _, e, _⟩ := x; exact Heap.lt_size e
  | dT kvs => obtain ⟨_, _, _, _, o, _, _, e, _⟩ := x; exact Heap.lt_size e
  | set S n => obtain ⟨o, _, _, _, e, _⟩ := x; exact Heap.lt_size e
  | ins C dx fs => obtain ⟨_, _, _, e, _⟩ := x; exact Heap.lt_size e
  | own y => obtain ⟨_, e⟩ := x; exact Heap.lt_size e
  | xd fs => obtain ⟨_, ⟨_, _, _, e, _⟩, _⟩ := x; exact Heap.lt_size e
  | rng lo hi => obtain ⟨_, _, _, e⟩ := x; exact Heap.lt_size e
  | frz ob u => obtain ⟨e, _⟩ := x; exact Heap.lt_size e
  | tbl ps => exact Heap.lt_size (show h.get? a = some _ from x)
  | met f y => exact Heap.lt_size (show h.get? a = some _ from x)
  | ext φ => obtain ⟨_, ⟨_, e⟩, _⟩ := x; exact Heap.lt_size e
theorem Paired.mapP {α β : Type} {F G : α → β → Prop} : ∀ {l₁ : List α} {l₂ : List β}, Paired F l₁ l₂ → (∀ a b, F a b → G a b) → Paired G l₁ l₂
  | _, _, .nil, _ => .nil
  | _, _, .cons r t, f => .cons (f _ _ r) (Paired.mapP t f)
/-- what an object's description leans on: its own object, its own dict, the tuples -/
theorem ObjOk.stay (x : ObjOk P w H h a o) (k : ∀ b u, (b = a ∨ H b = some (.own a)) → h.get? b = some u → h'.get? b = some u)
    (ho : ∀ b, H b = some (.own a) → H' b = some (.own a)) (ht : ∀ b xs, H b = some (.tup xs) → H' b = some (.tup xs)) : ObjOk P w H' h' a o := by
  induction o with
  | lst xs => obtain ⟨z, its, n, r, e⟩ := x; exact ⟨z, its, n, r, k _ _ (.inl rfl) e⟩
  | tup xs => obtain ⟨z, its, r, ob, e, c⟩ := x; exact ⟨z, its, r, ob, k _ _ (.inl rfl) e, c⟩
  | dK kvs => obtain ⟨z, y, vs, r, ob, es, ep, e, c⟩ := x; exact ⟨z, y, vs, r, ob, es, ep, k _ _ (.inl rfl) e, c⟩
  | dT kvs =>
    obtain ⟨z, y, xs, r, ob, es, ep, e, c⟩ := x
    exact ⟨z, y, xs, Paired.mapP r fun p q z => ⟨z.1, ht _ _ z.2.1, z.2.2⟩, ob, es, ep, k _ _ (.inl rfl) e, c⟩
  | set S n => obtain ⟨ob, es, ep, t, e, c⟩ := x; exact ⟨ob, es, ep, t, k _ _ (.inl rfl) e, c⟩
  | ins C dx fs =>
    obtain ⟨d, z, ne, e, mA, ⟨od, es, ep, e2, c⟩, r⟩ := x
    exact ⟨ho _ d, z, ne, k _ _ (.inl rfl) e, mA, ⟨od, es, ep, k _ _ (.inr d) e2, c⟩, r⟩
  | own y => obtain ⟨ob, e⟩ := x; exact ⟨ob, k _ _ (.inl rfl) e⟩
  | xd fs => obtain ⟨mA, ⟨od, es, ep, e, c⟩, r⟩ := x; exact ⟨mA, ⟨od, es, ep, k _ _ (.inl rfl) e, c⟩, r⟩
  | rng lo hi => obtain ⟨t, u, v, e⟩ := x; exact ⟨t, u, v, k _ _ (.inl rfl) e⟩
  | frz ob u ih => obtain ⟨e, q⟩ := x; exact ⟨k _ _ (.inl rfl) e, ih q⟩
  | tbl ps =>
    have e : h.get? a = some { cls := .none, data := .fields ps } := x
    show h'.get? a = some { cls := .none, data := .fields ps }
    exact k a _ (.inl rfl) e
  | met f y =>
    have e : h.get? a = some (PySem.W.methodObj (.ref f) (.ref y)) := x
    show h'.get? a = some (PySem.W.methodObj (.ref f) (.ref y))
    exact k a _ (.inl rfl) e
  | ext φ => obtain ⟨p, ⟨o, e⟩, st⟩ := x; exact ⟨st _ _ p fun o q => k _ _ (.inl rfl) q, ⟨o, k _ _ (.inl rfl) e⟩, st⟩
theorem HOk.lt (x : HOk P w H h) (e : H a = some o) : a < h.objs.size := (x a o e).lt
theorem HOk.fresh (x : HOk P w H h) (e : h.objs.size ≤ a) : H a = none := by
  cases q : H a with
  | none => rfl
  | some u => exact absurd (Nat.lt_of_lt_of_le (x.lt q) e) (Nat.lt_irrefl _)
/-- every object of the heap is kept -/
theorem HOk.kept (x : HOk P w H h) (k : ∀ b u, h.get? b = some u → h'.get? b = some u) : HOk P w H h' := fun a o e =>
  (x a o e).stay (fun b u _ q => k b u q) (fun _ q => q) fun _ _ q => q
/-- a new object is laid and tracked -/
theorem HOk.laid (x : HOk P w H h) (k : ∀ b u, h.get? b = some u → h'.get? b = some u) (hp : h.objs.size ≤ a) (new : ObjOk P w (upd H a o) h' a o) : HOk P w (upd H a o) h' := fun b u e => by
  have hn := x.fresh hp
  by_cases hb : b = a
  · subst hb; rw [upd_same] at e; cases e; exact new
  · rw [upd_ne hb] at e
    exact (x b u e).stay (fun c v _ q => k c v q) (fun c q => by rw [upd_ne (ne_of_none q hn)]; exact q) fun c xs q => by rw [upd_ne (ne_of_none q hn)]; exact q
end

/-- what may be read as u: it is u, or a known u -/
def Rd (H : Hp) (a : Addr) (u : HO) : Prop := H a = some u ∨ ∃ o, H a = some (.frz o u)
theorem Rd.of {H : Hp} {a : Addr} {u : HO} (h : H a = some u) : Rd H a u := .inl h
theorem Rd.ok {P : Program} {w : World} {H : Hp} {h : Heap} {a : Addr} {u : HO} (r : Rd H a u) (x : HOk P w H h) : ObjOk P w H h a u := by
  rcases r with r | ⟨o, r⟩
  · exact x a u r
  · obtain ⟨_, q⟩ := x a _ r
    exact q
/-- what may be written -/
def Mut : Option HO → Prop
  | some (.lst _) => True
  | some (.dK _) => True
  | some (.dT _) => True
  | some (.set _ _) => True
  | some (.ins _ _ _) => True
  | some (.ext _) => True
  | _ => False
section
variable {P : Program} {w : World} {H : Hp} {h h' : Heap} {x e : Addr} {o' : HO}
/-- the object at e is changed: x itself, or the dict of the instance x -/
theorem HOk.write (ok : HOk P w H h) (mu : Mut (H x)) (he : e = x ∨ H e = some (.own x)) (k : ∀ b u, b ≠ e → h.get? b = some u → h'.get? b = some u) (heo : ∃ u, h'.get? e = some u)
    (new : ObjOk P w (upd H x o') h' x o') : HOk P w (upd H x o') h' := fun b u q => by
  have nown : ∀ c y, H c = some (.own y) → c ≠ x := fun c y r z => by subst z; rw [r] at mu; exact mu
  have ntup : ∀ c xs, H c = some (.tup xs) → c ≠ x := fun c xs r z => by subst z; rw [r] at mu; exact mu
  by_cases hb : b = x
  · subst hb; rw [upd_same] at q; cases q; exact new
  · rw [upd_ne hb] at q
    by_cases hbe : b = e
    · have q' : H b = some (.own x) := by
        rcases he with z | z
        · exact absurd (hbe.trans z) hb
        · rw [hbe]; exact z
      rw [q] at q'; cases q'
      obtain ⟨v, hv⟩ := heo
      exact ⟨v, by rw [hbe]; exact hv⟩
    · refine (ok b u q).stay (fun c v hc r => k c v ?_ r) (fun c r => by rw [upd_ne (nown c b r)]; exact r) fun c xs r => by rw [upd_ne (ntup c xs r)]; exact r
      rcases hc with rfl | hc
      · exact hbe
      · rintro rfl
        rcases he with z | z
        · exact nown c b hc z
        · rw [hc] at z; cases z; exact hb rfl
end

/-! ### kept unless tracked; of the frames at fs (the callers') the slots may change (an exception that passes writes there); of the records at ex (iterators) nothing is said -/
structure Un (fs ex : List Addr) (H H' : Hp) (h h' : Heap) : Prop where
  keep : ∀ b o, h.get? b = some o → H b = none → b ∉ fs → b ∉ ex → h'.get? b = some o
  slot : ∀ b o, h.get? b = some o → H b = none → b ∈ fs → b ∉ ex → ∃ sl, h'.get? b = some { o with slots := sl }
  free : ∀ b o, h.get? b = some o → H b = none → b ∉ ex → H' b = none
  there : ∀ b o, h.get? b = some o → b ∉ ex → ∃ o', h'.get? b = some o'
  tups : ∀ b xs, H b = some (.tup xs) → H' b = some (.tup xs)
  frzs : ∀ b o u, H b = some (.frz o u) → H' b = some (.frz o u)
  tbls : ∀ b ps, H b = some (.tbl ps) → ∃ more, H' b = some (.tbl (ps ++ more))
section
variable {fs fs' ex ex' : List Addr} {H H1 H2 : Hp} {h h1 h2 h' : Heap} {a x e : Addr} {o : HO}
theorem Un.any (u : Un fs ex H H1 h h1) {b : Addr} {ob : Obj} (q : h.get? b = some ob) (n : H b = none) (hx : b ∉ ex) : ∃ sl, h1.get? b = some { ob with slots := sl } := by
  by_cases hb : b ∈ fs
  · exact u.slot b ob q n hb hx
  · exact ⟨ob.slots, u.keep b ob q n hb hx⟩
theorem Un.trans (a : Un fs ex H H1 h h1) (b : Un fs ex H1 H2 h1 h2) : Un fs ex H H2 h h2 where
  keep := fun c ob q n hc hx => b.keep c ob (a.keep c ob q n hc hx) (a.free c ob q n hx) hc hx
  slot := fun c ob q n hc hx => by
    obtain ⟨sl, e1⟩ := a.slot c ob q n hc hx
    obtain ⟨sl', e2⟩ := b.slot c _ e1 (a.free c ob q n hx) hc hx
    exact ⟨sl', e2⟩
  free := fun c ob q n hx => by
    obtain ⟨o', e1⟩ := a.there c ob q hx
    exact b.free c o' e1 (a.free c ob q n hx) hx
  there := fun c ob q hx => by
    obtain ⟨o', e1⟩ := a.there c ob q hx
    exact b.there c o' e1 hx
  tups := fun c xs q => b.tups c xs (a.tups c xs q)
  frzs := fun c ob xs q => b.frzs c ob xs (a.frzs c ob xs q)
  tbls := fun c ps q => by
    obtain ⟨m1, e1⟩ := a.tbls c ps q
    obtain ⟨m2, e2⟩ := b.tbls c _ e1
    exact ⟨m1 ++ m2, by rw [e2, Array.append_assoc]⟩
theorem Un.kept (k : ∀ b u, h.get? b = some u → h'.get? b = some u) : Un fs ex H H h h' :=
  ⟨fun b ob q _ _ _ => k b ob q, fun b ob q _ _ _ => ⟨ob.slots, k b ob q⟩, fun _ _ _ n _ => n, fun b ob q _ => ⟨ob, k b ob q⟩, fun _ _ q => q, fun _ _ _ q => q, fun _ ps q => ⟨#[], by rw [q]; simp⟩⟩
theorem Un.refl : Un fs ex H H h h := Un.kept fun _ _ q => q
theorem Un.laid (k : ∀ b u, h.get? b = some u → h'.get? b = some u) (hp : h.objs.size ≤ a) (hn : H a = none) : Un fs ex H (upd H a o) h h' where
  keep := fun b u q _ _ _ => k b u q
  slot := fun b u q _ _ _ => ⟨u.slots, k b u q⟩
  free := fun b u q n _ => by rw [upd_ne (Nat.ne_of_lt (Nat.lt_of_lt_of_le (Heap.lt_size q) hp))]; exact n
  there := fun b u q _ => ⟨u, k b u q⟩
  tups := fun b xs q => by rw [upd_ne (ne_of_none q hn)]; exact q
  frzs := fun b u xs q => by rw [upd_ne (ne_of_none q hn)]; exact q
  tbls := fun b ps q => ⟨#[], by rw [upd_ne (ne_of_none q hn), q]; simp⟩
theorem Un.write (mu : Mut (H x)) (he : e = x ∨ H e = some (.own x)) (k : ∀ b u, b ≠ e → h.get? b = some u → h'.get? b = some u) (heo : ∃ u, h'.get? e = some u) : Un fs ex H (upd H x o) h h' := by
  have hx : ∀ b, H b = none → b ≠ x := fun b n z => by subst z; rw [n] at mu; exact mu
  have hb : ∀ b, H b = none → b ≠ e := fun b n z => by
    subst z
    rcases he with r | r
    · exact hx b n r
    · rw [n] at r; cases r
  have hm : ∀ b u, H b = some u → ¬ Mut (some u) → b ≠ x := fun b u q nm z => by subst z; rw [q] at mu; exact nm mu
  refine ⟨fun b u q n _ _ => k b u (hb b n) q, fun b u q n _ _ => ⟨u.slots, k b u (hb b n) q⟩, fun b u q n _ => by rw [upd_ne (hx b n)]; exact n, fun b u q _ => ?_,
    fun b xs q => by rw [upd_ne (hm b _ q fun z => z)]; exact q, fun b u xs q => by rw [upd_ne (hm b _ q fun z => z)]; exact q, fun b ps q => ⟨#[], by rw [upd_ne (hm b _ q fun z => z), q]; simp⟩⟩
  by_cases hbe : b = e
  · subst hbe; exact heo
  · exact ⟨u, k b u hbe q⟩
theorem Un.mono (u : Un fs ex H H1 h h1) (hs : ∀ b ∈ fs, b ∈ fs') (hx : ∀ b ∈ ex, b ∈ ex') : Un fs' ex' H H1 h h1 :=
  ⟨fun b ob q n hb he => u.keep b ob q n (fun z => hb (hs b z)) fun z => he (hx b z), fun _ _ q n _ he => u.any q n fun z => he (hx _ z), fun b ob q n he => u.free b ob q n fun z => he (hx b z), fun b ob q he => u.there b ob q fun z => he (hx b z), u.tups, u.frzs, u.tbls⟩
end

/-! ### the heap without what is tracked -/
def trk (h : Heap) (H : Hp) : List Addr := (List.range h.objs.size).filter fun a => (H a).isSome
def hidT (h : Heap) (H : Hp) : Heap := PySem.W.hideAll h (trk h H)
theorem hidT_size (h : Heap) (H : Hp) : (hidT h H).objs.size = h.objs.size := PySem.W.hideAll_size _ _
theorem hidT_get {h : Heap} {H : Hp} {b : Addr} {o : Obj} (e : h.get? b = some o) (n : H b = none) : (hidT h H).get? b = some o :=
  PySem.W.hideAll_get _ e fun hm => by
    have q : (H b).isSome = true := (List.mem_filter.mp hm).2
    rw [n] at q; simp at q
theorem of_hidT {h : Heap} {H : Hp} {b : Addr} {o : Obj} (e : (hidT h H).get? b = some o) : h.get? b = some o ∧ H b = none := by
  have e' : h.get? b = some o := PySem.W.of_hideAll (trk h H) e
  refine ⟨e', ?_⟩
  cases q : H b with
  | none => rfl
  | some x =>
    have hm : b ∈ trk h H := List.mem_filter.mpr ⟨List.mem_range.mpr (Heap.lt_size e'), by simp [q]⟩
    have z : (hidT h H).get? b = none := PySem.W.hideAll_none (trk h H) hm
    rw [z] at e; cases e

/-! ### OpenK's ledger, filled with every new object but one -/
def allNews (g h : Heap) (L : Addr) : List (Addr × Obj) := (List.range h.objs.size).filterMap fun a => if a = L ∨ (g.get? a).isSome = true then none else (h.get? a).map fun o => (a, o)
def rest (g h : Heap) (L d : Addr) : List (Addr × Obj) := (allNews g h L).filter fun p => decide (p.1 ≠ d)
end L2

namespace L2
open PySem PySem.Spec PyProof.Rows

/-- the module's facts, over the base: the heap at the law's entry without what is tracked there -/
structure Mod (K : PySem.W.Frag) (mg : Str → Option Value) (base : Heap) : Prop where
  kin : K.In base
  glob : base.Ns mainGlobals mg
  blt : ∃ mb, base.Ns builtinsNs mb ∧ ∀ x : Str, x ≠ "__name__" → mb x = bootBuiltins x
  nolimit : base.NoLimit

/-- what is being handled: nothing, or an exception on which no context hangs, known to the object -/
def HdOk (A : Around) (H : Hp) : Prop := A.handled = none ∨ ∃ (a : Addr) (o : Obj) (vs : Array Value), A.handled = some (.ref a) ∧ H a = some (.frz o (.own 0)) ∧ o.data = .fields vs ∧ vs[2]? = some .none ∧ ∃ C, o.cls = .ref C
theorem HdOk.same {A : Around} {H H' : Hp} (x : HdOk A H) (k : ∀ b o u, H b = some (.frz o u) → H' b = some (.frz o u)) : HdOk A H' := by
  rcases x with x | ⟨a, o, vs, h1, h2, h3⟩
  · exact .inl x
  · exact .inr ⟨a, o, vs, h1, k _ _ _ h2, h3⟩
/-- the context: a def's body (or a comprehension's block) running. base: fixed through the whole law; s₀, H₀: the entry; outer: the frames whose slots others may change (a def's callers); stack: all frames that run;
   ex: iterators that were made ahead of the entry and are walked here (a comprehension's); fn: the names whose cells were made at the entry (a def: all; a comprehension's block: its own); calm: not within an except suite; pn: pins that every state bears; xe: what is wanted of an exception that leaves the code -/
structure Cx where
  prog : Program
  w : World
  K : PySem.W.Frag
  mg : Str → Option Value
  base : Heap
  A : Around
  N : List Str
  s₀ : Shared
  H₀ : Hp
  env : Env
  outer : List Env
  stack : List Env
  ex : List Addr
  fn : Str → Bool
  calm : Bool
  pn : List (Addr × Obj)
  xe : Value → Shared → Prop
/-- the callers' frames -/
def frs (l : List Env) : List Addr := l.filterMap (·.frame)
abbrev Cx.fs (X : Cx) : List Addr := frs X.outer

def Vis (sc : Scope) (x : Str) : Prop := sc.names.lookup x = some .local ∨ sc.names.lookup x = some .cell ∨ sc.names.lookup x = some .free
def Loc (sc : Scope) (x : Str) : Prop := sc.names.lookup x = some .local ∨ sc.names.lookup x = some .cell
def Look (env : Env) (h : Heap) (m : Str → Option Value) (x : Str) (u : Value) : Prop :=
  (env.kindOf x = some .local ∧ m x = some u) ∨ ((env.kindOf x = some .cell ∨ env.kindOf x = some .free) ∧ ∃ c, env.cells.lookup x = some c ∧ h.IsCell c (some u))

structure Cx.Ok (X : Cx) : Prop where
  mod : Mod X.K X.mg X.base
  kind : X.env.scope.kind = .function
  glob : X.env.globals = mainGlobals
  blt : X.env.builtins = builtinsNs
  above : X.s₀.heap.objs.size ≤ X.env.locals
  inj : ∀ x y c, X.env.cells.lookup x = some c → X.env.cells.lookup y = some c → x = y
  has : ∀ x, (X.env.kindOf x = some .cell ∨ X.env.kindOf x = some .free) → ∃ c, X.env.cells.lookup x = some c
  cab : ∀ x c, X.fn x = true → X.env.cells.lookup x = some c → X.s₀.heap.objs.size ≤ c
  hd : X.calm = true → X.A.handled = none
  frames : X.A.frames = some X.stack
  stk : X.stack = X.outer ∨ (X.stack = X.env :: X.outer ∧ X.env.frame = some X.env.locals)
  exf : ∀ b ∈ X.ex, b ≠ X.env.locals ∧ ∀ x c, X.env.cells.lookup x = some c → c ≠ b
  bs : ∀ b o, X.base.get? b = some o → X.s₀.heap.get? b = some o ∧ X.H₀ b = none
  bsz : X.base.objs.size ≤ X.s₀.heap.objs.size
  noex : ∀ b o, X.base.get? b = some o → b ∉ X.ex
  exfs : ∀ b ∈ X.ex, b ∉ X.fs
  funs : X.s₀.heap.FunFrames X.base X.outer
  frf : ∀ b ∈ X.fs, X.H₀ b = none

structure Inv (X : Cx) (pins : List (Addr × Obj)) (σ : List (Option V)) (H : Hp) (s : Shared) : Prop where
  ok : X.Ok
  os : s.os = X.s₀.os
  bare : AllBare s.gens
  base : Un X.fs X.ex X.H₀ H X.s₀.heap s.heap
  loc : ∃ m, s.heap.Ns X.env.locals m ∧ ∀ (i : Nat) (x : Str) (v : V), X.N[i]? = some x → σ[i]? = some (some v) → Vis X.env.scope x → ∃ u, RelV v u ∧ Look X.env s.heap m x u
  cell : ∀ x c, X.env.cells.lookup x = some c → ∃ v, s.heap.IsCell c v
  free : H X.env.locals = none
  freeC : ∀ x c, X.env.cells.lookup x = some c → H c = none
  pin : ∀ p ∈ X.pn ++ pins, s.heap.get? p.1 = some p.2 ∧ H p.1 = none ∧ p.1 ≠ X.env.locals ∧ p.1 ∉ X.fs ∧ ∀ v, p.2.data ≠ .cell v
  hok : HOk X.prog X.w H s.heap
  len : σ.length = X.N.length
  hdk : HdOk X.A H

section
variable {X : Cx} {pins : List (Addr × Obj)} {σ : List (Option V)} {H H' : Hp} {s : Shared} {h' : Heap}

theorem Cx.Ok.nofr (ok : X.Ok) {b : Addr} {o : Obj} (e : X.base.get? b = some o) : b ∉ X.fs := fun hb => by
  have := (ok.funs.mem hb).1
  rw [e] at this; cases this
theorem Inv.bs (I : Inv X pins σ H s) : ∀ b o, X.base.get? b = some o → s.heap.get? b = some o ∧ H b = none := fun b o e =>
  ⟨I.base.keep b o (I.ok.bs b o e).1 (I.ok.bs b o e).2 (I.ok.nofr e) (I.ok.noex b o e), I.base.free b o (I.ok.bs b o e).1 (I.ok.bs b o e).2 (I.ok.noex b o e)⟩
theorem Inv.bk (I : Inv X pins σ H s) : ∀ b o, X.base.get? b = some o → s.heap.get? b = some o := fun b o e => (I.bs b o e).1
theorem Inv.mod (I : Inv X pins σ H s) : Mod X.K X.mg X.base := I.ok.mod
theorem Inv.kIn (I : Inv X pins σ H s) : X.K.In s.heap := I.ok.mod.kin.keeps I.bk
theorem Inv.nolimit (I : Inv X pins σ H s) : s.heap.NoLimit := I.ok.mod.nolimit.keeps I.bk
/-- the frame over the base: for OpenK's rules (K.In X.base is I.mod.kin) -/
theorem Inv.fr (I : Inv X pins σ H s) : ∃ m, Fr X.base X.env.locals s.heap m :=
  let ⟨m, hn, _⟩ := I.loc
  ⟨m, hn, I.bk, Nat.le_trans I.ok.bsz I.ok.above⟩
theorem Inv.lt (I : Inv X pins σ H s) : X.env.locals < s.heap.objs.size := let ⟨_, hn, _⟩ := I.loc; hn.lt
theorem Inv.sz (I : Inv X pins σ H s) : X.s₀.heap.objs.size ≤ s.heap.objs.size := Nat.le_trans I.ok.above (Nat.le_of_lt I.lt)
theorem Inv.nofs (I : Inv X pins σ H s) {a : Addr} (h : s.heap.objs.size ≤ a) : a ∉ X.fs := fun hb => by
  obtain ⟨_, o, ho, _⟩ := I.ok.funs.mem hb
  exact absurd (Nat.lt_of_lt_of_le (Heap.lt_size ho) (Nat.le_trans I.sz h)) (Nat.lt_irrefl _)
theorem Inv.cne (I : Inv X pins σ H s) : ∀ x c, X.env.cells.lookup x = some c → c ≠ X.env.locals := fun x c e z => by
  obtain ⟨v, o, ho, hd⟩ := I.cell x c e
  obtain ⟨m, ⟨o', es, ep, ho', hd', _⟩, _⟩ := I.loc
  rw [z, ho'] at ho; cases ho; rw [hd'] at hd; cases hd
theorem Inv.funs (I : Inv X pins σ H s) : s.heap.FunFrames X.base X.outer := by
  have all : ∀ (l : List Env), (∀ b ∈ frs l, b ∈ X.fs) → X.s₀.heap.FunFrames X.base l → s.heap.FunFrames X.base l := by
    intro l
    induction l with
    | nil => intro _ _; trivial
    | cons env r ih =>
      intro hs hl
      obtain ⟨hk, ⟨L, o, hf, hn, ho, hd⟩, hr⟩ := hl
      have hL : L ∈ X.fs := hs L (by unfold frs; rw [List.filterMap_cons, hf]; exact List.mem_cons_self)
      obtain ⟨sl, e⟩ := I.base.slot L o ho (I.ok.frf L hL) hL fun z => I.ok.exfs L z hL
      exact ⟨hk, ⟨L, _, hf, hn, e, hd⟩, ih (fun b hb => hs b (by unfold frs; rw [List.filterMap_cons, hf]; exact List.mem_cons_of_mem _ hb)) hr⟩
  exact all X.outer (fun _ hb => hb) I.ok.funs

/-- the frames that run, for a call -/
theorem Inv.stack (I : Inv X pins σ H s) : s.heap.FunFrames X.base X.stack := by
  rcases I.ok.stk with e | ⟨e, hf⟩
  · rw [e]; exact I.funs
  · rw [e]
    obtain ⟨m, hn, _⟩ := I.loc
    refine .cons (by rw [I.ok.kind]; decide) hf hn ?_ I.funs
    exact Heap.get?_none_of_le (Nat.le_trans I.ok.bsz I.ok.above)
theorem Inv.stkSub (I : Inv X pins σ H s) : ∀ b ∈ frs X.stack, b ∈ X.env.locals :: X.fs := fun b hb => by
  rcases I.ok.stk with e | ⟨e, hf⟩
  · rw [e] at hb; exact List.mem_cons_of_mem _ hb
  · rw [e] at hb
    unfold frs at hb
    rw [List.filterMap_cons, hf] at hb
    exact hb
theorem Inv.stkFree (I : Inv X pins σ H s) : ∀ b ∈ frs X.stack, H b = none := fun b hb => by
  rcases List.mem_cons.mp (I.stkSub b hb) with e | hb
  · rw [e]; exact I.free
  · obtain ⟨_, o, ho, _⟩ := I.ok.funs.mem hb
    exact I.base.free b o ho (I.ok.frf b hb) fun z => I.ok.exfs b z hb

/-- THE STEP: the untracked objects but the frame and the records at ch are kept (the callers' frames up to slots), the frame's map is kept, the new abstract heap is held -/
theorem Inv.step {g' : Array GenState} {t' : Nat} {d' : Drawn} {ch : List Addr} (I : Inv X pins σ H s)
    (hch : ∀ b ∈ ch, (b ∈ X.ex ∨ X.s₀.heap.objs.size ≤ b) ∧ b ≠ X.env.locals ∧ (∀ x c, X.env.cells.lookup x = some c → c ≠ b) ∧ ∀ p ∈ X.pn ++ pins, p.1 ≠ b)
    (keep : ∀ b o, b ≠ X.env.locals → b ∉ X.fs → b ∉ ch → s.heap.get? b = some o → H b = none → h'.get? b = some o)
    (slot : ∀ b o, b ≠ X.env.locals → b ∈ X.fs → b ∉ ch → s.heap.get? b = some o → H b = none → ∃ sl, h'.get? b = some { o with slots := sl }) (free : ∀ b o, b ∉ ch → s.heap.get? b = some o → H b = none → H' b = none)
    (there : ∀ b o, b ∉ ch → s.heap.get? b = some o → ∃ o', h'.get? b = some o')
    (tups : ∀ b xs, H b = some (.tup xs) → H' b = some (.tup xs)) (frzs : ∀ b o u, H b = some (.frz o u) → H' b = some (.frz o u)) (tbls : ∀ b ps, H b = some (.tbl ps) → ∃ more, H' b = some (.tbl (ps ++ more)))
    (ns : ∀ m, s.heap.Ns X.env.locals m → h'.Ns X.env.locals m) (hok : HOk X.prog X.w H' h') (hg : AllBare g') :
    Inv X pins σ H' { s with heap := h', gens := g', drawn := d', toks := t' } := by
  have neL : ∀ b o, X.s₀.heap.get? b = some o → b ≠ X.env.locals := fun b o e => Nat.ne_of_lt (Nat.lt_of_lt_of_le (Heap.lt_size e) I.ok.above)
  have neC : ∀ b o, X.s₀.heap.get? b = some o → b ∉ X.ex → b ∉ ch := fun b o e hx hb => by
    rcases (hch b hb).1 with z | z
    · exact hx z
    · exact absurd (Nat.lt_of_lt_of_le (Heap.lt_size e) z) (Nat.lt_irrefl _)
  have cellK : ∀ x c, X.env.cells.lookup x = some c → ∀ v, s.heap.IsCell c v → h'.IsCell c v := fun x c e v ⟨o, ho, hd⟩ => by
    have nch : c ∉ ch := fun z => (hch c z).2.2.1 x c e rfl
    by_cases hc : c ∈ X.fs
    · obtain ⟨sl, q⟩ := slot c o (I.cne x c e) hc nch ho (I.freeC x c e)
      exact ⟨_, q, hd⟩
    · exact ⟨o, keep c o (I.cne x c e) hc nch ho (I.freeC x c e), hd⟩
  refine ⟨I.ok, I.os, hg, ⟨fun b o e n hb hx => ?_, fun b o e n hb hx => ?_, fun b o e n hx => ?_, fun b o e hx => ?_, fun b xs e => tups b xs (I.base.tups b xs e), fun b o xs e => frzs b o xs (I.base.frzs b o xs e), fun b ps e => ?_⟩, ?_, fun x c e => ?_, ?_, fun x c e => ?_, fun p hp => ?_, hok, I.len, I.hdk.same frzs⟩
  · exact keep b o (neL b o e) hb (neC b o e hx) (I.base.keep b o e n hb hx) (I.base.free b o e n hx)
  · obtain ⟨sl, e1⟩ := I.base.slot b o e n hb hx
    obtain ⟨sl', e2⟩ := slot b _ (neL b o e) hb (neC b o e hx) e1 (I.base.free b o e n hx)
    exact ⟨sl', e2⟩
  · obtain ⟨o', e1⟩ := I.base.there b o e hx
    exact free b o' (neC b o e hx) e1 (I.base.free b o e n hx)
  · obtain ⟨o', e1⟩ := I.base.there b o e hx
    exact there b o' (neC b o e hx) e1
  · obtain ⟨m1, e1⟩ := I.base.tbls b ps e
    obtain ⟨m2, e2⟩ := tbls b _ e1
    exact ⟨m1 ++ m2, by rw [e2, Array.append_assoc]⟩
  · obtain ⟨m, hn, hl⟩ := I.loc
    refine ⟨m, ns m hn, fun i x v e1 e2 e3 => ?_⟩
    obtain ⟨u, r, l⟩ := hl i x v e1 e2 e3
    refine ⟨u, r, ?_⟩
    rcases l with l | ⟨k, c, e, z⟩
    · exact .inl l
    · exact .inr ⟨k, c, e, cellK x c e _ z⟩
  · obtain ⟨v, z⟩ := I.cell x c e
    exact ⟨v, cellK x c e v z⟩
  · obtain ⟨m, ⟨o, _, _, ho, _⟩, _⟩ := I.loc
    exact free _ o (fun z => (hch _ z).2.1 rfl) ho I.free
  · obtain ⟨v, o, ho, hd⟩ := I.cell x c e
    exact free c o (fun z => (hch c z).2.2.1 x c e rfl) ho (I.freeC x c e)
  · obtain ⟨e, n, ne, nf, d⟩ := I.pin p hp
    have nch : p.1 ∉ ch := fun z => (hch p.1 z).2.2.2 p hp rfl
    exact ⟨keep p.1 p.2 ne nf nch e n, free p.1 p.2 nch e n, ne, nf, d⟩
/-- .. where the frame's own object is kept too -/
theorem Inv.un {t' : Nat} (I : Inv X pins σ H s) (u : Un X.fs [] H H' s.heap h') (hok : HOk X.prog X.w H' h') : Inv X pins σ H' { s with heap := h', toks := t' } := by
  obtain ⟨m, ⟨o, es, ep, ho, r⟩, _⟩ := id I.loc
  obtain ⟨sl, hL⟩ := u.any ho I.free (by simp)
  exact I.step (g' := s.gens) (d' := s.drawn) (ch := []) (fun _ z => nomatch z) (fun b o _ hb _ e n => u.keep b o e n hb (by simp)) (fun b o _ hb _ e n => u.slot b o e n hb (by simp)) (fun b o _ e n => u.free b o e n (by simp)) (fun b o _ e => u.there b o e (by simp)) u.tups u.frzs u.tbls (fun m' hm => by
    obtain ⟨o', es', ep', ho', r'⟩ := hm
    rw [ho] at ho'; cases ho'
    exact ⟨_, es', ep', hL, r'⟩) hok I.bare
/-- behind a call (or a comprehension's block): the slots of this frame may have changed too, the records at ch may have turned -/
theorem Inv.call {g' : Array GenState} {t' : Nat} {d' : Drawn} {ch : List Addr} (I : Inv X pins σ H s) (u : Un (frs X.stack) ch H H' s.heap h') (hok : HOk X.prog X.w H' h') (hg : AllBare g')
    (hch : ∀ b ∈ ch, (b ∈ X.ex ∨ X.s₀.heap.objs.size ≤ b) ∧ b ≠ X.env.locals ∧ (∀ x c, X.env.cells.lookup x = some c → c ≠ b) ∧ ∀ p ∈ X.pn ++ pins, p.1 ≠ b) :
    Inv X pins σ H' { s with heap := h', gens := g', drawn := d', toks := t' } := by
  obtain ⟨m, ⟨o, es, ep, ho, r⟩, _⟩ := id I.loc
  obtain ⟨sl, hL⟩ := u.any ho I.free fun z => (hch _ z).2.1 rfl
  exact I.step (ch := ch) hch (fun b o hL hb hc e n => u.keep b o e n (fun z => (List.mem_cons.mp (I.stkSub b z)).elim hL hb) hc) (fun b o _ _ hc e n => u.any e n hc) (fun b o hc e n => u.free b o e n hc) (fun b o hc e => u.there b o e hc) u.tups u.frzs u.tbls (fun m' hm => by
    obtain ⟨o', es', ep', ho', r'⟩ := hm
    rw [ho] at ho'; cases ho'
    exact ⟨_, es', ep', hL, r'⟩) hok hg
/-- an untracked record of ours (an iterator) has turned -/
theorem Inv.turned {t' : Nat} {it : Addr} (I : Inv X pins σ H s) (k : ∀ b o, b ≠ it → s.heap.get? b = some o → h'.get? b = some o) (hn : H it = none) (hL : it ≠ X.env.locals)
    (h1 : it ∈ X.ex ∨ X.s₀.heap.objs.size ≤ it) (h2 : ∀ x c, X.env.cells.lookup x = some c → c ≠ it) (h3 : ∀ p ∈ X.pn ++ pins, p.1 ≠ it) : Inv X pins σ H { s with heap := h', toks := t' } := by
  have nit : ∀ b u, H b = some u → b ≠ it := fun b u e z => by rw [z, hn] at e; cases e
  refine I.step (g' := s.gens) (d' := s.drawn) (ch := [it]) (fun b hb => ?_) (fun b o _ _ hc e _ => k b o (fun z => hc (by simp [z])) e) (fun b o _ _ hc e _ => ⟨o.slots, k b o (fun z => hc (by simp [z])) e⟩) (fun _ _ _ _ n => n)
    (fun b o hc e => ⟨o, k b o (fun z => hc (by simp [z])) e⟩) (fun _ _ e => e) (fun _ _ _ e => e) (fun b ps e => ⟨#[], by rw [e]; simp⟩) (fun m hm => ?_) (fun b u e => ?_) I.bare
  · have e : b = it := by simpa using hb
    subst e
    exact ⟨h1, hL, h2, h3⟩
  · obtain ⟨o, es, ep, ho, r⟩ := hm
    exact ⟨o, es, ep, k _ o (Ne.symm hL) ho, r⟩
  · refine (I.hok b u e).stay (fun c v hc q => k c v ?_ q) (fun _ q => q) fun _ _ q => q
    rcases hc with z | z
    · rw [z]; exact nit b u e
    · exact nit c _ z
theorem Inv.tok (I : Inv X pins σ H s) (t : Nat) : Inv X pins σ H { s with toks := t } := I.un (h' := s.heap) (t' := t) Un.refl I.hok
/-- all objects kept -/
theorem Inv.kept {t' : Nat} (I : Inv X pins σ H s) (k : ∀ b u, s.heap.get? b = some u → h'.get? b = some u) : Inv X pins σ H { s with heap := h', toks := t' } := I.un (Un.kept k) (I.hok.kept k)
/-- a new object laid and tracked -/
theorem Inv.laid {a : Addr} {o : HO} {t' : Nat} (I : Inv X pins σ H s) (k : ∀ b u, s.heap.get? b = some u → h'.get? b = some u) (hp : s.heap.objs.size ≤ a) (new : ObjOk X.prog X.w (upd H a o) h' a o) :
    Inv X pins σ (upd H a o) { s with heap := h', toks := t' } := I.un (Un.laid k hp (I.hok.fresh hp)) (I.hok.laid k hp new)
/-- an object written -/
theorem Inv.write {x e : Addr} {o : HO} {t' : Nat} (I : Inv X pins σ H s) (mu : Mut (H x)) (he : e = x ∨ H e = some (.own x)) (k : ∀ b u, b ≠ e → s.heap.get? b = some u → h'.get? b = some u) (heo : ∃ u, h'.get? e = some u)
    (new : ObjOk X.prog X.w (upd H x o) h' x o) : Inv X pins σ (upd H x o) { s with heap := h', toks := t' } := I.un (Un.write mu he k heo) (I.hok.write mu he k heo new)
/-- forgetting slots, pins -/
theorem Inv.weak {σ' : List (Option V)} (I : Inv X pins σ H s) (hl : σ'.length = σ.length) (w : ∀ (i : Nat) v, σ'[i]? = some (some v) → σ[i]? = some (some v)) : Inv X pins σ' H s :=
  ⟨I.ok, I.os, I.bare, I.base, let ⟨m, hn, hl'⟩ := I.loc; ⟨m, hn, fun i x v e1 e2 e3 => hl' i x v e1 (w i v e2) e3⟩, I.cell, I.free, I.freeC, I.pin, I.hok, hl.trans I.len, I.hdk⟩
theorem Inv.pins_of {pins' : List (Addr × Obj)} (I : Inv X pins σ H s) (h : ∀ p ∈ pins', s.heap.get? p.1 = some p.2 ∧ H p.1 = none ∧ p.1 ≠ X.env.locals ∧ p.1 ∉ X.fs ∧ ∀ v, p.2.data ≠ .cell v) : Inv X pins' σ H s :=
  ⟨I.ok, I.os, I.bare, I.base, I.loc, I.cell, I.free, I.freeC, fun p hp => (List.mem_append.mp hp).elim (fun z => I.pin p (List.mem_append_left _ z)) (h p), I.hok, I.len, I.hdk⟩

theorem nodup_ix {N : List Str} (hN : N.Nodup) {i j : Nat} {x : Str} (a : N[i]? = some x) (b : N[j]? = some x) : i = j := by
  obtain ⟨h1, e1⟩ := List.getElem?_eq_some_iff.mp a
  obtain ⟨h2, e2⟩ := List.getElem?_eq_some_iff.mp b
  exact (List.getElem_inj hN).mp (e1.trans e2.symm)

/-- a name is stored; what changed -/
theorem store_ok2 {M : Model} {A : Around} {E : Value → Shared → Prop} {i : Nat} {x : Str} {v : V} {u : Value} {Q : Unit → Shared → Prop} (I : Inv X pins σ H s) (hN : X.N.Nodup) (hi : X.N[i]? = some x) (hx : Loc X.env.scope x) (r : RelV v u)
    (h : ∀ s', Inv X pins (σ.set i (some v)) H s' → (∃ a, Heap.SameBut a s.heap s'.heap ∧ (a = X.env.locals ∨ X.env.cells.lookup x = some a)) → Q () s') (hf : X.fn x = true ∨ X.env.scope.names.lookup x = some .local := by first | exact .inl rfl | exact .inr rfl | assumption) : wpAny M A (storeName X.env x u) Q E s := by
  obtain ⟨m, hn, hl⟩ := id I.loc
  have hcls : (X.env.scope.kind == .class || (X.env.scope.kind == .module && X.env.locals != X.env.globals)) = false := by rw [I.ok.kind]; rfl
  have hiσ : i < σ.length := by rw [I.len]; exact (List.getElem?_eq_some_iff.mp hi).1
  have cne := I.cne
  have tracked : ∀ {a : Addr} {h' : Heap}, (∃ o, s.heap.get? a = some o ∧ H a = none) → Heap.SameBut a s.heap h' → HOk X.prog X.w H h' := fun {a h'} ha hs b ob e => by
    obtain ⟨_, _, hfree⟩ := ha
    refine (I.hok b ob e).stay (fun c w' hc q => (hs.2 c ?_).trans q) (fun _ q => q) fun _ _ q => q
    rintro rfl
    rcases hc with rfl | hc
    · rw [hfree] at e; cases e
    · rw [hfree] at hc; cases hc
  rcases hx with hk | hk
  · refine wpAny_storeName_local hk hn (fun h' hn' hs => ?_) hcls
    obtain ⟨oL, _, _, hoL, _⟩ := id hn
    refine h _ ⟨I.ok, I.os, I.bare, ⟨fun b o e n hb hx => ?_, fun b o e n hb hx => ?_, I.base.free, fun b o e hx => ?_, I.base.tups, I.base.frzs, I.base.tbls⟩, ⟨_, hn', fun j y v' e1 e2 e3 => ?_⟩, fun y c e => ?_, I.free, I.freeC, fun p hp => ?_, tracked ⟨oL, hoL, I.free⟩ hs, by simpa using I.len, I.hdk⟩ ⟨_, hs, .inl rfl⟩
    · exact (hs.2 b (Nat.ne_of_lt (Nat.lt_of_lt_of_le (Heap.lt_size e) I.ok.above))).trans (I.base.keep b o e n hb hx)
    · obtain ⟨sl, e1⟩ := I.base.slot b o e n hb hx
      exact ⟨sl, (hs.2 b (Nat.ne_of_lt (Nat.lt_of_lt_of_le (Heap.lt_size e) I.ok.above))).trans e1⟩
    · obtain ⟨o', e1⟩ := I.base.there b o e hx
      exact ⟨o', (hs.2 b (Nat.ne_of_lt (Nat.lt_of_lt_of_le (Heap.lt_size e) I.ok.above))).trans e1⟩
    · by_cases hj : j = i
      · subst hj
        rw [hi] at e1; cases e1
        rw [List.getElem?_set_self hiσ] at e2
        cases e2
        exact ⟨u, r, .inl ⟨hk, by simp⟩⟩
      · rw [List.getElem?_set_ne (Ne.symm hj)] at e2
        obtain ⟨u', r', q⟩ := hl j y v' e1 e2 e3
        refine ⟨u', r', ?_⟩
        rcases q with ⟨k, e⟩ | ⟨k, c, e, z⟩
        · refine .inl ⟨k, ?_⟩
          have : y ≠ x := fun e => hj (nodup_ix hN e1 (e ▸ hi))
          simp [this, e]
        · exact .inr ⟨k, c, e, z.sameBut hs (cne y c e)⟩
    · obtain ⟨w', z⟩ := I.cell y c e
      exact ⟨w', z.sameBut hs (cne y c e)⟩
    · obtain ⟨e, n, ne, nf, d⟩ := I.pin p hp
      exact ⟨(hs.2 p.1 ne).trans e, n, ne, nf, d⟩
  · have hfn : X.fn x = true := by
      rcases hf with z | z
      · exact z
      · rw [z] at hk; cases hk
    obtain ⟨c, hc⟩ := I.ok.has x (.inl hk)
    obtain ⟨w', z⟩ := I.cell x c hc
    refine wpAny_storeName_cell I.ok.kind hk hc z (fun h' hc' hs => ?_)
    obtain ⟨oc, hoc, hocd⟩ := id z
    refine h { s with heap := h' } ⟨I.ok, I.os, I.bare, ⟨fun b o e n hb hx => ?_, fun b o e n hb hx => ?_, I.base.free, fun b o e hx => ?_, I.base.tups, I.base.frzs, I.base.tbls⟩, ⟨m, hn.sameBut hs (Ne.symm (cne x c hc)), fun j y v' e1 e2 e3 => ?_⟩, fun y c' e => ?_, I.free, I.freeC, fun p hp => ?_, tracked ⟨oc, hoc, I.freeC x c hc⟩ hs, by simpa using I.len, I.hdk⟩ ⟨c, hs, .inr hc⟩
    · exact (hs.2 b (Nat.ne_of_lt (Nat.lt_of_lt_of_le (Heap.lt_size e) (I.ok.cab x c hfn hc)))).trans (I.base.keep b o e n hb hx)
    · obtain ⟨sl, e1⟩ := I.base.slot b o e n hb hx
      exact ⟨sl, (hs.2 b (Nat.ne_of_lt (Nat.lt_of_lt_of_le (Heap.lt_size e) (I.ok.cab x c hfn hc)))).trans e1⟩
    · obtain ⟨o', e1⟩ := I.base.there b o e hx
      exact ⟨o', (hs.2 b (Nat.ne_of_lt (Nat.lt_of_lt_of_le (Heap.lt_size e) (I.ok.cab x c hfn hc)))).trans e1⟩
    · by_cases hj : j = i
      · subst hj
        rw [hi] at e1; cases e1
        rw [List.getElem?_set_self hiσ] at e2
        cases e2
        exact ⟨u, r, .inr ⟨.inl hk, c, hc, hc'⟩⟩
      · rw [List.getElem?_set_ne (Ne.symm hj)] at e2
        obtain ⟨u', r', q⟩ := hl j y v' e1 e2 e3
        refine ⟨u', r', ?_⟩
        rcases q with q | ⟨k, c', e, z'⟩
        · exact .inl q
        · refine .inr ⟨k, c', e, z'.sameBut hs ?_⟩
          rintro rfl
          exact hj (nodup_ix hN e1 (I.ok.inj _ _ _ e hc ▸ hi))
    · by_cases hcc : c' = c
      · subst hcc; exact ⟨_, hc'⟩
      · obtain ⟨w2, z2⟩ := I.cell y c' e
        exact ⟨w2, z2.sameBut hs hcc⟩
    · obtain ⟨e, n, ne, nf, d⟩ := I.pin p hp
      refine ⟨(hs.2 p.1 ?_).trans e, n, ne, nf, d⟩
      intro q
      rw [q, hoc] at e
      have q' : oc = p.2 := Option.some.inj e
      exact d w' (by rw [← q']; exact hocd)
theorem store_ok {M : Model} {A : Around} {E : Value → Shared → Prop} {i : Nat} {x : Str} {v : V} {u : Value} {Q : Unit → Shared → Prop} (I : Inv X pins σ H s) (hN : X.N.Nodup) (hi : X.N[i]? = some x) (hx : Loc X.env.scope x) (r : RelV v u)
    (h : ∀ s', Inv X pins (σ.set i (some v)) H s' → Q () s') (hf : X.fn x = true ∨ X.env.scope.names.lookup x = some .local := by first | exact .inl rfl | exact .inr rfl | assumption) : wpAny M A (storeName X.env x u) Q E s :=
  store_ok2 I hN hi hx r (fun s' I' _ => h s' I') hf
/-- behind a call or a block, the state as it is -/
theorem Inv.call' {s' : Shared} {ch : List Addr} (I : Inv X pins σ H s) (ho : s'.os = s.os) (u : Un (frs X.stack) ch H H' s.heap s'.heap) (hok : HOk X.prog X.w H' s'.heap) (hg : AllBare s'.gens)
    (hch : ∀ b ∈ ch, (b ∈ X.ex ∨ X.s₀.heap.objs.size ≤ b) ∧ b ≠ X.env.locals ∧ (∀ x c, X.env.cells.lookup x = some c → c ≠ b) ∧ ∀ p ∈ X.pn ++ pins, p.1 ≠ b) : Inv X pins σ H' s' := by
  obtain ⟨h', g', d', t', o'⟩ := s'
  have e : o' = s.os := ho
  subst e
  exact I.call (g' := g') (t' := t') (d' := d') u hok hg hch
end

/-! ### the judgements -/
/-- an exception: its class, its own dict's address (where it has one), the abstract heap behind it -/
abbrev XK := Value → Option Addr → Hp → Prop
abbrev St := List (Option V)
abbrev VK := V → Hp → Prop
/-- an expression's reading; a test's; an argument list's -/
abbrev TE := St → Hp → VK → Prop
abbrev TT := St → Hp → (Bool → Hp → Prop) → Prop
abbrev TA := St → Hp → (List V → Hp → Prop) → Prop
/-- what is wanted behind a statement -/
structure Ends where
  nx : St → Hp → Prop
  rt : VK
  bk : St → Hp → Prop := fun _ _ => False
  ct : St → Hp → Prop := fun _ _ => False
abbrev TS := Ends → St → Hp → Prop

def EP (X : Cx) (pins : List (Addr × Obj)) (σ : St) (Q : VK) (u : Value) (s' : Shared) : Prop := ∃ v H', Inv X pins σ H' s' ∧ RelV v u ∧ Q v H'
def TP (X : Cx) (pins : List (Addr × Obj)) (σ : St) (Q : Bool → Hp → Prop) (b : Bool) (s' : Shared) : Prop := ∃ H', Inv X pins σ H' s' ∧ Q b H'
def AP (X : Cx) (pins : List (Addr × Obj)) (σ : St) (Q : List V → Hp → Prop) (us : List Value) (s' : Shared) : Prop := ∃ vs H', Inv X pins σ H' s' ∧ Vals vs us ∧ Q vs H'
def SP (X : Cx) (pins : List (Addr × Obj)) (D : Ends) (f : Flow) (s' : Shared) : Prop :=
  match f with
  | .next => ∃ σ' H', Inv X pins σ' H' s' ∧ D.nx σ' H'
  | .brk => ∃ σ' H', Inv X pins σ' H' s' ∧ D.bk σ' H'
  | .cont => ∃ σ' H', Inv X pins σ' H' s' ∧ D.ct σ' H'
  | .ret u => ∃ v σ' H', Inv X pins σ' H' s' ∧ RelV v u ∧ D.rt v H'

def PE (X : Cx) (e : Expr) (t : TE) : Prop :=
  ∀ (pins : List (Addr × Obj)) (s : Shared) (σ : St) (H : Hp) (Q : VK), Inv X pins σ H s → t σ H Q → wpAny (model X.prog X.w) X.A (eval e X.env) (EP X pins σ Q) X.xe s
def PT (X : Cx) (e : Expr) (t : TT) : Prop :=
  ∀ (pins : List (Addr × Obj)) (s : Shared) (σ : St) (H : Hp) (Q : Bool → Hp → Prop), Inv X pins σ H s → t σ H Q → wpAny (model X.prog X.w) X.A (isTrue e X.env (eval e X.env)) (TP X pins σ Q) X.xe s
/-- a test whatever its 'whole' is (and, or) -/
def PW (X : Cx) (e : Expr) (t : TT) : Prop :=
  ∀ (whole : Sem Value) (pins : List (Addr × Obj)) (s : Shared) (σ : St) (H : Hp) (Q : Bool → Hp → Prop), Inv X pins σ H s → t σ H Q → wpAny (model X.prog X.w) X.A (isTrue e X.env whole) (TP X pins σ Q) X.xe s
theorem PW.pt {X : Cx} {e : Expr} {t : TT} (h : PW X e t) : PT X e t := h _
/-- an argument list (no star), from the left -/
def PA (X : Cx) (es : List Expr) (t : TA) : Prop :=
  ∀ (pos : Pos) (pins : List (Addr × Obj)) (s : Shared) (σ : St) (H : Hp) (Q : List V → Hp → Prop), Inv X pins σ H s → t σ H Q → wpAny (model X.prog X.w) X.A (spliced (backTo pos (starEach es X.env))) (AP X pins σ Q) X.xe s
def PS (X : Cx) (st : Stmt) (t : TS) : Prop :=
  ∀ (pins : List (Addr × Obj)) (s : Shared) (σ : St) (H : Hp) (D : Ends), Inv X pins σ H s → t D σ H → wpAny (model X.prog X.w) X.A (exec st X.env) (SP X pins D) X.xe s
def PSs (X : Cx) (st : List Stmt) (t : TS) : Prop :=
  ∀ (pins : List (Addr × Obj)) (s : Shared) (σ : St) (H : Hp) (D : Ends), Inv X pins σ H s → t D σ H → wpAny (model X.prog X.w) X.A (execs st X.env) (SP X pins D) X.xe s
/-- weaken the end -/
theorem thn {α : Type} {t : Sem α} {Q Q' : α → Shared → Prop} {M : Model} {A : Around} {E : Value → Shared → Prop} {s : Shared} (h : wpAny M A t Q E s) (hQ : ∀ a s, Q a s → Q' a s) : wpAny M A t Q' E s := wpAny_mono h hQ fun _ _ x => x
end L2

namespace L2
open PySem PySem.Spec PyProof.Rows
section
variable {X : Cx}

/-- two expressions in a row -/
theorem bin {a b : Expr} {ta tb : TE} (ha : PE X a ta) (hb : PE X b tb) {pins : List (Addr × Obj)} {s : Shared} {σ : St} {H : Hp} {R : V → V → Hp → Prop} (I : Inv X pins σ H s) (h : ta σ H fun x H1 => tb σ H1 fun y H2 => R x y H2)
    {α : Type} {Q : α → Shared → Prop} {f : Value → Value → Sem α}
    (hf : ∀ v u s2 x y H2, Inv X pins σ H2 s2 → RelV x v → RelV y u → R x y H2 → wpAny (model X.prog X.w) X.A (f v u) Q X.xe s2) :
    wpAny (model X.prog X.w) X.A (eval a X.env) (fun v s₁ => wpAny (model X.prog X.w) X.A (eval b X.env) (fun u s₂ => wpAny (model X.prog X.w) X.A (f v u) Q X.xe s₂) X.xe s₁) X.xe s := by
  refine thn (ha pins s σ H _ I h) fun v s1 ⟨x, H1, I1, r1, q1⟩ => ?_
  refine thn (hb pins s1 σ H1 _ I1 q1) fun u s2 ⟨y, H2, I2, r2, q2⟩ => ?_
  exact hf v u s2 x y H2 I2 r1 r2 q2

/-! ### names and constants -/
def tVar (i : Nat) : TE := fun σ H Q => ∃ v, σ[i]? = some (some v) ∧ Q v H
def tC (v : V) : TE := fun _ H Q => Q v H
theorem pe_var {i : Nat} {x : Str} {pos : Pos} (hN : X.N[i]? = some x) (hv : Vis X.env.scope x) (hd : (x == ("__debug__" : Str)) = false := by decide) (hcd : (x == ("__classdict__" : Str)) = false := by decide) : PE X (.Name x pos) (tVar i) := by
  intro pins s σ H Q I h
  obtain ⟨v, e, h⟩ := h
  obtain ⟨m, hn, hl⟩ := I.loc
  obtain ⟨u, r, l⟩ := hl i x v hN e hv
  have fin : EP X pins σ Q u s := ⟨v, H, I, r, h⟩
  rcases l with ⟨hk, hm⟩ | ⟨hk, c, hc, hcell⟩
  · exact wpAny_Name (wpAny_loadName_local I.ok.kind hk hn hm fin) hd
  · rcases hk with hk | hk
    · exact wpAny_Name (wpAny_loadName_cell I.ok.kind hk hc hcell fin) hd
    · exact wpAny_Name (wpAny_loadName_free I.ok.kind hk hc hcell fin hcd) hd
theorem pe_int {i j pos} : PE X (.Constant (.int i) j pos) (tC (.int i)) := fun _ _ _ H _ I h => wpAny_Constant_int ⟨.int i, H, I.tok _, ⟨_, rfl⟩, h⟩
theorem pe_bl {b j pos} : PE X (.Constant (.bool b) j pos) (tC (.bl b)) := fun _ _ _ H _ I h => Constant_bool ⟨.bl b, H, I, rfl, h⟩
theorem pe_non {j pos} : PE X (.Constant .none j pos) (tC .non) := fun _ _ _ H _ I h => Constant_none ⟨.non, H, I, rfl, h⟩
theorem pe_str {x j pos} : PE X (.Constant (.str x) j pos) (tC (.str x)) := fun _ _ _ H _ I h => Calls.Constant_str ⟨.str x, H, I.tok _, ⟨_, rfl⟩, h⟩

/-- a global name of the def -/
def Gl (X : Cx) (x : Str) : Prop := X.env.kindOf x = some .globalImplicit
theorem ld_glob {E : Value → Shared → Prop} {pins : List (Addr × Obj)} {s : Shared} {σ : St} {H : Hp} {x : Str} {u : Value} {pos : Pos} {Q : Value → Shared → Prop} (I : Inv X pins σ H s) (hg : Gl X x) (hm : X.mg x = some u) (h : Q u s)
    (hd : (x == ("__debug__" : Str)) = false := by decide) : wpAny (model X.prog X.w) X.A (eval (.Name x pos) X.env) Q E s :=
  Calls.Name_function_global I.ok.kind hg (Calls.loadGlobal_global (by rw [I.ok.glob]; exact I.mod.glob.keeps I.bk) hm h) hd
theorem ld_blt {E : Value → Shared → Prop} {pins : List (Addr × Obj)} {s : Shared} {σ : St} {H : Hp} {x : Str} {u : Value} {pos : Pos} {Q : Value → Shared → Prop} (I : Inv X pins σ H s) (hg : Gl X x) (hm : X.mg x = none) (hv : bootBuiltins x = some u) (h : Q u s)
    (hn : x ≠ "__name__" := by decide) (hd : (x == ("__debug__" : Str)) = false := by decide) : wpAny (model X.prog X.w) X.A (eval (.Name x pos) X.env) Q E s := by
  obtain ⟨mb, h1, h2⟩ := I.mod.blt
  exact Calls.Name_function_global I.ok.kind hg (Calls.loadGlobal_builtin (by rw [I.ok.glob]; exact I.mod.glob.keeps I.bk) hm (by rw [I.ok.blt]; exact h1.keeps I.bk) ((h2 x hn).trans hv) h) hd
/-- a module's constant, a class, a function, as a value -/
theorem pe_glob {x : Str} {v : V} {u : Value} {pos : Pos} (hg : Gl X x) (hm : X.mg x = some u) (r : RelV v u) (hd : (x == ("__debug__" : Str)) = false := by decide) : PE X (.Name x pos) (tC v) :=
  fun _ _ _ H _ I h => ld_glob I hg hm ⟨v, H, I, r, h⟩ hd
theorem pe_bltn {x : Str} {v : V} {u : Value} {pos : Pos} (hg : Gl X x) (hm : X.mg x = none) (hv : bootBuiltins x = some u) (r : RelV v u) (hn : x ≠ "__name__" := by decide) (hd : (x == ("__debug__" : Str)) = false := by decide) : PE X (.Name x pos) (tC v) :=
  fun _ _ _ H _ I h => ld_blt I hg hm hv ⟨v, H, I, r, h⟩ hn hd

/-! ### arithmetic -/
variable {a b : Expr} {ta tb : TE} {pos : Pos}
/-! ### comparisons -/
/-- a comparison as a value, as a test -/
def tB (t : TE) : TT := fun σ H Q => t σ H fun x H1 => ∃ c, x = .bl c ∧ Q c H1
/-! ### and, or, not -/
variable {tA tB' : TT} {rest : List Expr}
def tAnd (t u : TT) : TT := fun σ H Q => t σ H fun c H1 => if c = true then u σ H1 Q else Q false H1
def tOr (t u : TT) : TT := fun σ H Q => t σ H fun c H1 => if c = true then Q true H1 else u σ H1 Q
def tNot (t : TT) : TT := fun σ H Q => t σ H fun c H1 => Q (!c) H1
theorem pw_and1 (ha : PT X a tA) : PW X (.BoolOp .And [a] pos) tA := by
  intro wh pins s σ H Q I h
  refine isTrue_and (thn (ha pins s σ H Q I h) fun c s1 e => ?_)
  cases c with
  | true => exact isTrue_and_nil e
  | false => exact e
theorem pw_or1 (ha : PT X a tA) : PW X (.BoolOp .Or [a] pos) tA := by
  intro wh pins s σ H Q I h
  refine isTrue_or (thn (ha pins s σ H Q I h) fun c s1 e => ?_)
  cases c with
  | false => exact isTrue_or_nil e
  | true => exact e
theorem pw_and (ha : PT X a tA) (hb : PW X (.BoolOp .And (b :: rest) pos) tB') : PW X (.BoolOp .And (a :: b :: rest) pos) (tAnd tA tB') := by
  intro wh pins s σ H Q I h
  refine isTrue_and (thn (ha pins s σ H _ I h) fun c s1 ⟨H1, I1, q1⟩ => ?_)
  cases c with
  | true => exact hb wh pins s1 σ H1 Q I1 q1
  | false => exact ⟨H1, I1, q1⟩
theorem pw_or (ha : PT X a tA) (hb : PW X (.BoolOp .Or (b :: rest) pos) tB') : PW X (.BoolOp .Or (a :: b :: rest) pos) (tOr tA tB') := by
  intro wh pins s σ H Q I h
  refine isTrue_or (thn (ha pins s σ H _ I h) fun c s1 ⟨H1, I1, q1⟩ => ?_)
  cases c with
  | true => exact ⟨H1, I1, q1⟩
  | false => exact hb wh pins s1 σ H1 Q I1 q1
theorem pt_not (ha : PT X a tA) : PT X (.UnaryOp .Not a pos) (tNot tA) := by
  intro pins s σ H Q I h
  exact isTrue_not (ha pins s σ H (fun c H1 => Q (!c) H1) I h)
/-- .. as values (bools) -/
def tAndV (ta tb : TE) : TE := fun σ H Q => ta σ H fun x H1 => ∃ c, x = .bl c ∧ if c = true then tb σ H1 Q else Q (.bl false) H1
def tOrV (ta tb : TE) : TE := fun σ H Q => ta σ H fun x H1 => ∃ c, x = .bl c ∧ if c = true then Q (.bl true) H1 else tb σ H1 Q
def tNotV (ta : TE) : TE := fun σ H Q => ta σ H fun x H1 => ∃ c, x = .bl c ∧ Q (.bl (!c)) H1
theorem pe_one {op} {t : TE} (h : PE X a t) : PE X (.BoolOp op [a] pos) t := fun pins s σ H Q I hw => BoolOp_one (h pins s σ H Q I hw)
theorem pe_and (ha : PE X a ta) (hb : PE X (.BoolOp .And (b :: rest) pos) tb) : PE X (.BoolOp .And (a :: b :: rest) pos) (tAndV ta tb) := by
  intro pins s σ H Q I h
  refine BoolOp_and (thn (ha pins s σ H _ I h) fun v s1 ⟨x, H1, I1, r1, q1⟩ => ?_)
  obtain ⟨c, rfl, q1⟩ := q1
  cases r1
  refine wpAny_truthy_bool ?_
  cases c with
  | true => exact hb pins s1 σ H1 Q I1 q1
  | false => exact ⟨.bl false, H1, I1, rfl, q1⟩
theorem pe_not (ha : PE X a ta) : PE X (.UnaryOp .Not a pos) (tNotV ta) := by
  intro pins s σ H Q I h
  refine UnaryOp_ (thn (ha pins s σ H _ I h) fun v s1 ⟨x, H1, I1, r1, q1⟩ => ?_)
  obtain ⟨c, rfl, q1⟩ := q1
  cases r1
  exact not_of (wpAny_truthy_bool ⟨.bl (!c), H1, I1, rfl, q1⟩)
/-- a if t else b -/
def tIf (t : TT) (ta tb : TE) : TE := fun σ H Q => t σ H fun c H1 => if c = true then ta σ H1 Q else tb σ H1 Q
theorem pe_ifExp {c : Expr} (hc : PT X c tA) (ha : PE X a ta) (hb : PE X b tb) : PE X (.IfExp c a b pos) (tIf tA ta tb) := by
  intro pins s σ H Q I h
  refine wpAny_IfExp (thn (hc pins s σ H _ I h) fun d s1 ⟨H1, I1, q1⟩ => ?_)
  cases d with
  | true => exact ha pins s1 σ H1 Q I1 q1
  | false => exact hb pins s1 σ H1 Q I1 q1
end
end L2

namespace L2
open PySem PySem.Spec PyProof.Rows

/-! ### a list, a tuple that is read: tracked, frozen, or an object of the module -/
def SqL (K : PySem.W.Frag) (H : Hp) (a : Addr) (xs : List V) : Prop :=
  Rd H a (.lst xs) ∨
    ∃ (o : Obj) (its : Array Value) (n : Nat), K.lookup a = some o ∧ o.cls = .type "list" ∧ o.dict = none ∧ o.data = .seq its n ∧ its.size ≤ sizeLine ∧ Vals xs its.toList
def SqT (K : PySem.W.Frag) (H : Hp) (a : Addr) (xs : List V) : Prop :=
  Rd H a (.tup xs) ∨
    ∃ (o : Obj) (its : Array Value) (n : Nat), K.lookup a = some o ∧ o.cls = .type "tuple" ∧ o.data = .seq its n ∧ its.size ≤ sizeLine ∧ Vals xs its.toList
def absV : Value → Option V
  | .none => some .non
  | .bool b => some (.bl b)
  | .int i _ => some (.int i)
  | .str x _ => some (.str x)
  | .bytes b _ => some (.byt b)
  | .float b _ => some (.flt b)
  | .ref a => some (.ref a)
  | .type n => some (.ty n)
  | _ => none
theorem RelV.abs {x : V} {u : Value} (r : RelV x u) : absV u = some x := by
  cases x with
  | non => cases r; rfl
  | bl _ => cases r; rfl
  | int _ => obtain ⟨t, rfl⟩ := r; rfl
  | str _ => obtain ⟨t, rfl⟩ := r; rfl
  | byt _ => obtain ⟨t, rfl⟩ := r; rfl
  | flt _ => obtain ⟨t, rfl⟩ := r; rfl
  | ref _ => cases r; rfl
  | ty _ => cases r; rfl
theorem RelV.inj {x y : V} {u : Value} (r : RelV x u) (q : RelV y u) : x = y := Option.some.inj (r.abs.symm.trans q.abs)
theorem Vals.inj : ∀ {xs ys : List V} {us : List Value}, Vals xs us → Vals ys us → xs = ys
  | _, _, _, .nil, .nil => rfl
  | _, _, _, .cons r t, .cons r' t' => by rw [r.inj r', Vals.inj t t']
section
variable {X : Cx} {pins : List (Addr × Obj)} {σ : St} {H : Hp} {s : Shared} {a : Addr} {xs ys : List V}
theorem SqL.of {K : PySem.W.Frag} (h : H a = some (.lst xs)) : SqL K H a xs := .inl (.inl h)
theorem SqT.of {K : PySem.W.Frag} (h : H a = some (.tup xs)) : SqT K H a xs := .inl (.inl h)
theorem Inv.list (I : Inv X pins σ H s) (h : SqL X.K H a xs) : ∃ its : List Value, Vals xs its ∧ PlainL s.heap a its.toArray ∧ xs.length ≤ sizeLine := by
  rcases h with h | ⟨o, its, n, hk, hc, hd, hs, hz, r⟩
  · obtain ⟨z, its, n, r, e⟩ := h.ok I.hok
    exact ⟨its, r, ⟨_, n, e, rfl, rfl, rfl⟩, z⟩
  · refine ⟨its.toList, r, ⟨o, n, I.kIn a o hk, hc, hd, by simpa using hs⟩, ?_⟩
    have e := r.length
    simp only [Array.length_toList] at e
    omega
theorem Inv.tuple (I : Inv X pins σ H s) (h : SqT X.K H a xs) : ∃ its : List Value, Vals xs its ∧ IsTup s.heap a its.toArray ∧ xs.length ≤ sizeLine := by
  rcases h with h | ⟨o, its, n, hk, hc, hs, hz, r⟩
  · obtain ⟨z, its, r, p⟩ := h.ok I.hok
    exact ⟨its, r, p, z⟩
  · refine ⟨its.toList, r, ⟨o, I.kIn a o hk, hc, n, by simpa using hs⟩, ?_⟩
    have e := r.length
    simp only [Array.length_toList] at e
    omega
theorem Inv.list_inj (I : Inv X pins σ H s) (h : SqL X.K H a xs) (h' : SqL X.K H a ys) : xs = ys := by
  obtain ⟨its, r, ⟨o, n, e, _, _, d⟩, _⟩ := I.list h
  obtain ⟨its', r', ⟨o', n', e', _, _, d'⟩, _⟩ := I.list h'
  rw [e] at e'; cases e'
  rw [d] at d'
  injection d' with d1 _
  have : its = its' := by simpa using congrArg Array.toList d1
  subst this
  exact r.inj r'
end

/-! ### another wish about exceptions -/
abbrev Cx.wish (X : Cx) (E : Value → Shared → Prop) : Cx := { X with xe := E }
/-- no exception leaves -/
abbrev Cx.nox (X : Cx) : Cx := X.wish fun _ _ => False
theorem Cx.Ok.wish {X : Cx} (ok : X.Ok) (E : Value → Shared → Prop) : (X.wish E).Ok :=
  ⟨ok.mod, ok.kind, ok.glob, ok.blt, ok.above, ok.inj, ok.has, ok.cab, ok.hd, ok.frames, ok.stk, ok.exf, ok.bs, ok.bsz, ok.noex, ok.exfs, ok.funs, ok.frf⟩
theorem Cx.Ok.unwish {X : Cx} {E : Value → Shared → Prop} (ok : (X.wish E).Ok) : X.Ok :=
  ⟨ok.mod, ok.kind, ok.glob, ok.blt, ok.above, ok.inj, ok.has, ok.cab, ok.hd, ok.frames, ok.stk, ok.exf, ok.bs, ok.bsz, ok.noex, ok.exfs, ok.funs, ok.frf⟩
section
variable {X : Cx} {pins : List (Addr × Obj)} {σ : St} {H : Hp} {s : Shared} {E : Value → Shared → Prop}
theorem Inv.wish (I : Inv X pins σ H s) (E : Value → Shared → Prop) : Inv (X.wish E) pins σ H s := ⟨I.ok.wish E, I.os, I.bare, I.base, I.loc, I.cell, I.free, I.freeC, I.pin, I.hok, I.len, I.hdk⟩
theorem Inv.unwish (I : Inv (X.wish E) pins σ H s) : Inv X pins σ H s := ⟨I.ok.unwish, I.os, I.bare, I.base, I.loc, I.cell, I.free, I.freeC, I.pin, I.hok, I.len, I.hdk⟩
theorem SP.unwish {D : Ends} {f : Flow} {s' : Shared} (h : SP (X.wish E) pins D f s') : SP X pins D f s' := by
  cases f with
  | next => obtain ⟨σ', H', I, q⟩ := h; exact ⟨σ', H', I.unwish, q⟩
  | brk => obtain ⟨σ', H', I, q⟩ := h; exact ⟨σ', H', I.unwish, q⟩
  | cont => obtain ⟨σ', H', I, q⟩ := h; exact ⟨σ', H', I.unwish, q⟩
  | ret u => obtain ⟨v, σ', H', I, r, q⟩ := h; exact ⟨v, σ', H', I.unwish, r, q⟩
theorem PE.nox {e : Expr} {t : TE} (h : PE X.nox e t) : PE X e t := fun pins s σ H Q I hw =>
  wpAny_mono (h pins s σ H Q (I.wish _) hw) (fun _ _ ⟨v, H', I', r, q⟩ => ⟨v, H', I'.unwish, r, q⟩) fun _ _ z => False.elim z
theorem PT.nox {e : Expr} {t : TT} (h : PT X.nox e t) : PT X e t := fun pins s σ H Q I hw =>
  wpAny_mono (h pins s σ H Q (I.wish _) hw) (fun _ _ ⟨H', I', q⟩ => ⟨H', I'.unwish, q⟩) fun _ _ z => False.elim z
theorem PSs.nox {st : List Stmt} {t : TS} (h : PSs X.nox st t) : PSs X st t := fun pins s σ H D I hw =>
  wpAny_mono (h pins s σ H D (I.wish _) hw) (fun _ _ q => q.unwish) fun _ _ z => False.elim z
end

/-! ### blocks and small statements -/
section
variable {X : Cx} {st : Stmt} {rest : List Stmt} {t u : TS} {e : Expr} {te : TE} {pos : Pos}
def tNext : TS := fun D σ H => D.nx σ H
def tSeq (t u : TS) : TS := fun D σ H => t { D with nx := u D } σ H
theorem pss_nil : PSs X [] tNext := fun _ _ σ H _ I h => wpAny_execs_nil ⟨σ, H, I, h⟩
theorem pss_cons (h1 : PS X st t) (h2 : PSs X rest u) : PSs X (st :: rest) (tSeq t u) := by
  intro pins s σ H D I h
  refine wpAny_execs_cons (thn (h1 pins s σ H { D with nx := u D } I h) fun f s1 q => ?_)
  cases f with
  | next =>
    obtain ⟨σ', H', I', q⟩ := q
    exact h2 pins s1 σ' H' D I' q
  | ret v => exact q
  | brk => exact q
  | cont => exact q
theorem pss_one (h1 : PS X st t) : PSs X [st] t := by
  intro pins s σ H D I h
  refine wpAny_execs_cons (thn (h1 pins s σ H D I h) fun f s1 q => ?_)
  cases f with
  | next => exact wpAny_execs_nil q
  | ret v => exact q
  | brk => exact q
  | cont => exact q
def tBreak : TS := fun D σ H => D.bk σ H
def tCont : TS := fun D σ H => D.ct σ H
/-- in a def's body nothing is shown -/
theorem Inv.quiet {pins : List (Addr × Obj)} {σ : St} {H : Hp} {s : Shared} (I : Inv X pins σ H s) : interactive X.env = false := by simp [interactive, I.ok.kind]
/-- an expression whose value is dropped -/
def tDrop (te : TE) : TS := fun D σ H => te σ H fun _ H1 => D.nx σ H1
theorem ps_expr (he : PE X e te) (hs : swapsWith e none pos.line X.env = pure false := by rfl) : PS X (.Expr e pos) (tDrop te) := by
  intro pins s σ H D I h
  exact wpAny_Expr_any (thn (he pins s σ H _ I h) fun v s1 ⟨x, H1, I1, r1, q1⟩ => ⟨σ, H1, I1, q1⟩) I.quiet hs
def tRet (te : TE) : TS := fun D σ H => te σ H D.rt
theorem ps_ret (he : PE X e te) : PS X (.Return (some e) pos) (tRet te) := by
  intro pins s σ H D I h
  exact wpAny_Return_some (thn (he pins s σ H _ I h) fun v s1 ⟨x, H1, I1, r1, q1⟩ => ⟨x, σ, H1, I1, r1, q1⟩)
def tRetN : TS := fun D _ H => D.rt .non H
def tIfS (c : TT) (t u : TS) : TS := fun D σ H => c σ H fun b H1 => if b = true then t D σ H1 else u D σ H1
theorem ps_if {c : Expr} {a b : List Stmt} {tc : TT} (hc : PT X c tc) (ha : PSs X a t) (hb : PSs X b u) : PS X (.If c a b pos) (tIfS tc t u) := by
  intro pins s σ H D I h
  refine wpAny_If (thn (hc pins s σ H _ I h) fun d s1 ⟨H1, I1, q1⟩ => ?_)
  cases d with
  | true => exact ha pins s1 σ H1 D I1 q1
  | false => exact hb pins s1 σ H1 D I1 q1
end

/-! ### targets -/
abbrev TG := V → St → Hp → (St → Hp → Prop) → Prop
abbrev TGs := List V → St → Hp → (St → Hp → Prop) → Prop
def PG (X : Cx) (target : Expr) (t : TG) : Prop :=
  ∀ (pins : List (Addr × Obj)) (s : Shared) (σ : St) (H : Hp) (v : V) (u : Value) (Q : St → Hp → Prop), Inv X pins σ H s → RelV v u → t v σ H Q →
    wpAny (model X.prog X.w) X.A (assign target X.env u) (fun _ s' => ∃ σ' H', Inv X pins σ' H' s' ∧ Q σ' H') X.xe s
/-- several targets, one after another -/
def PGs (X : Cx) (ts : List Expr) (t : TGs) : Prop :=
  ∀ (pins : List (Addr × Obj)) (s : Shared) (σ : St) (H : Hp) (vs : List V) (us : List Value) (Q : St → Hp → Prop), Inv X pins σ H s → Vals vs us → t vs σ H Q →
    wpAny (model X.prog X.w) X.A (assignInOrder ((assignEach ts X.env).map (·.2)) us) (fun _ s' => ∃ σ' H', Inv X pins σ' H' s' ∧ Q σ' H') X.xe s
/-- o[i] = v, by values -/
abbrev TSet := V → V → V → Hp → (Hp → Prop) → Prop
def PSet (X : Cx) (t : TSet) : Prop :=
  ∀ (pins : List (Addr × Obj)) (s : Shared) (σ : St) (H : Hp) (o i v : V) (ov iv u : Value) (Q : Hp → Prop), Inv X pins σ H s → RelV o ov → RelV i iv → RelV v u → t o i v H Q →
    wpAny (model X.prog X.w) X.A (setItem ov iv u) (fun _ s' => ∃ H', Inv X pins σ H' s' ∧ Q H') X.xe s
/-- a op= b, by values -/
abbrev TIp := V → V → Hp → VK → Prop
section
variable {X : Cx} {pos : Pos}
def gName (i : Nat) : TG := fun v σ H Q => Q (σ.set i (some v)) H
theorem pg_name {i : Nat} {x : Str} (hN : X.N.Nodup) (hi : X.N[i]? = some x) (hx : Loc X.env.scope x) (hf : X.fn x = true ∨ X.env.scope.names.lookup x = some .local := by first | exact .inl rfl | exact .inr rfl | assumption) : PG X (.Name x pos) (gName i) := by
  intro pins s σ H v u Q I r h
  exact wpAny_assign_Name (store_ok I hN hi hx r (fun s' I' => ⟨_, H, I', h⟩) hf)
def gNil : TGs := fun vs σ H Q => vs = [] ∧ Q σ H
def gCons (t : TG) (u : TGs) : TGs := fun vs σ H Q => ∃ v r, vs = v :: r ∧ t v σ H fun σ' H' => u r σ' H' Q
theorem pgs_nil : PGs X [] gNil := by
  intro pins s σ H vs us Q I r h
  obtain ⟨e, h⟩ := h
  subst e
  cases r
  exact assignInOrder_nil ⟨σ, H, I, h⟩
theorem pgs_cons {e : Expr} {es : List Expr} {t : TG} {u : TGs} (h1 : PG X e t) (h2 : PGs X es u)
    (hs : (assignEach (e :: es) X.env).map (·.2) = assign e X.env :: (assignEach es X.env).map (·.2) := by rfl) : PGs X (e :: es) (gCons t u) := by
  intro pins s σ H vs us Q I r h
  obtain ⟨v, vr, e1, h⟩ := h
  subst e1
  cases r with
  | cons r rr =>
    rw [hs]
    refine assignInOrder_cons (thn (h1 pins s σ H _ _ _ I r h) fun _ s1 ⟨σ1, H1, I1, q1⟩ => ?_)
    exact h2 pins s1 σ1 H1 _ _ Q I1 rr q1
/-- (a, b, ..) = a tuple of that length -/
def gTup (K : PySem.W.Frag) (n : Nat) (t : TGs) : TG := fun v σ H Q => ∃ a xs, v = .ref a ∧ SqT K H a xs ∧ xs.length = n ∧ t xs σ H Q
/-- o[i] = .. -/
def gSub (to ti : TE) (t : TSet) : TG := fun v σ H Q => to σ H fun o H1 => ti σ H1 fun i H2 => t o i v H2 fun H3 => Q σ H3
theorem pg_sub {o i : Expr} {to ti : TE} {t : TSet} (ho : PE X o to) (hi : PE X i ti) (hs : PSet X t)
    (ha : ∀ v, assign (.Subscript o i pos) X.env v = (do
      let ov ← holding [v] (eval o X.env)
      let iv ← holding [v, ov] (eval i X.env)
      standAt pos
      holding [v, ov, iv] (setItem ov iv v)
      release [v, ov, iv] []) := by intro _; rfl) : PG X (.Subscript o i pos) (gSub to ti t) := by
  intro pins s σ H v u Q I r h
  rw [ha]
  refine wpAny_bind (wpAny_holding (thn (ho pins s σ H _ I h) fun ov s1 ⟨x, H1, I1, r1, q1⟩ => ?_))
  refine wpAny_bind (wpAny_holding (thn (hi pins s1 σ H1 _ I1 q1) fun iv s2 ⟨y, H2, I2, r2, q2⟩ => ?_))
  refine wpAny_bind (wpAny_standAt (wpAny_bind (wpAny_holding (thn (hs pins s2 σ H2 x y v ov iv u _ I2 r1 r2 r q2) fun _ s3 ⟨H3, I3, q3⟩ => ?_))))
  exact wpAny_release ⟨σ, H3, I3, q3⟩
/-- target = value -/
def tAsg (te : TE) (g : TG) : TS := fun D σ H => te σ H fun x H1 => g x σ H1 D.nx
theorem ps_asg {tg e : Expr} {te : TE} {g : TG} (he : PE X e te) (hg : PG X tg g) (hs : swapsWithSole [tg] e pos.line X.env = pure false := by rfl) (hw : swappedStores [tg] e X.env = pure none := by rfl)
    (h1 : (assignEach [tg] X.env).map (·.2) = [assign tg X.env] := by rfl) : PS X (.Assign [tg] e pos) (tAsg te g) := by
  intro pins s σ H D I h
  refine wpAny_Assign_stores (thn (he pins s σ H _ I h) fun v s1 ⟨x, H1, I1, r1, q1⟩ => ?_) hs hw
  rw [h1]
  exact thn (hg pins s1 σ H1 x v _ I1 r1 q1) fun _ s2 q => q
/-- name = value -/
theorem ps_set {i : Nat} {x : Str} {e : Expr} {te : TE} {pos' : Pos} (hN : X.N.Nodup) (hi : X.N[i]? = some x) (hx : Loc X.env.scope x) (he : PE X e te) (hs : swapsWith e (some (.Name x pos')) pos.line X.env = pure false := by rfl) (hf : X.fn x = true ∨ X.env.scope.names.lookup x = some .local := by first | exact .inl rfl | exact .inr rfl | assumption) :
    PS X (.Assign [.Name x pos'] e pos) (tAsg te (gName i)) := by
  intro pins s σ H D I h
  refine wpAny_Assign_Name (thn (he pins s σ H _ I h) fun v s1 ⟨y, H1, I1, r1, q1⟩ => ?_) hs
  exact store_ok I1 hN hi hx r1 (fun s2 I2 => ⟨_, H1, I2, q1⟩) hf
/-- name op= e -/
def tAug (i : Nat) (te : TE) (ti : TIp) : TS := fun D σ H => ∃ x, σ[i]? = some (some x) ∧ te σ H fun y H1 => ti x y H1 fun z H2 => D.nx (σ.set i (some z)) H2
/-- ints -/
def ipI (f : Int → Int → Int) : TIp := fun x y H Q => ∃ i j, x = .int i ∧ y = .int j ∧ Q (.int (f i j)) H
end

/-! ### while -/
section
variable {X : Cx} {pos : Pos}
end

/-! ### what a loop or a comprehension walks -/
/-- at turn i: it yields x (the heap may grow), or it stops -/
structure It where
  go : Nat → Hp → Prop
  yld : Nat → Hp → V → Hp → Prop
  stop : Nat → Hp → Prop
/-- the iterator's own objects may turn: they are not the frame's, not pinned, younger than the entry (or a comprehension's own) -/
def FpOk (X : Cx) (pins : List (Addr × Obj)) (H : Hp) (b : Addr) : Prop :=
  H b = none ∧ b ≠ X.env.locals ∧ b ∉ X.fs ∧ (b ∈ X.ex ∨ X.s₀.heap.objs.size ≤ b) ∧ (∀ x c, X.env.cells.lookup x = some c → c ≠ b) ∧ ∀ p ∈ X.pn ++ pins, p.1 ≠ b
theorem Inv.fpOk {X : Cx} {pins : List (Addr × Obj)} {σ : St} {H H' : Hp} {s : Shared} {b : Addr} (I : Inv X pins σ H s) (hb : s.heap.objs.size ≤ b) (hn : H' b = none) : FpOk X pins H' b := by
  refine ⟨hn, Nat.ne_of_gt (Nat.lt_of_lt_of_le I.lt hb), I.nofs hb, .inr (Nat.le_trans I.sz hb), fun x c e z => ?_, fun p hp z => ?_⟩
  · obtain ⟨v, q⟩ := I.cell x c e
    exact absurd (Nat.lt_of_lt_of_le q.lt (by rw [z]; exact hb)) (Nat.lt_irrefl _)
  · exact absurd (Nat.lt_of_lt_of_le (Heap.lt_size (I.pin p hp).1) (by rw [z]; exact hb)) (Nat.lt_irrefl _)
structure Turn (c : Bool) (P : Program) (w : World) (K : PySem.W.Frag) (tg : Expr) (J : It) (fp : List Addr) (it : Addr) (tn : Nat → Heap → Prop) : Prop where
  mem : it ∈ fp
  obj : ∀ i h, tn i h → ∀ b ∈ fp, ∃ o, h.get? b = some o ∧ ∀ v, o.data ≠ .cell v
  keep : ∀ i h h', tn i h → (∀ b ∈ fp, ∀ o, h.get? b = some o → h'.get? b = some o) → tn i h'
  item : ∀ (X : Cx), X.prog = P → X.w = w → X.K = K → (c = true → X.calm = true) → ∀ (i : Nat) (pins : List (Addr × Obj)) (s : Shared) (σ : St) (H : Hp) (E : Value → Shared → Prop), Inv X pins σ H s → (∀ b ∈ fp, FpOk X pins H b) → tn i s.heap → J.go i H →
    wpAny (model P w) X.A (pyNext (.ref it)) (fun r s1 => ∃ u, r = some u ∧
      wpAny (model P w) X.A (letOwnedTupleGo tg (.ref it) u) (fun _ s2 => ∃ x H', Inv X pins σ H' s2 ∧ RelV x u ∧ J.yld i H x H' ∧ tn (i + 1) s2.heap ∧ ∀ b ∈ fp, H' b = none) E s1) E s
  done : ∀ (X : Cx), X.prog = P → X.w = w → X.K = K → (c = true → X.calm = true) → ∀ (i : Nat) (pins : List (Addr × Obj)) (s : Shared) (σ : St) (H : Hp) (E : Value → Shared → Prop), Inv X pins σ H s → (∀ b ∈ fp, FpOk X pins H b) → tn i s.heap → J.stop i H →
    wpAny (model P w) X.A (pyNext (.ref it)) (fun r s1 => r = none ∧ Inv X pins σ H s1) E s
  self : ∀ (A : Around) (i : Nat) (s : Shared) (Q : Value → Shared → Prop) (E : Value → Shared → Prop), tn i s.heap → Q (.ref it) s → wpAny (model P w) A (pyIter (.ref it)) Q E s
abbrev TI := St → Hp → (It → Hp → Prop) → Prop
/-- an iterator has come -/
def PIE (c : Bool) (X : Cx) (pins : List (Addr × Obj)) (σ : St) (tg : Expr) (R : It → Hp → Prop) (itv : Value) (s2 : Shared) : Prop :=
  ∃ (it : Addr) (fp : List Addr) (tn : Nat → Heap → Prop) (J : It) (H' : Hp), itv = .ref it ∧ Inv X pins σ H' s2 ∧ Turn c X.prog X.w X.K tg J fp it tn ∧ tn 0 s2.heap ∧ (∀ b ∈ fp, FpOk X pins H' b) ∧ R J H'
def PIc (c : Bool) (X : Cx) (tg iter : Expr) (wi : TI) : Prop :=
  ∀ (pins : List (Addr × Obj)) (s : Shared) (σ : St) (H : Hp) (R : It → Hp → Prop), Inv X pins σ H s → wi σ H R →
    wpAny (model X.prog X.w) X.A (eval iter X.env) (fun v s1 => wpAny (model X.prog X.w) X.A (pyIter v) (PIE c X pins σ tg R) X.xe s1) X.xe s
abbrev PI := PIc true

/-- the step ahead of the store is nothing for an iterator that keeps no tuple -/
theorem go_of {M : Model} {A : Around} {E : Value → Shared → Prop} {s : Shared} {tg : Expr} {it : Addr} {u : Value} {o : Obj} {n : String} {vs : Array Value} {Q : Unit → Shared → Prop} (ho : s.heap.get? it = some o) (hc : o.cls = .type n) (hd : o.data = .fields vs)
    (hn : ["enumerate", "zip", "dict_itemiterator", "dict_reverseitemiterator", "odict_iterator", "itertools.zip_longest", "itertools.pairwise"].contains n = false) (hQ : Q () s) : wpAny M A (letOwnedTupleGo tg (.ref it) u) Q E s := by
  unfold letOwnedTupleGo
  cases tg <;> first
    | exact wpAny_pure hQ
    | (cases u <;> first
        | exact wpAny_pure hQ
        | (refine wpAny_bind (wpAny_load ho ?_)
           rw [hc, hd]
           show wpAny M A (if (["enumerate", "zip", "dict_itemiterator", "dict_reverseitemiterator", "odict_iterator", "itertools.zip_longest", "itertools.pairwise"].contains n && vs[0]? == some (rawInt _)) = true then _ else _) Q E s
           rw [if_neg (by intro h; rw [hn, Bool.false_and] at h; cases h)]
           exact wpAny_pure hQ))

/-- the list at a, as it stands at each turn (a loop may append to it) -/
def Itl (K : PySem.W.Frag) (a : Addr) : It :=
  ⟨fun i H => ∃ xs x, SqL K H a xs ∧ xs[i]? = some x, fun i H x H' => H' = H ∧ ∀ xs, SqL K H a xs → xs[i]? = some x, fun i H => ∃ xs, SqL K H a xs ∧ xs.length ≤ i⟩
def Itt (K : PySem.W.Frag) (a : Addr) : It :=
  ⟨fun i H => ∃ xs x, SqT K H a xs ∧ xs[i]? = some x, fun i H x H' => H' = H ∧ ∀ xs, SqT K H a xs → xs[i]? = some x, fun i H => ∃ xs, SqT K H a xs ∧ xs.length ≤ i⟩
/-- lo, lo + 1, .. (n of them) -/
def Itr (lo : Int) (n : Nat) : It := ⟨fun i _ => i < n, fun i H x H' => H' = H ∧ x = .int (lo + i), fun i _ => n ≤ i⟩
theorem turn_list {P : Program} {w : World} {K : PySem.W.Frag} {tg : Expr} (a it : Addr) : Turn true P w K tg (Itl K a) [it] it (fun i h => h.IsListIter it a i) where
  mem := by simp
  obj := fun i h st b hb => by
    have e : b = it := by simpa using hb
    subst e
    obtain ⟨o, e, c, d⟩ := st
    exact ⟨o, e, fun v z => by rw [d] at z; cases z⟩
  keep := fun i h h' st k => st.at fun o e => k it (by simp) o e
  item := by
    intro X hP hw hK hc i pins s σ H E I hf st hg
    subst hP hw hK
    obtain ⟨xs, x, hq, hx⟩ := hg
    obtain ⟨its, rv, p, hz⟩ := I.list hq
    obtain ⟨u, hu, ru⟩ := rv.get hx
    obtain ⟨f0, f1, f2, f3, f4, f5⟩ := hf it (by simp)
    refine wpAny_pyNext_list_item st p.isList (x := u) (by simpa using hu) fun h' st' sb => ?_
    have I1 : Inv X pins σ H { s with heap := h' } := I.turned (t' := s.toks) (fun b o hb e => (sb.2 b hb).trans e) f0 f1 f3 f4 f5
    obtain ⟨o, e, c, d⟩ := id st'
    exact ⟨u, rfl, go_of (s := { s with heap := h' }) e c d (by decide) ⟨x, H, I1, ru, ⟨rfl, fun ys hy => by rw [I.list_inj hy hq]; exact hx⟩, st', fun b hb => (hf b hb).1⟩⟩
  done := by
    intro X hP hw hK hc i pins s σ H E I hf st hg
    subst hP hw hK
    obtain ⟨xs, hq, hx⟩ := hg
    obtain ⟨its, rv, p, hz⟩ := I.list hq
    obtain ⟨f0, f1, f2, f3, f4, f5⟩ := hf it (by simp)
    have hl := rv.length
    exact wpAny_pyNext_list_end (I.ok.hd (hc rfl)) st p.isList (by simp; omega) fun h' eb => ⟨rfl, I.turned (t' := s.toks) (fun b o hb e => eb b o hb e) f0 f1 f3 f4 f5⟩
  self := fun _ _ _ _ _ st h => wpAny_pyIter_listiter st h
theorem turn_range {P : Program} {w : World} {K : PySem.W.Frag} {tg : Expr} (it : Addr) (lo : Int) (n : Nat) : Turn true P w K tg (Itr lo n) [it] it (fun i h => IsRangeIter h it (lo + (i : Nat) * 1) ((n : Int) - (i : Nat)) 1) where
  mem := by simp
  obj := fun i h st b hb => by
    have e : b = it := by simpa using hb
    subst e
    exact ⟨_, st, fun v z => by
      have z' : Data.fields _ = Data.cell v := z
      cases z'⟩
  keep := fun i h h' st k => k it (by simp) _ st
  item := by
    intro X hP hw hK hc i pins s σ H E I hf st hg
    subst hP hw hK
    obtain ⟨f0, f1, f2, f3, f4, f5⟩ := hf it (by simp)
    have W := Walks.range (prog := X.prog) (w := X.w) (I.ok.hd (hc rfl)) it lo 1 n
    refine W.item i s _ _ hg st fun v h' tk hv st' kk => ?_
    obtain ⟨t, rfl⟩ := hv
    have I1 : Inv X pins σ H { s with heap := h', toks := tk } := I.turned (fun b o hb e => kk b o (by simpa using hb) e) f0 f1 f3 f4 f5
    refine ⟨_, rfl, go_of (s := { s with heap := h', toks := tk }) (n := "range_iterator") st' rfl rfl (by decide) ⟨.int (lo + i), H, I1, ⟨t, ?_⟩, ⟨rfl, rfl⟩, st', fun b hb => (hf b hb).1⟩⟩
    rw [Int.mul_one]
  done := by
    intro X hP hw hK hc i pins s σ H E I hf st hg
    subst hP hw hK
    obtain ⟨f0, f1, f2, f3, f4, f5⟩ := hf it (by simp)
    exact wpAny_pyNext_range_end (I.ok.hd (hc rfl)) st (by have : n ≤ i := hg; omega) fun h' eb => ⟨rfl, I.turned (t' := s.toks) (fun b o hb e => eb b o hb e) f0 f1 f3 f4 f5⟩
  self := fun _ _ _ _ _ st h => wpAny_pyIter_rangeiter st h
end L2

namespace L2
open PySem PySem.Spec PyProof.Rows
section
variable {X : Cx} {tg : Expr}
def iList (K : PySem.W.Frag) (tl : TE) : TI := fun σ H R => tl σ H fun x H1 => ∃ a, x = .ref a ∧ (∃ xs, SqL K H1 a xs) ∧ R (Itl K a) H1
def iTup (K : PySem.W.Frag) (tl : TE) : TI := fun σ H R => tl σ H fun x H1 => ∃ a, x = .ref a ∧ (∃ xs, SqT K H1 a xs) ∧ R (Itt K a) H1
theorem pi_list {l : Expr} {tl : TE} (hl : PE X l tl) : PI X tg l (iList X.K tl) := by
  intro pins s σ H R I h
  refine thn (hl pins s σ H _ I h) fun v s1 ⟨x, H1, I1, r1, q1⟩ => ?_
  obtain ⟨a, e, ⟨xs, hq⟩, q⟩ := q1
  subst e
  cases r1
  obtain ⟨its, rv, p, hz⟩ := I1.list hq
  refine wpAny_pyIter_list p.isList ?_
  refine ⟨s1.heap.objs.size, [s1.heap.objs.size], _, _, H1, rfl, I1.kept (t' := s1.toks) fun b o e => Heap.get?_push_of_some _ e, turn_list a _, ⟨_, Heap.get?_push_size _ rfl, rfl, rfl⟩, fun b hb => ?_, q⟩
  have e : b = s1.heap.objs.size := by simpa using hb
  subst e
  exact I1.fpOk (Nat.le_refl _) (I1.hok.fresh (Nat.le_refl _))
/-- a range object just made, walked -/
theorem range_it {pins : List (Addr × Obj)} {σ : St} {H : Hp} {s : Shared} {R : It → Hp → Prop} {E : Value → Shared → Prop} {lo hi : Int} {t u v : Tok} {tk : Nat} (I : Inv X pins σ H s) (h1 : -(2 ^ 62) ≤ lo) (h2 : lo < 2 ^ 62) (h3 : -(2 ^ 62) ≤ hi) (h4 : hi < 2 ^ 62)
    (q : R (Itr lo (hi - lo).toNat) H) : wpAny (model X.prog X.w) X.A (pyIter (.ref s.heap.objs.size)) (PIE true X pins σ tg R) E { s with heap := s.heap.push { cls := .type "range", data := .fields #[.int lo t, .int hi u, .int 1 v] }, toks := tk } := by
  refine wpAny_pyIter_range (IsRange.new ..) (small_one h1 h2 h3 h4) ?_
  have I1 : Inv X pins σ H { s with heap := s.heap.push { cls := .type "range", data := .fields #[.int lo t, .int hi u, .int 1 v] }, toks := tk } := I.kept fun b o e => Heap.get?_push_of_some _ e
  refine ⟨(s.heap.push { cls := .type "range", data := .fields #[.int lo t, .int hi u, .int 1 v] }).objs.size, [(s.heap.push { cls := .type "range", data := .fields #[.int lo t, .int hi u, .int 1 v] }).objs.size], _, _, H, rfl,
    I1.kept (t' := tk) fun b o e => Heap.get?_push_of_some _ e, turn_range _ lo (hi - lo).toNat, ?_, fun b hb => ?_, q⟩
  · have e1 : lo + ((0 : Nat) : Int) * 1 = lo := by simp
    have e2 : (((hi - lo).toNat : Nat) : Int) - ((0 : Nat) : Int) = Builtin.Range.rangeSize lo hi 1 := by rw [rangeSize_one]; split <;> omega
    show IsRangeIter _ _ (lo + ((0 : Nat) : Int) * 1) ((((hi - lo).toNat : Nat) : Int) - ((0 : Nat) : Int)) 1
    rw [e1, e2]
    exact Heap.get?_push_size _ rfl
  · have e : b = (s.heap.push { cls := .type "range", data := .fields #[.int lo t, .int hi u, .int 1 v] }).objs.size := by simpa using hb
    subst e
    exact I1.fpOk (Nat.le_refl _) (I1.hok.fresh (Nat.le_refl _))
def iRng1 (ta : TA) : TI := fun σ H R => ta σ H fun vs H1 => ∃ j : Int, vs = [.int j] ∧ -(2 ^ 62) ≤ j ∧ j < 2 ^ 62 ∧ R (Itr 0 j.toNat) H1
def iRng2 (ta : TA) : TI := fun σ H R => ta σ H fun vs H1 => ∃ i j : Int, vs = [.int i, .int j] ∧ (-(2 ^ 62) ≤ i ∧ i < 2 ^ 62 ∧ -(2 ^ 62) ≤ j ∧ j < 2 ^ 62) ∧ R (Itr i (j - i).toNat) H1
theorem pi_range1 {a : Expr} {ta : TA} {p pos : Pos} (hg : Gl X "range") (hm : X.mg "range" = none) (ha : PA X [a] ta) (hs : starEach [a] X.env = [(false, eval a X.env)] := by rfl) : PI X tg (.Call (.Name "range" p) [a] [] pos) (iRng1 ta) := by
  intro pins s σ H R I h
  refine Call_ (ld_blt I hg hm boot_range (PyProof.Rows.callWith_type1 (thn (ha pos pins s σ H _ I h) fun us s1 ⟨vs, H1, I1, r1, q1⟩ => ?_) hs rfl))
  obtain ⟨j, e, q1, q2, q⟩ := q1
  subst e
  cases r1 with
  | cons r rr =>
    cases rr
    obtain ⟨t, rfl⟩ := r
    exact call_range_1 (range_it I1 (by omega) (by omega) q1 q2 (by simpa using q))
theorem pi_range2 {a b : Expr} {ta : TA} {p pos : Pos} (hg : Gl X "range") (hm : X.mg "range" = none) (ha : PA X [a, b] ta) (hs : starEach [a, b] X.env = [(false, eval a X.env), (false, eval b X.env)] := by rfl) (hs2 : starEach [b] X.env = [(false, eval b X.env)] := by rfl) :
    PI X tg (.Call (.Name "range" p) [a, b] [] pos) (iRng2 ta) := by
  intro pins s σ H R I h
  refine Call_ (ld_blt I hg hm boot_range (PyProof.Rows.callWith_type1 (thn (ha pos pins s σ H _ I h) fun us s1 ⟨vs, H1, I1, r1, q1⟩ => ?_) (by rw [hs, hs2]) (by rw [hs2]; rfl)))
  obtain ⟨i, j, e, ⟨q1, q2, q3, q4⟩, q⟩ := q1
  subst e
  cases r1 with
  | cons r rr =>
    cases rr with
    | cons r' rr =>
      cases rr
      obtain ⟨t, rfl⟩ := r
      obtain ⟨t', rfl⟩ := r'
      exact call_range_2 (range_it I1 q1 q2 q3 q4 q)

/-! ### for -/
/-- W: the invariant by the turn and a measure; N: what the body is to reach -/
def tFor (wi : TI) (g : TG) (tb : TS) : TS := fun D σ H => wi σ H fun J H1 => ∃ W : Nat → Nat → St → Hp → Prop, (∃ m, W 0 m σ H1) ∧ ∀ i m σ H, W i m σ H →
  (J.stop i H ∧ D.nx σ H) ∨ (J.go i H ∧ ∃ N : St → Hp → Prop, (∀ σ' H', N σ' H' → ∃ m', m' < m ∧ W (i + 1) m' σ' H') ∧ ∀ x H', J.yld i H x H' → g x σ H' fun σ2 H2 => tb { D with nx := N, ct := N, bk := D.nx } σ2 H2)
/-- the records at fp as they stand -/
def pinsAt (fp : List Addr) (h : Heap) : List (Addr × Obj) := fp.filterMap fun b => (h.get? b).map fun o => (b, o)
theorem mem_pinsAt {fp : List Addr} {h : Heap} {b : Addr} {o : Obj} (hb : b ∈ fp) (e : h.get? b = some o) : (b, o) ∈ pinsAt fp h := List.mem_filterMap.mpr ⟨b, hb, by rw [e]; rfl⟩
theorem of_pinsAt {fp : List Addr} {h : Heap} {p : Addr × Obj} (hp : p ∈ pinsAt fp h) : p.1 ∈ fp ∧ h.get? p.1 = some p.2 := by
  obtain ⟨b, hb, e⟩ := List.mem_filterMap.mp hp
  cases q : h.get? b with
  | none => rw [q] at e; cases e
  | some o =>
    rw [q] at e
    have e' : (b, o) = p := Option.some.inj e
    subst e'
    exact ⟨hb, q⟩
theorem Inv.pinned {pins : List (Addr × Obj)} {σ : St} {H : Hp} {s : Shared} {fp : List Addr} (I : Inv X pins σ H s) (hf : ∀ b ∈ fp, FpOk X pins H b) (ho : ∀ b ∈ fp, ∃ o, s.heap.get? b = some o ∧ ∀ v, o.data ≠ .cell v) : Inv X (pins ++ pinsAt fp s.heap) σ H s :=
  I.pins_of fun p hp => (List.mem_append.mp hp).elim (fun z => I.pin p (List.mem_append_right _ z)) fun z => by
    obtain ⟨hb, e⟩ := of_pinsAt z
    obtain ⟨f0, f1, f2, _⟩ := hf p.1 hb
    obtain ⟨o, e', d⟩ := ho p.1 hb
    rw [e] at e'; cases e'
    exact ⟨e, f0, f1, f2, d⟩
theorem Inv.unpinned {pins pl : List (Addr × Obj)} {σ : St} {H : Hp} {s : Shared} (I : Inv X (pins ++ pl) σ H s) : Inv X pins σ H s := I.pins_of fun p hp => I.pin p (List.mem_append_right _ (List.mem_append_left _ hp))
theorem ps_for {c : Bool} {iter : Expr} {body : List Stmt} {wi : TI} {g : TG} {tb : TS} {pos : Pos} (hp : PassesOwn (model X.prog X.w) X.A X.env X.xe) (hc : c = true → X.calm = true) (hi : PIc c X tg iter wi) (hg : PG X tg g) (hb : PSs X body tb)
    (hs : ∀ x, foldedSetIterable iter X.env x = pure x := by intro _; rfl) : PS X (.For tg iter body [] pos) (tFor wi g tb) := by
  intro pins s σ H D I h
  refine wpAny_For (thn (hi pins s σ H _ I h) fun v s1 h1 => thn h1 fun itv s2 h2 => ?_) hs
  obtain ⟨it, fp, tn, J, H2, e, I2, T, st2, f2, W, ⟨m0, w0⟩, turn⟩ := h2
  subst e
  -- what stays true of the iterator's objects through the loop
  have stat : ∀ {H' : Hp}, (∀ b ∈ fp, H' b = none) → ∀ b ∈ fp, FpOk X pins H' b := fun hn b hb => ⟨hn b hb, (f2 b hb).2⟩
  refine codeAny_forLoop_any (fun n s' => ∃ i σ' H', Inv X pins σ' H' s' ∧ tn i s'.heap ∧ (∀ b ∈ fp, H' b = none) ∧ W i n σ' H') ?_ m0 ⟨0, σ, H2, I2, st2, fun b hb => (f2 b hb).1, w0⟩
  rintro n s3 ⟨i, σ3, H3, I3, st3, fr3, w3⟩
  rcases turn i n σ3 H3 w3 with ⟨stop, qn⟩ | ⟨go, N, hN, step⟩
  · refine wpAny_passesOwn hp (thn (T.done X rfl rfl rfl hc i pins s3 σ3 H3 X.xe I3 (stat fr3) st3 stop) fun r s4 ⟨hr, I4⟩ => ?_)
    subst hr
    exact wpAny_execs_nil ⟨σ3, H3, I4, qn⟩
  · refine wpAny_passesOwn hp (thn (T.item X rfl rfl rfl hc i pins s3 σ3 H3 X.xe I3 (stat fr3) st3 go) fun r s4 ⟨u, hr, h4⟩ => ?_)
    subst hr
    refine wpAny_passesOwn hp (thn h4 fun _ s5 ⟨x, H5, I5, r5, y5, st5, fr5⟩ => ?_)
    have I5' := I5.pinned (stat fr5) (T.obj _ _ st5)
    refine wpAny_passesOwn hp (thn (hg _ s5 σ3 H5 x u _ I5' r5 (step x H5 y5)) fun _ s6 ⟨σ6, H6, I6, q6⟩ => ?_)
    refine wpAny_passesOwn hp (thn (hb _ s6 σ6 H6 _ I6 q6) fun f s7 q7 => ?_)
    have again : ∀ {σ7 : St} {H7 : Hp}, Inv X (pins ++ pinsAt fp s5.heap) σ7 H7 s7 → N σ7 H7 → ∃ m, m < n ∧ ∃ i σ' H', Inv X pins σ' H' s7 ∧ tn i s7.heap ∧ (∀ b ∈ fp, H' b = none) ∧ W i m σ' H' := fun {σ7 H7} I7 n7 => by
      obtain ⟨m', hm, w7⟩ := hN σ7 H7 n7
      refine ⟨m', hm, i + 1, σ7, H7, I7.unpinned, T.keep _ _ _ st5 fun b hb o e => (I7.pin (b, o) (List.mem_append_right _ (List.mem_append_right _ (mem_pinsAt hb e)))).1, fun b hb => ?_, w7⟩
      obtain ⟨o, e, d⟩ := T.obj _ _ st5 b hb
      exact (I7.pin (b, o) (List.mem_append_right _ (List.mem_append_right _ (mem_pinsAt hb e)))).2.1
    cases f with
    | next => obtain ⟨σ7, H7, I7, n7⟩ := q7; exact again I7 n7
    | cont => obtain ⟨σ7, H7, I7, n7⟩ := q7; exact again I7 n7
    | brk => obtain ⟨σ7, H7, I7, q7⟩ := q7; exact ⟨σ7, H7, I7.unpinned, q7⟩
    | ret v => obtain ⟨x7, σ7, H7, I7, r7, q7⟩ := q7; exact ⟨x7, σ7, H7, I7.unpinned, r7, q7⟩
end

/-! ### the forms one uses -/
/-- over a list that the body leaves as it is -/
theorem for_list {K : PySem.W.Frag} {a : Addr} {xs : List V} {g : TG} {tb : TS} {D : Ends} {σ : St} {H : Hp} (Pv : Nat → St → Hp → Prop) (h0 : Pv 0 σ H) (hl : ∀ i σ H, i ≤ xs.length → Pv i σ H → SqL K H a xs)
    (hs : ∀ i x σ H, xs[i]? = some x → Pv i σ H → g x σ H fun σ2 H2 => tb { D with nx := Pv (i + 1), ct := Pv (i + 1), bk := D.nx } σ2 H2) (hd : ∀ σ H, Pv xs.length σ H → D.nx σ H) :
    ∃ W : Nat → Nat → St → Hp → Prop, (∃ m, W 0 m σ H) ∧ ∀ i m σ H, W i m σ H →
      ((Itl K a).stop i H ∧ D.nx σ H) ∨ ((Itl K a).go i H ∧ ∃ N : St → Hp → Prop, (∀ σ' H', N σ' H' → ∃ m', m' < m ∧ W (i + 1) m' σ' H') ∧ ∀ x H', (Itl K a).yld i H x H' → g x σ H' fun σ2 H2 => tb { D with nx := N, ct := N, bk := D.nx } σ2 H2) := by
  refine ⟨fun i m σ H => m = xs.length - i ∧ i ≤ xs.length ∧ Pv i σ H, ⟨xs.length, by simp, Nat.zero_le _, h0⟩, ?_⟩
  rintro i m σ H ⟨rfl, hi, p⟩
  have q := hl i σ H hi p
  by_cases hlt : i < xs.length
  · refine .inr ⟨⟨xs, xs[i], q, by simp [hlt]⟩, Pv (i + 1), fun σ' H' p' => ⟨xs.length - (i + 1), by omega, rfl, hlt, p'⟩, fun x H' y => ?_⟩
    obtain ⟨e, y⟩ := y
    subst e
    exact hs i x σ _ (y xs q) p
  · have e : i = xs.length := by omega
    subst e
    exact .inl ⟨⟨xs, q, Nat.le_refl _⟩, hd σ H p⟩
theorem for_tup {K : PySem.W.Frag} {a : Addr} {xs : List V} {g : TG} {tb : TS} {D : Ends} {σ : St} {H : Hp} (Pv : Nat → St → Hp → Prop) (h0 : Pv 0 σ H) (hl : ∀ i σ H, i ≤ xs.length → Pv i σ H → SqT K H a xs)
    (hs : ∀ i x σ H, xs[i]? = some x → Pv i σ H → g x σ H fun σ2 H2 => tb { D with nx := Pv (i + 1), ct := Pv (i + 1), bk := D.nx } σ2 H2) (hd : ∀ σ H, Pv xs.length σ H → D.nx σ H) :
    ∃ W : Nat → Nat → St → Hp → Prop, (∃ m, W 0 m σ H) ∧ ∀ i m σ H, W i m σ H →
      ((Itt K a).stop i H ∧ D.nx σ H) ∨ ((Itt K a).go i H ∧ ∃ N : St → Hp → Prop, (∀ σ' H', N σ' H' → ∃ m', m' < m ∧ W (i + 1) m' σ' H') ∧ ∀ x H', (Itt K a).yld i H x H' → g x σ H' fun σ2 H2 => tb { D with nx := N, ct := N, bk := D.nx } σ2 H2) := by
  refine ⟨fun i m σ H => m = xs.length - i ∧ i ≤ xs.length ∧ Pv i σ H, ⟨xs.length, by simp, Nat.zero_le _, h0⟩, ?_⟩
  rintro i m σ H ⟨rfl, hi, p⟩
  have q := hl i σ H hi p
  by_cases hlt : i < xs.length
  · refine .inr ⟨⟨xs, xs[i], q, by simp [hlt]⟩, Pv (i + 1), fun σ' H' p' => ⟨xs.length - (i + 1), by omega, rfl, hlt, p'⟩, fun x H' y => ?_⟩
    obtain ⟨e, y⟩ := y
    subst e
    exact hs i x σ _ (y xs q) p
  · have e : i = xs.length := by omega
    subst e
    exact .inl ⟨⟨xs, q, Nat.le_refl _⟩, hd σ H p⟩
theorem for_range {lo : Int} {n : Nat} {g : TG} {tb : TS} {D : Ends} {σ : St} {H : Hp} (Pv : Nat → St → Hp → Prop) (h0 : Pv 0 σ H)
    (hs : ∀ i σ H, i < n → Pv i σ H → g (.int (lo + i)) σ H fun σ2 H2 => tb { D with nx := Pv (i + 1), ct := Pv (i + 1), bk := D.nx } σ2 H2) (hd : ∀ σ H, Pv n σ H → D.nx σ H) :
    ∃ W : Nat → Nat → St → Hp → Prop, (∃ m, W 0 m σ H) ∧ ∀ i m σ H, W i m σ H →
      ((Itr lo n).stop i H ∧ D.nx σ H) ∨ ((Itr lo n).go i H ∧ ∃ N : St → Hp → Prop, (∀ σ' H', N σ' H' → ∃ m', m' < m ∧ W (i + 1) m' σ' H') ∧ ∀ x H', (Itr lo n).yld i H x H' → g x σ H' fun σ2 H2 => tb { D with nx := N, ct := N, bk := D.nx } σ2 H2) := by
  refine ⟨fun i m σ H => m = n - i ∧ i ≤ n ∧ Pv i σ H, ⟨n, by simp, Nat.zero_le _, h0⟩, ?_⟩
  rintro i m σ H ⟨rfl, hi, p⟩
  by_cases hlt : i < n
  · refine .inr ⟨hlt, Pv (i + 1), fun σ' H' p' => ⟨n - (i + 1), by omega, rfl, hlt, p'⟩, fun x H' y => ?_⟩
    obtain ⟨e, y⟩ := y
    subst e y
    exact hs i σ _ hlt p
  · have e : i = n := by omega
    subst e
    exact .inl ⟨Nat.le_refl _, hd σ H p⟩
end L2

namespace L2
open PySem PySem.Spec PyProof.Rows

abbrev R2 := V → V → Hp → VK → Prop
/-- a two-place operation on values: f is binaryOp op, inplaceOp op or compareOp op -/
def OpR (X : Cx) (f : Value → Value → Sem Value) (r : R2) : Prop :=
  ∀ (pins : List (Addr × Obj)) (s : Shared) (σ : St) (H : Hp) (x y : V) (v u : Value) (Q : VK), Inv X pins σ H s → RelV x v → RelV y u → r x y H Q →
    wpAny (model X.prog X.w) X.A (f v u) (EP X pins σ Q) X.xe s
/-- a one-place operation -/
def UnR (X : Cx) (f : Value → Sem Value) (r : V → Hp → VK → Prop) : Prop :=
  ∀ (pins : List (Addr × Obj)) (s : Shared) (σ : St) (H : Hp) (x : V) (v : Value) (Q : VK), Inv X pins σ H s → RelV x v → r x H Q →
    wpAny (model X.prog X.w) X.A (f v) (EP X pins σ Q) X.xe s
/-- a call of a value that is known (a builtin, a type) with values -/
def CallR (X : Cx) (f : Value) (r : List V → Hp → VK → Prop) : Prop :=
  ∀ (pins : List (Addr × Obj)) (s : Shared) (σ : St) (H : Hp) (xs : List V) (us : List Value) (Q : VK), Inv X pins σ H s → Vals xs us → r xs H Q →
    wpAny (model X.prog X.w) X.A (call f us) (EP X pins σ Q) X.xe s
/-- a value's truth -/
def TruR (X : Cx) (r : V → Hp → (Bool → Hp → Prop) → Prop) : Prop :=
  ∀ (pins : List (Addr × Obj)) (s : Shared) (σ : St) (H : Hp) (x : V) (v : Value) (Q : Bool → Hp → Prop), Inv X pins σ H s → RelV x v → r x H Q →
    wpAny (model X.prog X.w) X.A (truthy v) (TP X pins σ Q) X.xe s

def tOp (r : R2) (ta tb : TE) : TE := fun σ H Q => ta σ H fun x H1 => tb σ H1 fun y H2 => r x y H2 Q
def tUn (r : V → Hp → VK → Prop) (ta : TE) : TE := fun σ H Q => ta σ H fun x H1 => r x H1 Q
/-- ints in, under C, and a value out -/
def rI (C : Int → Int → Prop) (g : Int → Int → V) : R2 := fun x y H Q => ∃ i j, x = .int i ∧ y = .int j ∧ C i j ∧ Q (g i j) H
def rI0 (g : Int → Int → V) : R2 := fun x y H Q => ∃ i j, x = .int i ∧ y = .int j ∧ Q (g i j) H
def rU (g : Int → V) : V → Hp → VK → Prop := fun x H Q => ∃ i, x = .int i ∧ Q (g i) H

section
variable {X : Cx} {a b c : Expr} {ta tb tc : TE} {pos : Pos}

theorem binT (ha : PE X a ta) (hb : PE X b tb) {pins : List (Addr × Obj)} {s : Shared} {σ : St} {H : Hp} {R : V → V → Hp → Prop} (I : Inv X pins σ H s)
    (h : ta σ H fun x H1 => tb σ H1 fun y H2 => R x y H2) {Q : Value → Shared → Prop} {f : Value → Value → Sem Value}
    (hf : ∀ v u s2 x y H2, Inv X pins σ H2 s2 → RelV x v → RelV y u → R x y H2 → wpAny (model X.prog X.w) X.A (f v u) Q X.xe s2) :
    wpAny (model X.prog X.w) X.A (eval a X.env) (fun v s₁ => wpAny (model X.prog X.w) X.A (eval b X.env) (fun u s₂ => wpAny (model X.prog X.w) X.A (f v u) Q X.xe s₂) X.xe s₁) X.xe s := by
  refine thn (ha pins s σ H _ I h) fun v s1 ⟨x, H1, I1, r1, q1⟩ => ?_
  refine thn (hb pins s1 σ H1 _ I1 q1) fun u s2 ⟨y, H2, I2, r2, q2⟩ => ?_
  exact hf v u s2 x y H2 I2 r1 r2 q2

theorem pe_op {op : Operator} {r : R2} (ho : OpR X (binaryOp op) r) (ha : PE X a ta) (hb : PE X b tb) : PE X (.BinOp a op b pos) (tOp r ta tb) := by
  intro pins s σ H Q I h
  exact wpAny_BinOp (binT ha hb I h fun v u s2 x y H2 I2 rx ry q => ho pins s2 σ H2 x y v u Q I2 rx ry q)
theorem pe_un {op : UnaryOp} {r : V → Hp → VK → Prop} (ho : UnR X (unaryOp op) r) (ha : PE X a ta) : PE X (.UnaryOp op a pos) (tUn r ta) := by
  intro pins s σ H Q I h
  exact UnaryOp_ (thn (ha pins s σ H _ I h) fun v s1 ⟨x, H1, I1, r1, q1⟩ => ho pins s1 σ H1 x v Q I1 r1 q1)
/-! ### ints -/
theorem opI {f : Value → Value → Sem Value} {C : Int → Int → Prop} {g : Int → Int → Int}
    (rule : ∀ (i j : Int) (t u : Tok) (s : Shared) (Q : Value → Shared → Prop) (E : Value → Shared → Prop), C i j → Q (.int (g i j) s.toks) { s with toks := s.toks + 1 } → wpAny (model X.prog X.w) X.A (f (.int i t) (.int j u)) Q E s) :
    OpR X f (rI C fun i j => .int (g i j)) := by
  intro pins s σ H x y v u Q I rx ry h
  obtain ⟨i, j, rfl, rfl, hc, q⟩ := h
  obtain ⟨t, rfl⟩ := rx
  obtain ⟨t', rfl⟩ := ry
  exact rule i j t t' s _ _ hc ⟨.int (g i j), H, I.tok _, ⟨_, rfl⟩, q⟩
theorem opI0 {f : Value → Value → Sem Value} {g : Int → Int → Int}
    (rule : ∀ (i j : Int) (t u : Tok) (s : Shared) (Q : Value → Shared → Prop) (E : Value → Shared → Prop), Q (.int (g i j) s.toks) { s with toks := s.toks + 1 } → wpAny (model X.prog X.w) X.A (f (.int i t) (.int j u)) Q E s) :
    OpR X f (rI0 fun i j => .int (g i j)) := by
  intro pins s σ H x y v u Q I rx ry h
  obtain ⟨i, j, rfl, rfl, q⟩ := h
  obtain ⟨t, rfl⟩ := rx
  obtain ⟨t', rfl⟩ := ry
  exact rule i j t t' s _ _ ⟨.int (g i j), H, I.tok _, ⟨_, rfl⟩, q⟩
theorem opB0 {f : Value → Value → Sem Value} {g : Int → Int → Bool}
    (rule : ∀ (i j : Int) (t u : Tok) (s : Shared) (Q : Value → Shared → Prop) (E : Value → Shared → Prop), Q (.bool (g i j)) s → wpAny (model X.prog X.w) X.A (f (.int i t) (.int j u)) Q E s) :
    OpR X f (rI0 fun i j => .bl (g i j)) := by
  intro pins s σ H x y v u Q I rx ry h
  obtain ⟨i, j, rfl, rfl, q⟩ := h
  obtain ⟨t, rfl⟩ := rx
  obtain ⟨t', rfl⟩ := ry
  exact rule i j t t' s _ _ ⟨.bl (g i j), H, I, rfl, q⟩

def CDiv (i j : Int) : Prop := 0 < j ∧ j < 1073741824
def CPow (i j : Int) : Prop := 0 ≤ j ∧ j ≤ 1000000 ∧ i.natAbs < 2 ^ 64
def CMul (i j : Int) : Prop := (-(2 ^ 64) < i ∧ i < 2 ^ 64) ∨ (-(2 ^ 64) < j ∧ j < 2 ^ 64)
theorem CMul.ok {i j : Int} (h : CMul i j) : IntMulOk i j := by
  rcases h with ⟨h1, h2⟩ | ⟨h1, h2⟩
  · exact .of_left (intBits_le_64 h1 h2)
  · exact .of_right (intBits_le_64 h1 h2)
theorem op_add : OpR X (binaryOp .Add) (rI0 fun i j => .int (i + j)) := opI0 fun _ _ _ _ _ _ _ q => add_int q
theorem op_sub : OpR X (binaryOp .Sub) (rI0 fun i j => .int (i - j)) := opI0 fun _ _ _ _ _ _ _ q => sub_int q
theorem op_mul : OpR X (binaryOp .Mult) (rI CMul fun i j => .int (i * j)) := opI fun _ _ _ _ _ _ _ hc q => mul_int q hc.ok
/-- // by a positive divisor -/
theorem op_fdiv : OpR X (binaryOp .FloorDiv) (rI CDiv fun i j => .int (i / j)) := opI fun i j _ _ _ _ _ hc q => by
  have h1 : (0 : Int) < j := hc.1
  have h2 : j < 1073741824 := hc.2
  exact floordiv_int (by omega) (by rw [Int.fdiv_eq_ediv_of_nonneg i (by omega)]; exact q) (.inl (PyProof.noPylong_small (by omega)))
/-- % by a positive divisor of any size -/
theorem op_mod : OpR X (binaryOp .Mod) (rI (fun _ j => 0 < j) fun i j => .int (i % j)) := opI fun i j _ _ _ _ _ hc q => by
  have h1 : (0 : Int) < j := hc
  exact mod_int' (by omega) (by rw [Int.fmod_eq_emod_of_nonneg i (by omega)]; exact q)
theorem op_pow : OpR X (binaryOp .Pow) (rI CPow fun i j => .int (i ^ j.toNat)) := opI fun _ _ _ _ _ _ _ hc q => pow_int_small hc.1 hc.2.1 hc.2.2 q
theorem unI {f : Value → Sem Value} {g : Int → Int}
    (rule : ∀ (i : Int) (t : Tok) (s : Shared) (Q : Value → Shared → Prop) (E : Value → Shared → Prop), Q (.int (g i) s.toks) { s with toks := s.toks + 1 } → wpAny (model X.prog X.w) X.A (f (.int i t)) Q E s) :
    UnR X f (rU fun i => .int (g i)) := by
  intro pins s σ H x v Q I rx h
  obtain ⟨i, rfl, q⟩ := h
  obtain ⟨t, rfl⟩ := rx
  exact rule i t s _ _ ⟨.int (g i), H, I.tok _, ⟨_, rfl⟩, q⟩
theorem un_neg : UnR X (unaryOp .USub) (rU fun i => .int (-i)) := unI fun _ _ _ _ _ q => neg_int q
/-! ### bools among ints: n += (a < b) -/
end

/-! ### comparisons -/
/-- the scalars that == tells apart as data does -/
def scal : V → V → Bool
  | .non, .non => true | .non, .int _ => true | .int _, .non => true | .non, .bl _ => true | .bl _, .non => true | .non, .str _ => true | .str _, .non => true
  | .int _, .int _ => true | .bl _, .bl _ => true | .str _, .str _ => true | .byt _, .byt _ => true
  | .int _, .str _ => true | .str _, .int _ => true | .bl _, .str _ => true | .str _, .bl _ => true
  | _, _ => false
def rEq : R2 := fun x y H Q => scal x y = true ∧ Q (.bl (decide (x = y))) H
def rNe : R2 := fun x y H Q => scal x y = true ∧ Q (.bl (!decide (x = y))) H

theorem dec_int {i j : Int} : decide (V.int i = V.int j) = (i == j) := by
  rw [Bool.eq_iff_iff]
  simp
theorem dec_bl {i j : Bool} : decide (V.bl i = V.bl j) = (i == j) := by
  rw [Bool.eq_iff_iff]
  simp
theorem dec_str {i j : Str} : decide (V.str i = V.str j) = (i == j) := by
  rw [Bool.eq_iff_iff]
  simp
theorem dec_byt {i j : Array UInt8} : decide (V.byt i = V.byt j) = (i.toList == j.toList) := by
  rw [Bool.eq_iff_iff]
  cases i
  cases j
  simp

section
variable {X : Cx} {a b c : Expr} {ta tb tc : TE} {pos : Pos}
theorem fin_bl {pins : List (Addr × Obj)} {σ : St} {H : Hp} {s : Shared} {Q : VK} {k k' : Bool} (I : Inv X pins σ H s) (q : Q (.bl k) H) (e : k = k') : EP X pins σ Q (.bool k') s := by
  subst e
  exact ⟨.bl k, H, I, rfl, q⟩
theorem op_eq : OpR X (compareOp .Eq) rEq := by
  intro pins s σ H x y v u Q I rx ry h
  obtain ⟨hs, q⟩ := h
  cases x with
  | non =>
    cases rx
    cases y with
    | non => cases ry; exact PySem.EqNone.eq_none_none (fin_bl I q (by simp))
    | bl j => cases ry; exact PySem.EqNone.eq_none_bool (fin_bl I q (by simp))
    | int j => obtain ⟨t', rfl⟩ := ry; exact PySem.EqNone.eq_none_int (fin_bl I q (by simp))
    | str j => obtain ⟨t', rfl⟩ := ry; exact PySem.EqNone.eq_none_str (fin_bl I q (by simp))
    | _ => exact absurd (show false = true from hs) Bool.false_ne_true
  | bl i =>
    cases rx
    cases y with
    | non => cases ry; exact PySem.EqNone.eq_bool_none (fin_bl I q (by simp))
    | bl j => cases ry; exact eq_bool (fin_bl I q dec_bl)
    | str j => obtain ⟨t', rfl⟩ := ry; exact PySem.EqMixed.eq_bool_str (fin_bl I q (by simp))
    | _ => exact absurd (show false = true from hs) Bool.false_ne_true
  | int i =>
    obtain ⟨t, rfl⟩ := rx
    cases y with
    | non => cases ry; exact PySem.EqNone.eq_int_none (fin_bl I q (by simp))
    | int j => obtain ⟨t', rfl⟩ := ry; exact eq_int (fin_bl I q dec_int)
    | str j => obtain ⟨t', rfl⟩ := ry; exact PySem.EqMixed.eq_int_str (fin_bl I q (by simp))
    | _ => exact absurd (show false = true from hs) Bool.false_ne_true
  | str i =>
    obtain ⟨t, rfl⟩ := rx
    cases y with
    | non => cases ry; exact PySem.EqNone.eq_str_none (fin_bl I q (by simp))
    | bl j => cases ry; exact PySem.EqMixed.eq_str_bool (fin_bl I q (by simp))
    | int j => obtain ⟨t', rfl⟩ := ry; exact PySem.EqMixed.eq_str_int (fin_bl I q (by simp))
    | str j => obtain ⟨t', rfl⟩ := ry; exact eq_str (fin_bl I q dec_str)
    | _ => exact absurd (show false = true from hs) Bool.false_ne_true
  | byt i =>
    obtain ⟨t, rfl⟩ := rx
    cases y with
    | byt j => obtain ⟨t', rfl⟩ := ry; exact PySem.W.eq_bytes (fin_bl I q dec_byt)
    | _ => exact absurd (show false = true from hs) Bool.false_ne_true
  | _ => cases y <;> exact absurd (show false = true from hs) Bool.false_ne_true
theorem op_ne : OpR X (compareOp .NotEq) rNe := by
  intro pins s σ H x y v u Q I rx ry h
  obtain ⟨hs, q⟩ := h
  cases x with
  | non =>
    cases rx
    cases y with
    | non => cases ry; exact PySem.EqNone.ne_none_none (fin_bl I q (by simp))
    | bl j => cases ry; exact PySem.EqNone.ne_none_bool (fin_bl I q (by simp))
    | int j => obtain ⟨t', rfl⟩ := ry; exact PySem.EqNone.ne_none_int (fin_bl I q (by simp))
    | str j => obtain ⟨t', rfl⟩ := ry; exact PySem.EqNone.ne_none_str (fin_bl I q (by simp))
    | _ => exact absurd (show false = true from hs) Bool.false_ne_true
  | bl i =>
    cases rx
    cases y with
    | non => cases ry; exact PySem.EqNone.ne_bool_none (fin_bl I q (by simp))
    | bl j => cases ry; exact ne_bool (fin_bl I q (congrArg not dec_bl))
    | str j => obtain ⟨t', rfl⟩ := ry; exact PySem.EqMixed.ne_bool_str (fin_bl I q (by simp))
    | _ => exact absurd (show false = true from hs) Bool.false_ne_true
  | int i =>
    obtain ⟨t, rfl⟩ := rx
    cases y with
    | non => cases ry; exact PySem.EqNone.ne_int_none (fin_bl I q (by simp))
    | int j => obtain ⟨t', rfl⟩ := ry; exact ne_int (fin_bl I q (congrArg not dec_int))
    | str j => obtain ⟨t', rfl⟩ := ry; exact PySem.EqMixed.ne_int_str (fin_bl I q (by simp))
    | _ => exact absurd (show false = true from hs) Bool.false_ne_true
  | str i =>
    obtain ⟨t, rfl⟩ := rx
    cases y with
    | non => cases ry; exact PySem.EqNone.ne_str_none (fin_bl I q (by simp))
    | bl j => cases ry; exact PySem.EqMixed.ne_str_bool (fin_bl I q (by simp))
    | int j => obtain ⟨t', rfl⟩ := ry; exact PySem.EqMixed.ne_str_int (fin_bl I q (by simp))
    | str j => obtain ⟨t', rfl⟩ := ry; exact ne_str (fin_bl I q (congrArg not dec_str))
    | _ => exact absurd (show false = true from hs) Bool.false_ne_true
  | byt i =>
    obtain ⟨t, rfl⟩ := rx
    cases y with
    | byt j => obtain ⟨t', rfl⟩ := ry; exact PySem.W.ne_bytes (fin_bl I q (congrArg not dec_byt))
    | _ => exact absurd (show false = true from hs) Bool.false_ne_true
  | _ => cases y <;> exact absurd (show false = true from hs) Bool.false_ne_true

theorem op_lt : OpR X (compareOp .Lt) (rI0 fun i j => .bl (decide (i < j))) := opB0 fun _ _ _ _ _ _ _ q => lt_int q
theorem op_le : OpR X (compareOp .LtE) (rI0 fun i j => .bl (decide (i ≤ j))) := opB0 fun _ _ _ _ _ _ _ q => le_int q
theorem op_gt : OpR X (compareOp .Gt) (rI0 fun i j => .bl (decide (j < i))) := opB0 fun _ _ _ _ _ _ _ q => gt_int q
theorem op_notN : OpR X (compareOp .IsNot) (fun x y H Q => y = .non ∧ Q (.bl (!decide (x = .non))) H) := by
  intro pins s σ H x y v u Q I rx ry h
  obtain ⟨rfl, q⟩ := h
  cases ry
  refine isnot_none_gen (fin_bl I q ?_)
  cases x <;> first
    | (cases rx; rfl)
    | (obtain ⟨t, rfl⟩ := rx; rfl)

/-- two rules for one operation: by cases -/
theorem OpR.or {f : Value → Value → Sem Value} {r r' : R2} (h : OpR X f r) (h' : OpR X f r') : OpR X f (fun x y H Q => r x y H Q ∨ r' x y H Q) := by
  intro pins s σ H x y v u Q I rx ry q
  rcases q with q | q
  · exact h pins s σ H x y v u Q I rx ry q
  · exact h' pins s σ H x y v u Q I rx ry q

theorem nomark (b : Expr) {op : CmpOp} (h : op ≠ .In := by decide) (h2 : op ≠ .NotIn := by decide) : behindInMarks op b = false := by
  have e1 : (op == CmpOp.In) = false := by cases op <;> first | rfl | exact absurd rfl h
  have e2 : (op == CmpOp.NotIn) = false := by cases op <;> first | rfl | exact absurd rfl h2
  cases b <;> simp [behindInMarks, e1, e2]
/-- a comparison as a value; hm: nomark b, or (for in, not in) by with_unfolding_all rfl -/
theorem pe_cmpR {op : CmpOp} {r : R2} (ho : OpR X (compareOp op) r) (ha : PE X a ta) (hb : PE X b tb) (hm : behindInMarks op b = false) : PE X (.Compare a [op] [b] pos) (tOp r ta tb) := by
  intro pins s σ H Q I h
  exact wpAny_Compare1 (binT ha hb I h fun v u s2 x y H2 I2 rx ry q => ho pins s2 σ H2 x y v u Q I2 rx ry q) hm
/-- a reading of a value as a test -/
def tTest (t : TE) : TT := fun σ H Q => t σ H fun x H' => ∃ k, x = .bl k ∧ Q k H'
theorem pt_cmpR {op : CmpOp} {r : R2} (ho : OpR X (compareOp op) r) (ha : PE X a ta) (hb : PE X b tb) (hm : behindInMarks op b = false) : PT X (.Compare a [op] [b] pos) (tTest (tOp r ta tb)) := by
  intro pins s σ H Q I h
  refine wpAny_isTrue_Compare1 (thn (ha pins s σ H _ I h) fun v s1 ⟨x, H1, I1, r1, q1⟩ => thn (hb pins s1 σ H1 _ I1 q1) fun u s2 ⟨y, H2, I2, r2, q2⟩ =>
    thn (ho pins s2 σ H2 x y v u _ I2 r1 r2 q2) fun c s3 ⟨z, H3, I3, r3, k, e, q3⟩ => ?_) hm
  subst e
  cases r3
  exact wpAny_truthy_bool ⟨H3, I3, q3⟩
/-- a op1 b op2 c -/
def tChain (r r' : R2) (ta tb tc : TE) : TE := fun σ H Q => ta σ H fun x H1 => tb σ H1 fun y H2 => r x y H2 fun z H3 => ∃ k, z = .bl k ∧
  (if k = true then tc σ H3 fun w' H4 => r' y w' H4 Q else Q (.bl false) H3)
theorem pe_chain {op op' : CmpOp} {r r' : R2} (ho : OpR X (compareOp op) r) (ho' : OpR X (compareOp op') r') (ha : PE X a ta) (hb : PE X b tb) (hc : PE X c tc)
    (hm : lastMarks [op, op'] [b, c] = false := by with_unfolding_all rfl) : PE X (.Compare a [op, op'] [b, c] pos) (tChain r r' ta tb tc) := by
  intro pins s σ H Q I h
  refine Compare_chain (thn (ha pins s σ H _ I h) fun v s1 ⟨x, H1, I1, r1, q1⟩ => chain_link (thn (hb pins s1 σ H1 _ I1 q1) fun u s2 ⟨y, H2, I2, r2, q2⟩ =>
    thn (ho pins s2 σ H2 x y v u _ I2 r1 r2 q2) fun d s3 ⟨z, H3, I3, r3, k, e, q3⟩ => ?_)) hm
  subst e
  cases r3
  refine wpAny_truthy_bool ?_
  cases k with
  | false => exact ite_ff ⟨.bl false, H3, I3, rfl, q3⟩
  | true => exact ite_tt (chain_last (thn (hc pins s3 σ H3 _ I3 q3) fun w' s4 ⟨z', H4, I4, r4, q4⟩ => ho' pins s4 σ H4 y z' u w' Q I4 r2 r4 q4))
/-! ### truth -/
/-- a value's truth by the abstract heap -/
def TruV (K : PySem.W.Frag) (x : V) (H : Hp) (k : Bool) : Prop :=
  match x with
  | .non => k = false
  | .bl b => k = b
  | .int i => k = (i != 0)
  | .str y => y.length ≤ sizeLine ∧ k = ((y.length : Int) != 0)
  | .byt y => y.size ≤ sizeLine ∧ k = ((y.size : Int) != 0)
  | .ref p => (∃ xs, SqL K H p xs ∧ k = !xs.isEmpty) ∨ (∃ xs, SqT K H p xs ∧ k = !xs.isEmpty) ∨ ∃ kvs, H p = some (.dK kvs) ∧ k = !kvs.isEmpty
  | _ => False
theorem isEmpty_kv {κ : Type} {kvs : List (κ × V)} {vs : List (κ × Value)} (r : KV kvs vs) : (!vs.isEmpty) = !kvs.isEmpty := by
  cases r <;> rfl
theorem isEmpty_of {xs : List V} {its : List Value} (r : Vals xs its) : (!its.toArray.isEmpty) = !xs.isEmpty := by
  cases r <;> simp
theorem line63 : (sizeLine : Nat) < 2 ^ 63 := by rw [sizeLine_eq]; decide
theorem tru_ok : TruR X (fun x H Q => ∃ k, TruV X.K x H k ∧ Q k H) := by
  intro pins s σ H x v Q I rx h
  obtain ⟨k, e, q⟩ := h
  have hl := line63
  have hs : sizeLine = 16777216 := sizeLine_eq
  cases x with
  | non =>
    cases rx
    have e' : k = false := e
    subst e'
    exact truthy_none ⟨H, I, q⟩
  | bl b =>
    cases rx
    have e' : k = b := e
    subst e'
    exact wpAny_truthy_bool ⟨H, I, q⟩
  | int i =>
    obtain ⟨t, rfl⟩ := rx
    have e' : k = (i != 0) := e
    subst e'
    exact PySem.P.truthy_int ⟨H, I, q⟩
  | str y =>
    obtain ⟨t, rfl⟩ := rx
    obtain ⟨hy, e'⟩ : y.length ≤ sizeLine ∧ k = ((y.length : Int) != 0) := e
    subst e'
    exact PySem.P.truthy_str (by omega) ⟨H, I.tok _, q⟩
  | byt y =>
    obtain ⟨t, rfl⟩ := rx
    obtain ⟨hy, e'⟩ : y.size ≤ sizeLine ∧ k = ((y.size : Int) != 0) := e
    subst e'
    exact PySem.W.truthy_bytes (by omega) ⟨H, I.tok _, q⟩
  | ref p =>
    cases rx
    have e' : (∃ xs, SqL X.K H p xs ∧ k = !xs.isEmpty) ∨ (∃ xs, SqT X.K H p xs ∧ k = !xs.isEmpty) ∨ ∃ kvs, H p = some (.dK kvs) ∧ k = !kvs.isEmpty := e
    rcases e' with ⟨xs, hx, e'⟩ | ⟨xs, hx, e'⟩ | ⟨kvs, hx, e'⟩
    · subst e'
      obtain ⟨its, r, pl, hz⟩ := I.list hx
      have hlen := r.length
      exact wpAny_truthy_list pl.isList (by simp only [List.size_toArray]; omega) ⟨H, I.tok _, by rw [isEmpty_of r]; exact q⟩
    · subst e'
      obtain ⟨its, r, pl, hz⟩ := I.tuple hx
      have hlen := r.length
      exact truthy_tuple pl (by simp only [List.size_toArray]; omega) ⟨H, I.tok _, by rw [isEmpty_of r]; exact q⟩
    · subst e'
      obtain ⟨hz, hS, vs, r, m⟩ : kvs.length ≤ sizeLine ∧ (p == sysModules) = false ∧ ∃ vs, KV kvs vs ∧ s.heap.DictOf (mixKind X.prog X.w) p vs := I.hok p _ hx
      have hlen : kvs.length = vs.length := Paired.length r
      exact wpAny_truthy_dict hS m (by omega) ⟨H, I.tok _, by rw [isEmpty_kv r]; exact q⟩
  | _ => exact (show False from e).elim
/-- any expression whose test is its value's truth (a name, a call, a subscript, a field ..: he by fun _ => rfl) -/
theorem pt_truth (ha : PE X a ta) (he : ∀ whole, isTrue a X.env whole = (do let v ← whole; standAt a.pos; holding [v] (truthy v))) :
    PT X a (fun σ H Q => ta σ H fun x H' => ∃ k, TruV X.K x H' k ∧ Q k H') := by
  intro pins s σ H Q I h
  exact isTrue_plain (thn (ha pins s σ H _ I h) fun v s1 ⟨x, H1, I1, r1, q1⟩ => tru_ok pins s1 σ H1 x v Q I1 r1 q1) (he _)

/-! ### strs and bytes -/
theorem op_add_str : OpR X (binaryOp .Add) (fun x y H Q => ∃ i j, x = .str i ∧ y = .str j ∧ i.length + j.length ≤ sizeLine ∧ Q (.str (i ++ j)) H) := by
  intro pins s σ H x y v u Q I rx ry h
  obtain ⟨i, j, rfl, rfl, hz, q⟩ := h
  obtain ⟨t, rfl⟩ := rx
  obtain ⟨t', rfl⟩ := ry
  exact add_str (fun t' tk => ⟨.str (i ++ j), H, I.tok _, ⟨_, rfl⟩, q⟩) hz
/-! ### scalar builtins, by CallR -/
theorem vals1 {x : V} {us : List Value} (r : Vals [x] us) : ∃ u, us = [u] ∧ RelV x u := by
  cases r with
  | cons r1 r2 => cases r2; exact ⟨_, rfl, r1⟩
theorem vals2 {x y : V} {us : List Value} (r : Vals [x, y] us) : ∃ u w', us = [u, w'] ∧ RelV x u ∧ RelV y w' := by
  cases r with
  | cons r1 r2 =>
    cases r2 with
    | cons r3 r4 => cases r4; exact ⟨_, _, rfl, r1, r3⟩
theorem call_max2 (hc : X.calm = true) : CallR X (.builtin "max") (fun xs H Q => ∃ i j, xs = [.int i, .int j] ∧ Q (.int (if j > i then j else i)) H) := by
  intro pins s σ H xs us Q I r h
  obtain ⟨i, j, rfl, q⟩ := h
  obtain ⟨u, w', rfl, ⟨t, rfl⟩, ⟨t', rfl⟩⟩ := vals2 r
  refine max_two_ints (I.ok.hd hc) fun h' tk k => ⟨_, H, I.kept k, ?_, q⟩
  by_cases hj : j > i
  · rw [if_pos hj, if_pos hj]; exact ⟨_, rfl⟩
  · rw [if_neg hj, if_neg hj]; exact ⟨_, rfl⟩
theorem call_min2 (hc : X.calm = true) : CallR X (.builtin "min") (fun xs H Q => ∃ i j, xs = [.int i, .int j] ∧ Q (.int (if j < i then j else i)) H) := by
  intro pins s σ H xs us Q I r h
  obtain ⟨i, j, rfl, q⟩ := h
  obtain ⟨u, w', rfl, ⟨t, rfl⟩, ⟨t', rfl⟩⟩ := vals2 r
  refine min_two_ints (I.ok.hd hc) fun h' tk k => ⟨_, H, I.kept k, ?_, q⟩
  by_cases hj : j < i
  · rw [if_pos hj, if_pos hj]; exact ⟨_, rfl⟩
  · rw [if_neg hj, if_neg hj]; exact ⟨_, rfl⟩
theorem call_int1 : CallR X (.type "int") (fun xs H Q => (∃ i, xs = [.int i] ∧ Q (.int i) H) ∨ ∃ k, xs = [.bl k] ∧ Q (.int (if k then 1 else 0)) H) := by
  intro pins s σ H xs us Q I r h
  rcases h with ⟨i, rfl, q⟩ | ⟨k, rfl, q⟩
  · obtain ⟨u, rfl, t, rfl⟩ := vals1 r
    exact call_int_int ⟨.int i, H, I, ⟨_, rfl⟩, q⟩
  · obtain ⟨u, rfl, r1⟩ := vals1 r
    cases r1
    exact call_int_bool ⟨.int (if k then 1 else 0), H, I.tok _, ⟨_, rfl⟩, q⟩
end
end L2

namespace L2
open PySem PySem.Spec PyProof.Rows

/-! ### an instance, its attributes a map -/
structure ObjM (h : Heap) (x dx C : Addr) (mA : Str → Option Value) : Prop where
  obj : h.get? x = some (PySem.W.instObj C dx)
  ns : h.Ns1 dx mA
  ne : dx ≠ x

theorem lookIn_ns {h : Heap} {dx : Addr} {mA : Str → Option Value} (n : h.Ns1 dx mA) : ∃ od, h.get? dx = some od ∧ ∀ name, PySem.W.lookIn name od = some (mA name) := by
  obtain ⟨o, es, ep, ho, hd, hk, _, hm⟩ := n
  refine ⟨o, ho, fun name => ?_⟩
  have e := hm name
  unfold nsFind findBy at e
  rw [← Array.find?_toList] at e
  unfold PySem.W.lookIn
  rw [hd]
  dsimp only
  split
  · rename_i y q
    rw [q] at e
    exact congrArg some e
  · rename_i q
    rw [q] at e
    have a : es.toList.any (·.refKey) = false := by
      rw [List.any_eq_false]
      intro y hy
      obtain ⟨z, t, hkey⟩ := hk y (Array.mem_toList_iff.mp hy)
      simp [DictEntry.refKey, hkey]
    have a' : ¬ es.toList.any (·.refKey) = true := by rw [a]; exact Bool.false_ne_true
    rw [if_neg a']
    exact congrArg some e

theorem ObjM.look {h : Heap} {x dx C : Addr} {mA : Str → Option Value} (I : ObjM h x dx C mA) : ∃ od, PySem.W.InstAt h x (PySem.W.instObj C dx) C (some od) ∧ ∀ name, PySem.W.lookIn name od = some (mA name) :=
  let ⟨od, ho, hl⟩ := lookIn_ns I.ns
  ⟨od, ⟨I.obj, rfl, rfl, ho⟩, hl⟩

section
variable {prog : Program} {w : World} {A : Around} {E : Value → Shared → Prop} {s : Shared} {K : PySem.W.Frag} {x dx C f : Addr} {mA : Str → Option Value} {name : Str} {v : Value}

theorem get_map {expr : Bool} {Q : Value → Shared → Prop} (X : K.In s.heap) (I : ObjM s.heap x dx C mA) (hg : PySem.W.plainGet K C name = true) (hh : PySem.W.hasDictIn K C = true)
    (ha : PySem.W.findIn K (.ref C) name = some none) (hv : mA name = some v) (hv' : PySem.W.handedIn v = true) (h : Q v { s with toks := s.toks + 1 }) :
    wpAny (model prog w) A (getAttr (.ref x) name expr) Q E s := by
  obtain ⟨od, J, hl⟩ := I.look
  exact PySem.W.get_value X J (PySem.W.plainGet_of hg).1 (PySem.W.findObj_own hh ha rfl (by rw [hl, hv])) hv' h

theorem get_meth {pl : Sem Bool} {Q : Value × List Value → Shared → Prop} (X : K.In s.heap) (I : ObjM s.heap x dx C mA) (hg : PySem.W.plainGet K C name = true)
    (hf : PySem.W.findIn K (.ref C) name = some (some (.ref f))) (ht : PySem.W.isFn K (.ref f) = true) (hv : mA name = none) (h : Q (.ref f, [.ref x]) s) :
    wpAny (model prog w) A (getMethod (.ref x) name pl) Q E s := by
  obtain ⟨od, J, hl⟩ := I.look
  exact PySem.W.method_fn X J (PySem.W.plainGet_of hg).1 (PySem.W.plainGet_of hg).2 hf (beq_iff_eq.mp ht) (by show (PySem.W.lookIn name od).map (·.isSome) = some false; rw [hl, hv]; rfl) h

theorem set_map {ns : List Str} {Q : Unit → Shared → Prop} (X : K.In s.heap) (I : ObjM s.heap x dx C mA)
    (hs : PySem.W.findIn K (.ref C) "__setattr__" = some (some (.builtin "object.__setattr__"))) (hp : PySem.W.plainOver K C = true) (ht : PySem.W.takerIn K C name = some none) (hh : PySem.W.hasDictIn K C = true)
    (hw : PySem.Within mA ns) (hsz : ns.length ≤ sizeLine)
    (h : ∀ h', ObjM h' x dx C (fun y => if y = name then some v else mA y) → Heap.SameBut dx s.heap h' → Q () { s with heap := h', toks := s.toks + 2 }) :
    wpAny (model prog w) A (setAttr (.ref x) name v) Q E s := by
  obtain ⟨od, J, hl⟩ := I.look
  refine PySem.W.set_plain X J hs (PySem.W.osa_open (s := { s with toks := s.toks + 1 }) (r := none) X J hp ht fun b => ?_)
  obtain ⟨cd, hc, hd'⟩ := PySem.W.any_some hh
  have hx : s.heap.get? x = some ⟨.ref C, some dx, .plain, #[]⟩ := I.obj
  refine wpAny_bind (wpAny_pure (wpAny_bind (wpAny_bind (wpAny_loadPart hx (wpAny_bind (PySem.W.Looks.here (s := { s with toks := s.toks + 1 }) (PySem.W.looks_clsIn X hc) ?_))))))
  rw [hd']
  refine wpAny_pure (a := some dx) (wpAny_bind (wpAny_pure (wpAny_bind ?_)))
  refine wpAny_nsSet1 (s := { s with toks := s.toks + 1 }) I.ns fun h' hn2 hs2 => ?_
  obtain ⟨oD, esD, epD, hoD, hdD, hcD⟩ := hn2.count (PySem.Within.cons name v hw)
  refine wpAny_bind (wpAny_lookBehind hoD (by rw [hdD]; exact pastItsLine_dict (Nat.le_trans hcD (by rw [List.length_cons]; omega))) ?_)
  exact wpAny_pure (h _ ⟨(hs2.2 _ (Ne.symm I.ne)).trans I.obj, hn2, I.ne⟩ hs2)

/-- C(..): the dict at the heap's end, the instance behind it; then its __init__ -/
theorem make_map {R : Result → Shared → Prop} {vs : List Value} {kw : List (Str × Value)} (X : K.In s.heap) (hm : PySem.W.makesIn K C = true)
    (hi : PySem.W.findIn K (.ref C) "__init__" = some (some (.ref f))) (hf : PySem.W.typeIn K (.ref f) = some (.type "function"))
    (h : codeAny (model prog w) (A.under (.builtin "type.__call__" ⟨.ref C :: vs, kw⟩)) (.call (.ref f) ⟨.ref (s.heap.objs.size + 1) :: vs, kw⟩) (PySem.W.InitBack (s.heap.objs.size + 1) R)
      { s with heap := (s.heap.push PySem.W.emptyDict).push (PySem.W.instObj C s.heap.objs.size) }) :
    codeAny (model prog w) A (.call (.ref C) ⟨vs, kw⟩) R s := by
  obtain ⟨hh, g, d, t, os⟩ := s
  exact PySem.W.make_core (PySem.W.makes_of X hm) (PySem.W.looks_findIn X hi) (fun self => PySem.W.bind_fn X self hf) (.inl rfl) h
end

/-! ### the attributes as a list of pairs -/
def putF (f : Str) (v : V) : List (Str × V) → List (Str × V)
  | [] => [(f, v)]
  | (g, x) :: r => if g = f then (g, v) :: r else (g, x) :: putF f v r
theorem lookup_putF (f g : Str) (v : V) : ∀ fs : List (Str × V), (putF f v fs).lookup g = if g = f then some v else fs.lookup g
  | [] => by
    show List.lookup g [(f, v)] = _
    by_cases h : g = f
    · have hb : (g == f) = true := beq_iff_eq.mpr h
      simp only [List.lookup, hb, if_pos h]
    · have hb : (g == f) = false := beq_eq_false_iff_ne.mpr h
      simp only [List.lookup, hb, if_neg h]
  | (k, x) :: r => by
    have ih := lookup_putF f g v r
    rw [show putF f v ((k, x) :: r) = (if k = f then (k, v) :: r else (k, x) :: putF f v r) from rfl]
    by_cases hk : k = f
    · rw [if_pos hk]
      by_cases h : g = k
      · have hb : (g == k) = true := beq_iff_eq.mpr h
        simp only [List.lookup, hb, if_pos (h.trans hk)]
      · have hb : (g == k) = false := beq_eq_false_iff_ne.mpr h
        simp only [List.lookup, hb, if_neg (fun e : g = f => h (e.trans hk.symm))]
    · rw [if_neg hk]
      by_cases h : g = k
      · have hb : (g == k) = true := beq_iff_eq.mpr h
        simp only [List.lookup, hb, if_neg (fun e : g = f => hk (h.symm.trans e))]
      · have hb : (g == k) = false := beq_eq_false_iff_ne.mpr h
        simp only [List.lookup, hb]
        exact ih
theorem keys_putF (f : Str) (v : V) : ∀ fs : List (Str × V), f ∈ (putF f v fs).map (·.1) ∧ ∀ g, g ∈ fs.map (·.1) → g ∈ (putF f v fs).map (·.1)
  | [] => ⟨by simp [putF], fun g h => by simp at h⟩
  | (k, x) :: r => by
    obtain ⟨i1, i2⟩ := keys_putF f v r
    rw [show putF f v ((k, x) :: r) = (if k = f then (k, v) :: r else (k, x) :: putF f v r) from rfl]
    by_cases hk : k = f
    · rw [if_pos hk]
      subst hk
      exact ⟨by simp, fun g h => by simpa using h⟩
    · rw [if_neg hk]
      refine ⟨?_, fun g h => ?_⟩
      · rw [List.map_cons]
        exact List.mem_cons_of_mem _ i1
      · rw [List.map_cons] at h ⊢
        rcases List.mem_cons.mp h with e | e
        · exact List.mem_cons.mpr (.inl e)
        · exact List.mem_cons_of_mem _ (i2 g e)
theorem length_putF (f : Str) (v : V) : ∀ fs : List (Str × V), (putF f v fs).length ≤ fs.length + 1
  | [] => by simp [putF]
  | (k, x) :: r => by
    have ih := length_putF f v r
    rw [show putF f v ((k, x) :: r) = (if k = f then (k, v) :: r else (k, x) :: putF f v r) from rfl]
    by_cases hk : k = f
    · rw [if_pos hk, List.length_cons, List.length_cons]; omega
    · rw [if_neg hk, List.length_cons, List.length_cons]; omega

theorem RelO.some_of {v : V} {o : Option Value} (r : RelO (some v) o) : ∃ u, o = some u ∧ RelV v u := by
  cases o with
  | none => exact (show False from r).elim
  | some u => exact ⟨u, rfl, r⟩
theorem RelO.none_of {o : Option Value} (r : RelO none o) : o = none := by
  cases o with
  | none => rfl
  | some u => exact (show False from r).elim
theorem handed_of {v : V} {u : Value} (r : RelV v u) : PySem.W.handedIn u = true := by
  cases v with
  | non => cases (show u = Value.none from r); rfl
  | bl b => cases (show u = Value.bool b from r); rfl
  | int i => obtain ⟨t, e⟩ := (show ∃ t, u = Value.int i t from r); cases e; rfl
  | str x => obtain ⟨t, e⟩ := (show ∃ t, u = Value.str x t from r); cases e; rfl
  | byt b => obtain ⟨t, e⟩ := (show ∃ t, u = Value.bytes b t from r); cases e; rfl
  | flt b => obtain ⟨t, e⟩ := (show ∃ t, u = Value.float b t from r); cases e; rfl
  | ref a => cases (show u = Value.ref a from r); rfl
  | ty n => cases (show u = Value.type n from r); rfl

section
variable {P : Program} {w : World} {H H' : Hp} {h h' : Heap} {a C dx : Addr} {fs fs' : List (Str × V)}
theorem ins_get (hok : HOk P w H h) (e : H a = some (.ins C dx fs)) : ∃ mA, ObjM h a dx C mA ∧ (∀ f, RelO (fs.lookup f) (mA f)) ∧ PySem.Within mA (fs.map (·.1)) ∧ fs.length ≤ 1000 ∧ H dx = some (.own a) := by
  obtain ⟨d, z, ne, ob, mA, n, r, q⟩ := (show ObjOk P w H h a (.ins C dx fs) from hok a _ e)
  exact ⟨mA, ⟨ob, n, ne⟩, r, q, z, d⟩
end

/-! ### what of the text a class must have -/
structure Cls (K : PySem.W.Frag) (C : Addr) : Prop where
  pg : PySem.W.plainGet K C Str.empty = true
  hd : PySem.W.hasDictIn K C = true
  po : PySem.W.plainOver K C = true
  sa : PySem.W.findIn K (.ref C) "__setattr__" = some (some (.builtin "object.__setattr__"))
theorem Cls.get {K : PySem.W.Frag} {C : Addr} (c : Cls K C) (f : Str) : PySem.W.plainGet K C f = true := c.pg
/-- no class of it has the name -/
def NoAttr (K : PySem.W.Frag) (C : Addr) (f : Str) : Prop := PySem.W.findIn K (.ref C) f = some none
theorem NoAttr.taker {K : PySem.W.Frag} {C : Addr} {f : Str} (n : NoAttr K C f) : PySem.W.takerIn K C f = some none := by
  unfold PySem.W.takerIn
  rw [show PySem.W.findIn K (.ref C) f = some none from n]
  rfl
/-- a method: a plain def of the class or of one above it -/
structure Meth (K : PySem.W.Frag) (C : Addr) (m : Str) (f : Addr) : Prop where
  at_ : PySem.W.findIn K (.ref C) m = some (some (.ref f))
  fn : PySem.W.isFn K (.ref f) = true
  kp : PySem.W.keepIn K (.ref f) = true

section
variable {X : Cx} {pins : List (Addr × Obj)} {σ : St} {H : Hp} {s : Shared} {a C dx : Addr} {fs : List (Str × V)} {f : Str} {v : V} {A : Around} {E : Value → Shared → Prop}

theorem getattr_ok {b : Bool} {Q : Value → Shared → Prop} (I : Inv X pins σ H s) (e : H a = some (.ins C dx fs)) (c : Cls X.K C) (n : NoAttr X.K C f) (l : fs.lookup f = some v)
    (h : ∀ u s', Inv X pins σ H s' → RelV v u → Q u s') : wpAny (model X.prog X.w) A (getAttr (.ref a) f b) Q E s := by
  obtain ⟨mA, O, r, _, _, _⟩ := ins_get I.hok e
  obtain ⟨u, hu, ru⟩ := RelO.some_of (v := v) (o := mA f) (by rw [← l]; exact r f)
  exact get_map I.kIn O (c.get f) c.hd n hu (handed_of ru) (h u _ (I.tok _) ru)

theorem getmeth_ok {m : Str} {g : Addr} {pl : Sem Bool} {Q : Value × List Value → Shared → Prop} (I : Inv X pins σ H s) (e : H a = some (.ins C dx fs)) (c : Cls X.K C) (k : Meth X.K C m g) (l : fs.lookup m = none)
    (h : Q (.ref g, [.ref a]) s) : wpAny (model X.prog X.w) A (getMethod (.ref a) m pl) Q E s := by
  obtain ⟨mA, O, r, _, _, _⟩ := ins_get I.hok e
  have hn : mA m = none := RelO.none_of (by rw [← l]; exact r m)
  exact get_meth I.kIn O (c.get m) k.at_ k.fn hn h

theorem setattr_ok {y : V} {u : Value} {Q : Unit → Shared → Prop} (I : Inv X pins σ H s) (e : H a = some (.ins C dx fs)) (c : Cls X.K C) (n : NoAttr X.K C f) (hl : fs.length < 1000) (ry : RelV y u)
    (h : ∀ s', Inv X pins σ (upd H a (.ins C dx (putF f y fs))) s' → Q () s') : wpAny (model X.prog X.w) A (setAttr (.ref a) f u) Q E s := by
  obtain ⟨mA, O, r, wi, _, ho⟩ := ins_get I.hok e
  have hz : (fs.map (·.1)).length ≤ sizeLine := by rw [List.length_map, sizeLine_eq]; omega
  refine set_map I.kIn O c.sa c.po n.taker c.hd wi hz fun h' O' sb => h _ ?_
  have hd : ∃ o, h'.get? dx = some o := let ⟨o, _, _, e', _⟩ := O'.ns; ⟨o, e'⟩
  refine I.write (x := a) (e := dx) (by rw [e]; exact True.intro) (.inr ho) (fun b q hb z => (sb.2 b hb).trans z) hd ?_
  refine ⟨by rw [upd_ne O.ne]; exact ho, ?_, O.ne, O'.obj, _, O'.ns, fun g => ?_, fun g hg => ?_⟩
  · have := length_putF f y fs; omega
  · show RelO ((putF f y fs).lookup g) (if g = f then some u else mA g)
    rw [lookup_putF]
    by_cases q : g = f
    · rw [if_pos q, if_pos q]; exact ry
    · rw [if_neg q, if_neg q]; exact r g
  · by_cases q : g = f
    · rw [q]; exact (keys_putF f y fs).1
    · refine (keys_putF f y fs).2 g (wi g fun z => hg ?_)
      show (if g = f then some u else mA g) = none
      rw [if_neg q]; exact z

/-- a new instance, tracked, without attributes -/
theorem Inv.made (I : Inv X pins σ H s) : Inv X pins σ (upd (upd H s.heap.objs.size (.own (s.heap.objs.size + 1))) (s.heap.objs.size + 1) (.ins C s.heap.objs.size []))
    { s with heap := (s.heap.push PySem.W.emptyDict).push (PySem.W.instObj C s.heap.objs.size) } := by
  have e1 : (s.heap.push PySem.W.emptyDict).get? s.heap.objs.size = some PySem.W.emptyDict := Heap.get?_push_size s.heap rfl
  have e2 : ((s.heap.push PySem.W.emptyDict).push (PySem.W.instObj C s.heap.objs.size)).get? (s.heap.objs.size + 1) = some (PySem.W.instObj C s.heap.objs.size) := by
    have := Heap.get?_push_size (s.heap.push PySem.W.emptyDict) (o := PySem.W.instObj C s.heap.objs.size) rfl
    rwa [Heap.size_push] at this
  have e3 : (s.heap.push PySem.W.emptyDict).Ns s.heap.objs.size (fun _ => none) := ⟨PySem.W.emptyDict, #[], _, e1, rfl, (fun e he => absurd he (by simp)), fun _ => rfl⟩
  have I1 := I.laid (a := s.heap.objs.size) (o := .own (s.heap.objs.size + 1)) (h' := s.heap.push PySem.W.emptyDict) (t' := s.toks) (fun b u q => Heap.get?_push_of_some _ q) (Nat.le_refl _) ⟨_, e1⟩
  refine I1.laid (a := s.heap.objs.size + 1) (o := .ins C s.heap.objs.size []) (t' := s.toks) (fun b u q => Heap.get?_push_of_some _ q) (Nat.le_of_eq (Heap.size_push _ _)) ?_
  have ne : s.heap.objs.size ≠ s.heap.objs.size + 1 := Nat.ne_of_lt (Nat.lt_succ_self _)
  refine ⟨by rw [upd_ne ne, upd_same], Nat.zero_le _, ne, e2, fun _ => none, (Heap.Ns1.of_empty e3).at fun o q => Heap.get?_push_of_some _ q, fun _ => True.intro, fun y hy => absurd rfl hy⟩

/-- e.f where nothing but the object is asked: through attributeBase (super) and the last hold -/
theorem attr_of {prog : Program} {w : World} {env : Env} {e : Expr} {f : Str} {pos : Pos} {s : Shared} {Q : Value → Shared → Prop} (hb : attributeBase e f env (eval e env) = eval e env)
    (h : wpAny (model prog w) A (eval e env) (fun o s₁ => wpAny (model prog w) A (getAttr o f true) Q E s₁) E s) : wpAny (model prog w) A (eval (.Attribute e f pos) env) Q E s :=
  Attribute_any_ h (by rw [arm_eval_Attribute, hb])
end

/-! ### readings and rules -/
/-- an augmented operator on two values -/
def InOp (X : Cx) (op : Operator) (rd : V → V → Hp → VK → Prop) : Prop :=
  ∀ (pins : List (Addr × Obj)) (s : Shared) (σ : St) (H : Hp) (x y : V) (u v : Value) (Q : VK), Inv X pins σ H s → RelV x u → RelV y v → rd x y H Q → wpAny (model X.prog X.w) X.A (inplaceOp op u v) (EP X pins σ Q) X.xe s
section
variable {X : Cx} {o e value : Expr} {f : Str} {pos pos' tpos : Pos} {ta tv : TE}
def rAdd : V → V → Hp → VK → Prop := fun x y H Q => ∃ i j, x = .int i ∧ y = .int j ∧ Q (.int (i + j)) H
def rSub : V → V → Hp → VK → Prop := fun x y H Q => ∃ i j, x = .int i ∧ y = .int j ∧ Q (.int (i - j)) H
theorem in_add : InOp X .Add rAdd := by
  rintro pins s σ H x y u v Q I rx ry ⟨i, j, rfl, rfl, q⟩
  obtain ⟨t, rfl⟩ := (show ∃ t, u = Value.int i t from rx)
  obtain ⟨t', rfl⟩ := (show ∃ t', v = Value.int j t' from ry)
  exact PyProof.Rows.iadd_int ⟨.int (i + j), H, I.tok _, ⟨_, rfl⟩, q⟩
theorem in_sub : InOp X .Sub rSub := by
  rintro pins s σ H x y u v Q I rx ry ⟨i, j, rfl, rfl, q⟩
  obtain ⟨t, rfl⟩ := (show ∃ t, u = Value.int i t from rx)
  obtain ⟨t', rfl⟩ := (show ∃ t', v = Value.int j t' from ry)
  exact PyProof.Rows.isub_int ⟨.int (i - j), H, I.tok _, ⟨_, rfl⟩, q⟩

/-- what is between an instance and its method: the tree of a method call -/
theorem methcall_of {pl : Sem Bool} {m : Str} {apos : Pos} {args : List Expr} {pins : List (Addr × Obj)} {s : Shared} {σ : St} {H : Hp} {Q : Value → Shared → Prop} {te : TE} (he : PE X e te) (I : Inv X pins σ H s)
    (h : te σ H fun x H1 => ∃ a C dx fs g, x = .ref a ∧ H1 a = some (.ins C dx fs) ∧ Cls X.K C ∧ Meth X.K C m g ∧ fs.lookup m = none ∧
      ∀ s1, Inv X pins σ H1 s1 → wpAny (model X.prog X.w) X.A (callWith pos (.ref g) [.ref a] (backTo pos (starEach args X.env)) (backToKw pos (keywordEach [] X.env))) Q X.xe s1)
    (ht : eval (.Call (.Attribute e m apos) args [] pos) X.env = (do
      let ov ← eval e X.env
      standAt apos.atName
      let (f, first) ← holding [ov] (getMethod ov m pl)
      callWith pos f first (backTo pos (starEach args X.env)) (backToKw pos (keywordEach [] X.env)))) :
    wpAny (model X.prog X.w) X.A (eval (.Call (.Attribute e m apos) args [] pos) X.env) Q X.xe s := by
  refine PySem.W.methodCall_KW (pl := pl) (thn (he pins s σ H _ I h) fun u s1 ⟨x, H1, I1, rx, a, C, dx, fs, g, ex, ea, c, k, l, q⟩ => ?_) ht
  subst ex
  obtain rfl : u = Value.ref a := rx
  exact getmeth_ok I1 ea c k l (q s1 I1)
end

/-! ### isinstance -/
section
variable {X : Cx} {pins : List (Addr × Obj)} {σ : St} {H : Hp} {s : Shared} {A : Around} {E : Value → Shared → Prop} {Q : Value → Shared → Prop} {c : Value} {b : Bool}
/-- the type of a value, as the fragment's deciders take it; for an instance its class -/
inductive TyOf (K : PySem.W.Frag) (H : Hp) : V → Value → Prop where
  | non : TyOf K H .non (.type "NoneType")
  | bl (x : Bool) : TyOf K H (.bl x) (.type "bool")
  | int (i : Int) : TyOf K H (.int i) (.type "int")
  | str (x : Str) : TyOf K H (.str x) (.type "str")
  | flt (x : UInt64) : TyOf K H (.flt x) (.type "float")
  | lst {a : Addr} {xs : List V} (e : H a = some (.lst xs)) : TyOf K H (.ref a) (.type "list")
  | frz {a : Addr} {o : Obj} {xs : List V} (e : H a = some (.frz o (.lst xs))) : TyOf K H (.ref a) (.type "list")
  | tup {a : Addr} {xs : List V} (e : H a = some (.tup xs)) : TyOf K H (.ref a) (.type "tuple")
  | dK {a : Addr} {kvs : List (Key × V)} (e : H a = some (.dK kvs)) : TyOf K H (.ref a) (.type "dict")
  | dT {a : Addr} {kvs : List (List Key × V)} (e : H a = some (.dT kvs)) : TyOf K H (.ref a) (.type "dict")
  | ins {a C dx : Addr} {fs : List (Str × V)} (e : H a = some (.ins C dx fs)) (cl : Cls K C) (ha : PySem.W.findIn K (.ref C) "__class__" = some (some (.builtin "object.__class__")))
      (hn : PySem.W.specialIn K (.builtin "object.__class__") "__get__" = some (some (.builtin "getset_descriptor.__get__"))) (htk : PySem.W.takesIn K (.builtin "object.__class__") = some true)
      (hm : PySem.W.mroIn K C (.type "object") = some true) : TyOf K H (.ref a) (.ref C)
/-- isinstance(x, c) for one class c, a built-in or an own one: kitOne's answer -/
theorem isinst_ok {x : V} {u t : Value} (I : Inv X pins σ H s) (rx : RelV x u) (ty : TyOf X.K H x t) (e : PySem.W.kitOne X.K t c = some b) (h : ∀ tk, Q (.bool b) { s with toks := tk }) :
    wpAny (model X.prog X.w) A (call (.builtin "isinstance") [u, c]) Q E s := by
  cases ty with
  | non => cases (show u = Value.none from rx); exact PySem.W.kia_one PySem.W.kitx_none I.kIn True.intro e (fun z => nomatch z) h
  | bl y => cases (show u = Value.bool y from rx); exact PySem.W.kia_one PySem.W.kitx_bool I.kIn True.intro e (fun z => nomatch z) h
  | int i => obtain ⟨t, q⟩ := (show ∃ t, u = Value.int i t from rx); cases q; exact PySem.W.kia_one PySem.W.kitx_int I.kIn True.intro e (fun z => nomatch z) h
  | str y => obtain ⟨t, q⟩ := (show ∃ t, u = Value.str y t from rx); cases q; exact PySem.W.kia_one PySem.W.kitx_str I.kIn True.intro e (fun z => nomatch z) h
  | flt y => obtain ⟨t, q⟩ := (show ∃ t, u = Value.float y t from rx); cases q; exact PySem.W.kia_one PySem.W.kitx_float I.kIn True.intro e (fun z => nomatch z) h
  | @lst a xs ea =>
    cases (show u = Value.ref a from rx)
    obtain ⟨_, _, n, _, h1⟩ := (show ObjOk X.prog X.w H s.heap a (.lst xs) from I.hok a _ ea)
    exact PySem.W.kia_one PySem.W.kitx_list I.kIn ⟨_, h1, rfl⟩ e (fun z => nomatch z) h
  | @frz a ob xs ea =>
    cases (show u = Value.ref a from rx)
    obtain ⟨_, _, _, n, _, h1⟩ := (show ObjOk X.prog X.w H s.heap a (.frz ob (.lst xs)) from I.hok a _ ea)
    exact PySem.W.kia_one PySem.W.kitx_list I.kIn ⟨_, h1, rfl⟩ e (fun z => nomatch z) h
  | @tup a xs ea =>
    cases (show u = Value.ref a from rx)
    obtain ⟨_, _, _, p⟩ := (show ObjOk X.prog X.w H s.heap a (.tup xs) from I.hok a _ ea)
    obtain ⟨o, h1, h2, _⟩ := p
    exact PySem.W.kia_one PySem.W.kitx_tuple I.kIn ⟨o, h1, h2⟩ e (fun z => nomatch z) h
  | @dK a kvs ea =>
    cases (show u = Value.ref a from rx)
    obtain ⟨_, _, vs, _, p⟩ := (show ObjOk X.prog X.w H s.heap a (.dK kvs) from I.hok a _ ea)
    obtain ⟨o, es, ep, h1, h2, _⟩ := p
    exact PySem.W.kia_one PySem.W.kitx_dict I.kIn ⟨o, h1, h2.1⟩ e (fun z => nomatch z) h
  | @dT a kvs ea =>
    cases (show u = Value.ref a from rx)
    obtain ⟨_, _, xs, _, o, es, ep, h1, h2, _⟩ := (show ObjOk X.prog X.w H s.heap a (.dT kvs) from I.hok a _ ea)
    exact PySem.W.kia_one PySem.W.kitx_dict I.kIn ⟨o, h1, h2.1⟩ e (fun z => nomatch z) h
  | @ins a C dx fs ea cl ha hn htk hm =>
    cases (show u = Value.ref a from rx)
    obtain ⟨mA, O, _⟩ := ins_get I.hok ea
    obtain ⟨od, J, _⟩ := O.look
    exact PySem.W.kia_one (PySem.W.kitx_own (cl.get _) cl.hd ha hn htk hm) I.kIn J e (fun z => nomatch z) h
end
end L2

namespace L2
open PySem PySem.Spec PyProof.Rows

/-! ### room -/
structure Room (c : Bool) (k : Nat) (A : Around) : Prop where
  hd : c = true → A.handled = none
  dp : A.depth + 3 * k + 5 < recursionLimit
  un : A.units + 16 * k + 200 < cLine
  gd : A.guards = some []
theorem Room.mono {c : Bool} {j k : Nat} {A : Around} (r : Room c k A) (h : j ≤ k) : Room c j A := ⟨r.hd, by have := r.dp; omega, by have := r.un; omega, r.gd⟩
theorem Room.weak {c : Bool} {k : Nat} {A : Around} (r : Room c k A) : Room false k A := ⟨fun h => (nomatch h), r.dp, r.un, r.gd⟩
theorem Room.deeper {c : Bool} {k : Nat} {A : Around} (r : Room c (k + 1) A) (env : Env) : Room c k (A.deeper env) :=
  ⟨r.hd, by have := r.dp; show A.depth + 1 + 3 * k + 5 < _; omega, by have := r.un; show A.units + 3 + 16 * k + 200 < _; omega, by first | exact r.gd | simpa [Around.deeper, Around.under, Code.isGuard] using r.gd⟩
theorem Room.in1 {c : Bool} {k : Nat} {A : Around} (r : Room c (k + 1) A) : Room c k A.in1 :=
  ⟨r.hd, by have := r.dp; show A.depth + 3 * k + 5 < _; omega, by have := r.un; show A.units + 1 + 16 * k + 200 < _; omega, r.gd⟩
theorem make_depth {A : Around} {C : Addr} {us : List Value} {kw : List (Str × Value)} : (A.under (.builtin "type.__call__" ⟨.ref C :: us, kw⟩)).depth = A.depth + 1 := by
  first | rfl | simp [Around.under, Code.weight, Code.isCreation, Code.isGuard, Code.isCaller, Code.frames, Code.isFrame, guardIds]
theorem make_units {A : Around} {C : Addr} {us : List Value} {kw : List (Str × Value)} : (A.under (.builtin "type.__call__" ⟨.ref C :: us, kw⟩)).units = A.units + 1 := by
  first | rfl | simp [Around.under, Code.cUnits, Code.frames, Code.isFrame]
theorem Room.make {c : Bool} {k : Nat} {A : Around} (r : Room c (k + 1) A) (C : Addr) (us : List Value) (kw : List (Str × Value)) : Room c k (A.under (.builtin "type.__call__" ⟨.ref C :: us, kw⟩)) :=
  ⟨r.hd, by have := r.dp; rw [make_depth]; omega, by have := r.un; rw [make_units]; omega, by first | exact r.gd | simpa [Around.under, Code.isGuard, guardIds] using r.gd⟩
theorem Room.depth {c : Bool} {k : Nat} {A : Around} (r : Room c k A) : A.depth < recursionLimit := by have := r.dp; omega
theorem Room.units {c : Bool} {k : Nat} {A : Around} (r : Room c k A) : A.units + 64 < cLine := by have := r.un; omega
/-! ### argument lists and displays -/
def tNil : TA := fun _ H Q => Q [] H
def tCons (ta : TE) (tr : TA) : TA := fun σ H Q => ta σ H fun x H1 => tr σ H1 fun xs H2 => Q (x :: xs) H2
section
variable {X : Cx} {e : Expr} {es : List Expr} {te : TE} {t : TA} {pos : Pos}
theorem pa_nil : PA X [] tNil := fun _ _ _ _ H Q I h => Calls.spliced_nil ⟨[], H, I, .nil, h⟩
theorem pa_cons (ha : PE X e te) (hr : PA X es t) (hs : starEach (e :: es) X.env = (false, eval e X.env) :: starEach es X.env := by rfl) : PA X (e :: es) (tCons te t) := by
  intro pos pins s σ H Q I h
  rw [hs]
  show wpAny _ _ (spliced ((false, eval e X.env) :: backTo pos (starEach es X.env))) _ _ s
  refine Calls.spliced_cons (thn (ha pins s σ H _ I h) fun u s1 ⟨x, H1, I1, r1, q1⟩ => ?_)
  exact thn (hr pos pins s1 σ H1 _ I1 q1) fun us s2 ⟨xs, H2, I2, r2, q2⟩ => ⟨x :: xs, H2, I2, .cons r1 r2, q2⟩

/-- a tuple, a list of written items -/
def tTup (t : TA) : TE := fun σ H Q => t σ H fun xs H1 => xs.length ≤ sizeLine ∧ ∀ p, H1 p = none → Q (.ref p) (upd H1 p (.tup xs))
theorem pe_tup {x1} (h : PA X es t) : PE X (.Tuple es x1 pos) (tTup t) := by
  intro pins s σ H Q I hq
  refine wpAny_Tuple_spliced (thn (h pos pins s σ H _ I hq) fun us s1 ⟨xs, H1, I1, r, z, q⟩ => ⟨by rw [← r.length]; exact z, ?_⟩)
  have hf : H1 s1.heap.objs.size = none := I1.hok.fresh (Nat.le_refl _)
  refine ⟨.ref s1.heap.objs.size, upd H1 s1.heap.objs.size (.tup xs), I1.laid (t' := s1.toks) (fun b u e => Heap.get?_push_of_some _ e) (Nat.le_refl _) ?_, rfl, q _ hf⟩
  exact ⟨z, us, r, ⟨_, Heap.get?_push_size _ rfl, rfl, _, rfl⟩⟩
end

/-! ### what a def promises -/
/-- a def's promise: the bound arguments in the parameters' order, the heap, the wanted end, the wanted exception -/
abbrev Sp := List V → Hp → VK → XK → Prop
/-- how an exception lies behind a call (file 08 gives it): the callers' frames, abstract heap and state ahead of the call, the wish, the exception, the state -/
abbrev CXT := List Env → Hp → Shared → XK → Value → Shared → Prop

/-- the state at a call -/
structure Env0 (P : Program) (w : World) (K : PySem.W.Frag) (mg : Str → Option Value) (base : Heap) (A : Around) (outer : List Env) (s : Shared) (H : Hp) : Prop where
  frames : A.frames = some outer
  hdk : HdOk A H
  mod : Mod K mg base
  bs : ∀ b o, base.get? b = some o → s.heap.get? b = some o ∧ H b = none
  bsz : base.objs.size ≤ s.heap.objs.size
  funs : s.heap.FunFrames base outer
  frf : ∀ b ∈ frs outer, H b = none
  hok : HOk P w H s.heap
  bare : AllBare s.gens
/-- a call's end -/
def CE (outer : List Env) (P : Program) (w : World) (H : Hp) (s : Shared) (Q : VK) (u : Value) (s' : Shared) : Prop :=
  ∃ v H', s'.os = s.os ∧ AllBare s'.gens ∧ Un (frs outer) [] H H' s.heap s'.heap ∧ HOk P w H' s'.heap ∧ RelV v u ∧ Q v H'
def CR (CX : CXT) (outer : List Env) (P : Program) (w : World) (H : Hp) (s : Shared) (Q : VK) (E : XK) (r : Result) (s' : Shared) : Prop :=
  match r with
  | .ok (.ret u) => CE outer P w H s Q u s'
  | .ok _ => False
  | .error e => CX outer H s E e s'
structure FnOk (P : Program) (w : World) (K : PySem.W.Frag) (mg : Str → Option Value) (base : Heap) (CX : CXT) (c : Bool) (k : Nat) (f : Addr) (fd : FuncData) (ps : List Str) (sp : Sp) : Prop where
  len : ∀ vs H Q E, sp vs H Q E → vs.length = ps.length
  run : ∀ (A : Around) (outer : List Env) (s : Shared) (H : Hp) (args : Args) (us : List Value) (vs : List V) (Q : VK) (E : XK), Room c k A → Env0 P w K mg base A outer s H → BindsTo s fd args (ps.zip us) → Vals vs us → sp vs H Q E →
    codeAny (model P w) A (.call (.ref f) args) (CR CX outer P w H s Q E) s
theorem FnOk.mono {P : Program} {w : World} {K : PySem.W.Frag} {mg : Str → Option Value} {base : Heap} {CX : CXT} {c : Bool} {j k : Nat} {f : Addr} {fd : FuncData} {ps : List Str} {sp : Sp} (F : FnOk P w K mg base CX c j f fd ps sp) (h : j ≤ k) :
    FnOk P w K mg base CX c k f fd ps sp := ⟨F.len, fun A outer s H args us vs Q E hr => F.run A outer s H args us vs Q E (hr.mono h)⟩
theorem FnOk.calm {P : Program} {w : World} {K : PySem.W.Frag} {mg : Str → Option Value} {base : Heap} {CX : CXT} {c : Bool} {k : Nat} {f : Addr} {fd : FuncData} {ps : List Str} {sp : Sp} (F : FnOk P w K mg base CX false k f fd ps sp) :
    FnOk P w K mg base CX c k f fd ps sp := ⟨F.len, fun A outer s H args us vs Q E hr => F.run A outer s H args us vs Q E hr.weak⟩
theorem Env0.make {P : Program} {w : World} {K : PySem.W.Frag} {mg : Str → Option Value} {base : Heap} {A : Around} {outer : List Env} {s : Shared} {H : Hp} (e : Env0 P w K mg base A outer s H) (C : Addr) (us : List Value) (kw : List (Str × Value)) :
    Env0 P w K mg base (A.under (.builtin "type.__call__" ⟨.ref C :: us, kw⟩)) outer s H := ⟨by first | exact e.frames | (simpa [Around.under, Code.envs, Code.isFrame, pushEnvs] using e.frames), e.hdk, e.mod, e.bs, e.bsz, e.funs, e.frf, e.hok, e.bare⟩
theorem Env0.in1 {P : Program} {w : World} {K : PySem.W.Frag} {mg : Str → Option Value} {base : Heap} {A : Around} {outer : List Env} {s : Shared} {H : Hp} (e : Env0 P w K mg base A outer s H) :
    Env0 P w K mg base A.in1 outer s H := ⟨e.frames, e.hdk, e.mod, e.bs, e.bsz, e.funs, e.frf, e.hok, e.bare⟩

section
variable {X : Cx} {pins : List (Addr × Obj)} {σ : St} {H : Hp} {s s' : Shared}
/-- from a body: what a callee wants -/
theorem Inv.env0 (I : Inv X pins σ H s) : Env0 X.prog X.w X.K X.mg X.base X.A X.stack s H :=
  ⟨I.ok.frames, I.hdk, I.ok.mod, I.bs, Nat.le_trans I.ok.bsz I.sz, I.stack, I.stkFree, I.hok, I.bare⟩
/-- behind a call -/
theorem Inv.after {Q : VK} {u : Value} (I : Inv X pins σ H s) (h : CE X.stack X.prog X.w H s Q u s') : EP X pins σ Q u s' := by
  obtain ⟨v, H', os, bare, un, hok, r, q⟩ := h
  obtain ⟨hh, g, d, t, os'⟩ := s'
  obtain rfl : os' = s.os := os
  exact ⟨v, H', I.call (h' := hh) (g' := g) (d' := d) (t' := t) (ch := []) un hok bare (fun b z => absurd z (by simp)), r, q⟩
end

/-! ### calls -/
/-- f(..): the written arguments, then the defaults dvs; E: what is wanted of an exception -/
def tCall (sp : Sp) (dvs : List V) (E : XK) (t : TA) : TE := fun σ H Q => t σ H fun vs H1 => sp (vs ++ dvs) H1 Q E
/-- o.m(..) of an instance of the class at C -/
def tMeth (C : Addr) (m : Str) (sp : Sp) (dvs : List V) (E : XK) (ta : TE) (t : TA) : TE := fun σ H Q => ta σ H fun x H1 => ∃ a dx fs, x = .ref a ∧ H1 a = some (.ins C dx fs) ∧ fs.lookup m = none ∧
  t σ H1 fun vs H2 => sp (x :: (vs ++ dvs)) H2 Q E
/-- how the parameters are bound: us the positional arguments, kw the keywords' values by name, ds the defaults that fill up -/
def Binds (K : PySem.W.Frag) (fd : FuncData) (ps : List Str) (ds : List Value) : Prop :=
  ∀ (s : Shared) (us : List Value), K.In s.heap → (us ++ ds).length = ps.length → BindsTo s fd ⟨us, []⟩ (ps.zip (us ++ ds))
/-- every parameter is given -/
theorem Binds.all {K : PySem.W.Frag} {fd : FuncData} {ps : List Str} (h : ∀ us : List Value, us.length = ps.length → bindArgs fd ⟨us, []⟩ = pure (ps.zip us)) : Binds K fd ps [] := fun s us _ hl => by
  rw [List.append_nil] at hl ⊢
  exact .of_eq (h us hl)

/-- an exception of a callee reaches what this body wants of exceptions -/
def Passes (CX : CXT) (X : Cx) (E : XK) : Prop := ∀ (pins : List (Addr × Obj)) (σ : St) (H : Hp) (s : Shared) (e : Value) (s' : Shared), Inv X pins σ H s → CX X.stack H s E e s' → X.xe e s'

section
variable {X : Cx} {CX : CXT} {cm : Bool} {k : Nat} {f C : Addr} {fd : FuncData} {ps : List Str} {sp : Sp} {dvs : List V} {ds : List Value} {E : XK} {x m : Str} {p pos apos : Pos} {e o : Expr} {es : List Expr} {ta : TE} {t : TA}

/-- the callee runs -/
theorem run_fn {pins : List (Addr × Obj)} {σ : St} {H : Hp} {s : Shared} {Q : VK} {us : List Value} {vs : List V} (F : FnOk X.prog X.w X.K X.mg X.base CX cm k f fd ps sp) (hr : Room cm k X.A) (hb : Binds X.K fd ps ds) (hd : Vals dvs ds) (hx : Passes CX X E)
    (I : Inv X pins σ H s) (r : Vals vs us) (h : sp (vs ++ dvs) H Q E) : wpAny (model X.prog X.w) X.A (call (.ref f) us) (EP X pins σ Q) X.xe s := by
  have r2 : Vals (vs ++ dvs) (us ++ ds) := r.append hd
  have hl : (us ++ ds).length = ps.length := by rw [← r2.length]; exact F.len _ _ _ _ h
  refine wpAny_call (codeAny_mono (F.run X.A X.stack s H ⟨us, []⟩ (us ++ ds) (vs ++ dvs) Q E hr I.env0 (hb s us I.kIn hl) r2 h) fun r s' hq => ?_)
  cases r with
  | error e => exact hx pins σ H s e s' I hq
  | ok fl =>
    cases fl with
    | ret u => exact I.after hq
    | next => exact False.elim hq
    | brk => exact False.elim hq
    | cont => exact False.elim hq

theorem pe_call (F : FnOk X.prog X.w X.K X.mg X.base CX cm k f fd ps sp) (hr : Room cm k X.A) (hg : Gl X x) (hm : X.mg x = some (.ref f)) (hk : PySem.W.keepIn X.K (.ref f) = true) (hb : Binds X.K fd ps ds) (hd : Vals dvs ds) (hx : Passes CX X E)
    (ha : PA X (e :: es) t) (hdb : (x == ("__debug__" : Str)) = false := by decide) (he : starEach (e :: es) X.env = (false, eval e X.env) :: starEach es X.env := by rfl) (hpl : (backTo pos (starEach es X.env)).any (·.1) = false := by rfl) :
    PE X (.Call (.Name x p) (e :: es) [] pos) (tCall sp dvs E t) := by
  intro pins s σ H Q I h
  refine wpAny_Call_Name_kw (ld_glob I hg hm ?_ hdb)
  refine PySem.W.callWith_K (h₀ := X.base) I.ok.mod.kin hk (thn (ha pos pins s σ H _ I h) fun us s1 ⟨vs, H1, I1, r, q⟩ => ⟨I1.kIn, ?_⟩) he hpl
  exact run_fn F hr hb hd hx I1 r q
theorem pe_call0 (F : FnOk X.prog X.w X.K X.mg X.base CX cm k f fd ps sp) (hr : Room cm k X.A) (hg : Gl X x) (hm : X.mg x = some (.ref f)) (hk : PySem.W.keepIn X.K (.ref f) = true) (hb : Binds X.K fd ps ds) (hd : Vals dvs ds) (hx : Passes CX X E)
    (hdb : (x == ("__debug__" : Str)) = false := by decide) : PE X (.Call (.Name x p) [] [] pos) (tCall sp dvs E tNil) := by
  intro pins s σ H Q I h
  refine wpAny_Call_Name_kw (ld_glob I hg hm ?_ hdb)
  exact PySem.W.callWith_K0 I.kIn hk (run_fn (us := []) F hr hb hd hx I .nil h)

/-- o.m(e, ..) -/
theorem pe_meth {pl : Sem Bool} (he : PE X o ta) (c : Cls X.K C) (hm : Meth X.K C m f) (F : FnOk X.prog X.w X.K X.mg X.base CX cm k f fd ps sp) (hr : Room cm k X.A) (hb : Binds X.K fd ps ds) (hd : Vals dvs ds) (hx : Passes CX X E) (ha : PA X (e :: es) t)
    (hst : starEach (e :: es) X.env = (false, eval e X.env) :: starEach es X.env := by rfl) (hpl : (backTo pos (starEach es X.env)).any (·.1) = false := by rfl)
    (ht : eval (.Call (.Attribute o m apos) (e :: es) [] pos) X.env = (do
      let ov ← eval o X.env
      standAt apos.atName
      let (f, first) ← holding [ov] (getMethod ov m pl)
      callWith pos f first (backTo pos (starEach (e :: es) X.env)) (backToKw pos (keywordEach [] X.env))) := by rfl) :
    PE X (.Call (.Attribute o m apos) (e :: es) [] pos) (tMeth C m sp dvs E ta t) := by
  intro pins s σ H Q I h
  refine PySem.W.methodCall_KW (pl := pl) (thn (he pins s σ H _ I h) fun u s1 ⟨x, H1, I1, rx, a, dx, fs, ex, ea, l, q⟩ => ?_) ht
  subst ex
  obtain rfl : u = Value.ref a := rx
  refine getmeth_ok I1 ea c hm l ?_
  refine PySem.W.callWith_K (first := [.ref a]) (h₀ := X.base) I.ok.mod.kin hm.kp (thn (ha pos pins s1 σ H1 _ I1 q) fun us s2 ⟨vs, H2, I2, r, q2⟩ => ⟨I2.kIn, ?_⟩) hst hpl
  exact run_fn (us := .ref a :: us) (vs := .ref a :: vs) F hr hb hd hx I2 (.cons rfl r) q2
/-- o.m() -/
theorem pe_meth0 {pl : Sem Bool} (he : PE X o ta) (c : Cls X.K C) (hm : Meth X.K C m f) (F : FnOk X.prog X.w X.K X.mg X.base CX cm k f fd ps sp) (hr : Room cm k X.A) (hb : Binds X.K fd ps ds) (hd : Vals dvs ds) (hx : Passes CX X E)
    (ht : eval (.Call (.Attribute o m apos) [] [] pos) X.env = (do
      let ov ← eval o X.env
      standAt apos.atName
      let (f, first) ← holding [ov] (getMethod ov m pl)
      callWith pos f first (backTo pos (starEach [] X.env)) (backToKw pos (keywordEach [] X.env))) := by rfl) :
    PE X (.Call (.Attribute o m apos) [] [] pos) (tMeth C m sp dvs E ta tNil) := by
  intro pins s σ H Q I h
  refine PySem.W.methodCall_KW (pl := pl) (thn (he pins s σ H _ I h) fun u s1 ⟨x, H1, I1, rx, a, dx, fs, ex, ea, l, q⟩ => ?_) ht
  subst ex
  obtain rfl : u = Value.ref a := rx
  refine getmeth_ok I1 ea c hm l ?_
  exact PySem.W.callWith_K0 (first := [.ref a]) I1.kIn hm.kp (run_fn (us := [.ref a]) (vs := [.ref a]) F hr hb hd hx I1 (.cons rfl .nil) q)

/-- what a class must have to be made -/
structure Mk (K : PySem.W.Frag) (C f : Addr) : Prop where
  makes : PySem.W.makesIn K C = true
  init : PySem.W.findIn K (.ref C) "__init__" = some (some (.ref f))
  fn : PySem.W.isFn K (.ref f) = true
  kp : PySem.W.keepIn K (.ref C) = true

end

/-! ### keywords -/
section
variable {X : Cx} {CX : CXT} {cm : Bool} {k : Nat} {f C : Addr} {fd : FuncData} {ps ks : List Str} {sp : Sp} {E : XK} {x m : Str} {p pos apos kpos : Pos} {e o : Expr} {es : List Expr} {kws : List Keyword} {te ta : TE} {t tk : TA} {nm : Option Str}
variable {g : List Value → List Value → List Value} {gV : List V → List V → List V}
end

/-! ### a def's body keeps its promise -/
/-- names: the parameters first -/
structure FnScope (N P : List Str) (sc : Scope) : Prop where
  kind : sc.kind = .function
  co : sc.isCoroutine = false
  gen : sc.isGenerator = false
  nd : N.Nodup
  pre : N.take P.length = P
  par : ∀ x ∈ P, sc.names.lookup x = some .local ∨ sc.names.lookup x = some .cell
  nofree : ∀ y ∈ sc.names, y.2 ≠ .free

theorem bindL_out {kindOf : Str → Option NameKind} {x : Str} : ∀ {binds : List (Str × Value)} {m : Str → Option Value}, (∀ v, (x, v) ∉ binds) → bindL kindOf binds m x = m x
  | [], _, _ => rfl
  | (n, v) :: r, m, h => by
    unfold bindL
    rw [bindL_out fun w hw => h w (List.mem_cons_of_mem _ hw)]
    split
    · have : x ≠ n := by rintro rfl; exact h v List.mem_cons_self
      simp [this]
    · rfl
theorem bindC_out {kindOf : Str → Option NameKind} {x : Str} : ∀ {binds : List (Str × Value)} {m : Str → Option Value}, (∀ v, (x, v) ∉ binds) → bindC kindOf binds m x = m x
  | [], _, _ => rfl
  | (n, v) :: r, m, h => by
    unfold bindC
    rw [bindC_out fun w hw => h w (List.mem_cons_of_mem _ hw)]
    split
    · rfl
    · have : x ≠ n := by rintro rfl; exact h v List.mem_cons_self
      simp [this]
theorem bindL_get {kindOf : Str → Option NameKind} {x : Str} {v : Value} : ∀ {P : List Str} {vs : List Value} {i : Nat} {m : Str → Option Value}, P.Nodup → P[i]? = some x → vs[i]? = some v → kindOf x = some .local →
    bindL kindOf (P.zip vs) m x = some v
  | [], _, _, _, _, h, _, _ => by simp at h
  | _ :: _, [], _, _, _, _, h, _ => by simp at h
  | p :: P, w :: vs, 0, m, nd, h1, h2, hk => by
    simp at h1 h2; subst h1; subst h2
    show bindL kindOf ((p, w) :: P.zip vs) m p = _
    unfold bindL
    rw [bindL_out fun v hv => (List.nodup_cons.mp nd).1 (List.of_mem_zip hv).1, if_pos hk]
    simp
  | p :: P, w :: vs, i + 1, m, nd, h1, h2, hk => by
    show bindL kindOf ((p, w) :: P.zip vs) m x = _
    unfold bindL
    exact bindL_get (i := i) (List.nodup_cons.mp nd).2 (by simpa using h1) (by simpa using h2) hk
theorem bindC_get {kindOf : Str → Option NameKind} {x : Str} {v : Value} : ∀ {P : List Str} {vs : List Value} {i : Nat} {m : Str → Option Value}, P.Nodup → P[i]? = some x → vs[i]? = some v → kindOf x ≠ some .local →
    bindC kindOf (P.zip vs) m x = some v
  | [], _, _, _, _, h, _, _ => by simp at h
  | _ :: _, [], _, _, _, _, h, _ => by simp at h
  | p :: P, w :: vs, 0, m, nd, h1, h2, hk => by
    simp at h1 h2; subst h1; subst h2
    show bindC kindOf ((p, w) :: P.zip vs) m p = _
    unfold bindC
    rw [bindC_out fun v hv => (List.nodup_cons.mp nd).1 (List.of_mem_zip hv).1, if_neg hk]
    simp
  | p :: P, w :: vs, i + 1, m, nd, h1, h2, hk => by
    show bindC kindOf ((p, w) :: P.zip vs) m x = _
    unfold bindC
    exact bindC_get (i := i) (List.nodup_cons.mp nd).2 (by simpa using h1) (by simpa using h2) hk

/-- the names' values at the entry -/
def start (N : List Str) (vs : List V) : St := vs.map some ++ List.replicate (N.length - vs.length) none

/-- the context of a def's body, at its entry; an exception leaves the frame, then lies as CX says -/
def cxOf (CX : CXT) (cm : Bool) (P : Program) (w : World) (K : PySem.W.Frag) (mg : Str → Option Value) (base : Heap) (N : List Str) (qual : Str) (scope : Scope) (f : Addr) (cd : Value) (A : Around) (outer : List Env) (s : Shared) (H : Hp) (E : XK) : Cx where
  prog := P
  w := w
  K := K
  mg := mg
  base := base
  A := A.deeper (envOfC qual scope s.heap.objs.size f cd)
  N := N
  s₀ := s
  H₀ := H
  env := envOfC qual scope s.heap.objs.size f cd
  outer := outer
  stack := envOfC qual scope s.heap.objs.size f cd :: outer
  ex := []
  calm := cm
  fn := fun _ => true
  pn := []
  xe := fun e s' => wpAny (model P w) (A.deeper (envOfC qual scope s.heap.objs.size f cd)) (leaving (envOfC qual scope s.heap.objs.size f cd) e) (fun _ s'' => CX outer H s E e s'') (fun e' s'' => CX outer H s E e' s'') s'

theorem cell_has {sc : Scope} {n : Nat} {x : Str} (h : sc.names.lookup x = some .cell) : ∃ c, (cellsFrom n sc.names []).lookup x = some c := by
  have q := PySem.W.cellsFrom_some sc.names n [] (.inl h)
  exact Option.isSome_iff_exists.mp q

theorem inv_start {CX : CXT} {cm : Bool} {P : Program} {w : World} {K : PySem.W.Frag} {mg : Str → Option Value} {base : Heap} {N ps : List Str} {qual : Str} {scope : Scope} {f : Addr} {cd : Value} {A : Around} {outer : List Env} {s s1 : Shared} {H : Hp} {E : XK} {us : List Value} {vs : List V}
    (S : FnScope N ps scope) (hd : cm = true → A.handled = none) (e0 : Env0 P w K mg base A outer s H) (hl : vs.length = ps.length) (r : Vals vs us)
    (x : InCallC s s.heap.objs.size (bindL (envOfC qual scope s.heap.objs.size f cd).kindOf (ps.zip us) fun _ => none) (cellsFrom (s.heap.objs.size + 1) scope.names []) (bindC (envOfC qual scope s.heap.objs.size f cd).kindOf (ps.zip us) fun _ => none) s1) :
    Inv (cxOf CX cm P w K mg base N qual scope f cd A outer s H E) [] (start N vs) H s1 := by
  have hpl : ps.length ≤ N.length := by have := congrArg List.length S.pre; rw [List.length_take] at this; omega
  obtain ⟨h1, tk, rfl, hk⟩ := x.done
  have noA : ∀ b : Addr, b ∉ (cxOf CX cm P w K mg base N qual scope f cd A outer s H E).ex := fun b z => absurd (show b ∈ ([] : List Addr) from z) (by simp)
  refine ⟨⟨e0.mod, S.kind, rfl, rfl, Nat.le_refl _, fun y z c h1 h2 => ?_, fun y hy => ?_, fun y c _ h => ?_, hd, Around.frames_deeper e0.frames, .inr ⟨rfl, rfl⟩, fun b z => absurd z (noA b), e0.bs, e0.bsz, fun b _ _ => noA b, fun b z => absurd z (noA b), e0.funs, e0.frf⟩,
    rfl, e0.bare, Un.kept hk, ⟨_, x.toInCall.ns, fun i y v h1 h2 h3 => ?_⟩, fun y c h => ⟨_, x.cell y c h⟩, e0.hok.fresh (Nat.le_refl _), fun y c h => ?_, fun p hp => absurd (show p ∈ ([] : List (Addr × Obj)) from hp) (by simp), e0.hok.kept hk, ?_, e0.hdk⟩
  · exact name_of_addr x.apart (PySem.mem_of_lookup h1) (PySem.mem_of_lookup h2)
  · have hy : scope.names.lookup y = some .cell ∨ scope.names.lookup y = some .free := hy
    rcases hy with hy | hy
    · exact cell_has hy
    · exact absurd rfl (S.nofree _ (PySem.mem_of_lookup hy))
  · exact Nat.le_of_lt (x.above y c (PySem.mem_of_lookup h))
  · have hi : i < vs.length := by
      unfold start at h2
      by_cases hi : i < vs.length
      · exact hi
      · rw [List.getElem?_append_right (by simpa using hi)] at h2
        rw [List.getElem?_replicate] at h2
        split at h2 <;> cases h2
    have ha : vs[i]? = some v := by
      unfold start at h2
      rw [List.getElem?_append_left (by simpa using hi), List.getElem?_map] at h2
      cases e : vs[i]? with
      | none => rw [e] at h2; cases h2
      | some a => rw [e] at h2; cases h2; rfl
    obtain ⟨u, hu, rv⟩ := r.get ha
    have hp : ps[i]? = some y := by
      rw [← S.pre, List.getElem?_take_of_lt (by omega)]; exact h1
    have ndP : ps.Nodup := by rw [← S.pre]; exact S.nd.sublist (List.take_sublist _ _)
    refine ⟨u, rv, ?_⟩
    rcases S.par y (List.mem_of_getElem? hp) with k | k
    · exact .inl ⟨k, bindL_get ndP hp hu k⟩
    · obtain ⟨c, e⟩ := cell_has (n := s.heap.objs.size + 1) k
      refine .inr ⟨.inl k, c, e, ?_⟩
      have q := x.cell y c e
      rw [bindC_get ndP hp hu (by show scope.names.lookup y ≠ _; rw [k]; decide)] at q
      exact q
  · exact e0.hok.fresh (Nat.le_of_lt (x.above y c (PySem.mem_of_lookup h)))
  · unfold start
    show _ = N.length
    rw [List.length_append, List.length_map, List.length_replicate]
    omega

/-- THE RULE: a def (or a method) of the text, by its body. The body's reading t is chosen for each entry; it is run at the parameters' values -/
theorem fn_of {CX : CXT} {cm : Bool} {P : Program} {w : World} {K : PySem.W.Frag} {mg : Str → Option Value} {base : Heap} {k : Nat} {f : Addr} {name qual : Str} {params : Arguments} {body : List Stmt} {scope : Scope} {dV kV doc pm cdv ct oc : Value} {an od : Option Addr}
    {osl : Array (Option Value)} {N ps : List Str} {sp : Sp} (lk : K.lookup f = some ⟨oc, od, .func (PySem.W.fnOf name qual params body scope dV kV doc pm an cdv ct), osl⟩) (hcd : PySem.W.codeIn K cdv qual = true) (S : FnScope N ps scope)
    (len : ∀ vs H Q E, sp vs H Q E → vs.length = ps.length)
    (hbody : ∀ (A : Around) (outer : List Env) (s : Shared) (H : Hp) (vs : List V) (Q : VK) (E : XK), Room cm k (A.deeper (envOfC qual scope s.heap.objs.size f cdv)) → sp vs H Q E →
      ∃ t, PSs (cxOf CX cm P w K mg base N qual scope f cdv A outer s H E) body t ∧ t { nx := fun _ H' => Q .non H', rt := Q } (start N vs) H) :
    FnOk P w K mg base CX cm (k + 1) f (PySem.W.fnOf name qual params body scope dV kV doc pm an cdv ct) ps sp := by
  refine ⟨len, fun A outer s H args us vs Q E hr e0 hb r hsp => ?_⟩
  have hl := len _ _ _ _ hsp
  have KX : K.In s.heap := e0.mod.kin.keeps fun b o e => (e0.bs b o e).1
  have lim : s.heap.NoLimit := e0.mod.nolimit.keeps fun b o e => (e0.bs b o e).1
  have hkind : ∀ y ∈ ps.zip us, scope.names.lookup y.1 = some .local ∨ (scope.names.lookup y.1 = some .cell ∧ ((cellsFrom (s.heap.objs.size + 1) scope.names []).lookup y.1).isSome = true) := fun ⟨n, v⟩ hy => by
    rcases S.par n (List.of_mem_zip hy).1 with q | q
    · exact .inl q
    · exact .inr ⟨q, PySem.W.cellsFrom_some _ _ _ (.inl q)⟩
  refine codeAny_call_function hr.depth (KX _ _ lk) rfl S.co S.gen rfl (PySem.W.codeRec_of KX hcd) (hb _ _ _ _ ?_)
  refine wpAny_newFunctionEnv_cells S.kind hkind fun env he s1 x => ?_
  subst he
  refine ⟨lim.keeps x.toInCall.keep, codeAny_func ?_⟩
  obtain ⟨t, ht, hq⟩ := hbody A outer s H vs Q E (hr.deeper _) hsp
  have I : Inv (cxOf CX cm P w K mg base N qual scope f cdv A outer s H E) [] (start N vs) H s1 := inv_start S hr.hd e0 hl r x
  refine wpAny_mono (ht [] s1 (start N vs) H _ I hq) (fun fl s' hs => ?_) fun e s' hs => hs
  have fin : ∀ {σ' : St} {H' : Hp} {v : V} {u : Value}, Inv (cxOf CX cm P w K mg base N qual scope f cdv A outer s H E) [] σ' H' s' → RelV v u → Q v H' → CE outer P w H s Q u s' :=
    fun {σ' H' v u} J rv q => ⟨v, H', J.os, J.bare, J.base, J.hok, rv, q⟩
  cases fl with
  | ret u =>
    obtain ⟨v, σ', H', J, rv, q⟩ := hs
    exact fin J rv q
  | next =>
    obtain ⟨σ', H', J, q⟩ := hs
    exact fin (v := V.non) (u := Value.none) J rfl q
  | brk =>
    obtain ⟨_, _, _, q⟩ := hs
    exact False.elim q
  | cont =>
    obtain ⟨_, _, _, q⟩ := hs
    exact False.elim q
end L2

namespace L2
open PySem PySem.Spec PyProof.Rows
section
variable {X : Cx} {x : Str} {p pos : Pos} {e : Expr} {es : List Expr} {t : TA} {id T : String} {r : List V → Hp → VK → Prop}

def tCB (r : List V → Hp → VK → Prop) (t : TA) : TE := fun σ H Q => t σ H fun vs H1 => r vs H1 Q
/-- f(e, ..), f a built-in function -/
theorem pe_callB (hc : CallR X (.builtin id) r) (hg : Gl X x) (hm : X.mg x = none) (hv : bootBuiltins x = some (.builtin id)) (ha : PA X (e :: es) t) (hn : x ≠ "__name__" := by decide) (hdb : (x == ("__debug__" : Str)) = false := by decide)
    (he : starEach (e :: es) X.env = (false, eval e X.env) :: starEach es X.env := by rfl) (hpl : (backTo pos (starEach es X.env)).any (·.1) = false := by rfl) : PE X (.Call (.Name x p) (e :: es) [] pos) (tCB r t) := by
  intro pins s σ H Q I h
  refine wpAny_Call_Name_kw (ld_blt I hg hm hv ?_ hn hdb)
  exact PyProof.Rows.callWith_builtin1 (thn (ha pos pins s σ H _ I h) fun us s1 ⟨vs, H1, I1, r1, q1⟩ => hc pins s1 σ H1 vs us Q I1 r1 q1) he hpl
/-- T(e, ..), T a built-in type -/
theorem pe_callTy (hc : CallR X (.type T) r) (hg : Gl X x) (hm : X.mg x = none) (hv : bootBuiltins x = some (.type T)) (ha : PA X (e :: es) t) (hn : x ≠ "__name__" := by decide) (hdb : (x == ("__debug__" : Str)) = false := by decide)
    (he : starEach (e :: es) X.env = (false, eval e X.env) :: starEach es X.env := by rfl) (hpl : (backTo pos (starEach es X.env)).any (·.1) = false := by rfl) : PE X (.Call (.Name x p) (e :: es) [] pos) (tCB r t) := by
  intro pins s σ H Q I h
  refine wpAny_Call_Name_kw (ld_blt I hg hm hv ?_ hn hdb)
  exact PyProof.Rows.callWith_type1 (thn (ha pos pins s σ H _ I h) fun us s1 ⟨vs, H1, I1, r1, q1⟩ => hc pins s1 σ H1 vs us Q I1 r1 q1) he hpl
end
end L2

namespace HT
open PySem PyProof.Rows

section
open PySem.SeqAt
open PySem.AutoSeq1 (wpAny_loadPart')
open PySem.MeetsSeq PySem.MeetsSeq2 PySem.MeetsSeq3

end

section
variable {prog : Program} {w : World} {A : Around} {E : Value → Shared → Prop} {s : Shared}

/-! ### t[a:b], not the whole -/
/-- a slice's bound as a place among n (d where it is left out) -/
def sIx (n d : Nat) : Option Int → Nat
  | none => d
  | some v => if v < 0 then (v + (n : Int)).toNat else min v.toNat n
end
end HT

namespace L2
open PySem PySem.Spec PyProof.Rows

/-! ### the parts of a slice -/
abbrev TO := St → Hp → (Option Int → Hp → Prop) → Prop
/-- a slice's part (left out, or an int) -/
def PO (X : Cx) (e : Option Expr) (t : TO) : Prop :=
  ∀ (pins : List (Addr × Obj)) (s : Shared) (σ : St) (H : Hp) (Q : Option Int → Hp → Prop), Inv X pins σ H s → t σ H Q →
    wpAny (model X.prog X.w) X.A (evalPart e X.env) (fun u s' => ∃ o H', Inv X pins σ H' s' ∧ IsPart u o ∧ Q o H') X.xe s
def tNoPart : TO := fun _ H Q => Q none H
def tPart (t : TE) : TO := fun σ H Q => t σ H fun x H1 => ∃ i, x = .int i ∧ Q (some i) H1

section
variable {X : Cx} {e : Expr} {te : TE} {lo hi : Option Expr} {tl th : TO} {pos p2 : Pos}

theorem po_none : PO X none tNoPart := by
  intro pins s σ H Q I h
  rw [evalPart_none]
  exact wpAny_pure ⟨none, H, I, .none, h⟩
theorem po_some (h : PE X e te) : PO X (some e) (tPart te) := by
  intro pins s σ H Q I hw
  rw [evalPart_some]
  refine thn (h pins s σ H _ I hw) fun u s1 ⟨x, H1, I1, r1, q1⟩ => ?_
  obtain ⟨i, rfl, q⟩ := q1
  obtain ⟨t, rfl⟩ := r1
  exact ⟨some i, H1, I1, .int i t, q⟩

/-- what a slice of a value is, by values: the slice object stands at sl -/
def SlR (X : Cx) (r : V → Option Int → Option Int → Hp → VK → Prop) : Prop :=
  ∀ (pins : List (Addr × Obj)) (s : Shared) (σ : St) (H : Hp) (x : V) (v vl vu : Value) (lo hi : Option Int) (sl : Addr) (Q : VK), Inv X pins σ H s → RelV x v → s.heap.IsSliceOf sl vl vu .none → IsPart vl lo → IsPart vu hi → r x lo hi H Q →
    ∃ T id, typeLookup (.type T) "__getitem__" = pure (some (.builtin id)) ∧ s.TypeIs v T ∧ wpAny (model X.prog X.w) X.A (getItem v (.ref sl)) (EP X pins σ Q) X.xe s
theorem SlR.or {r r' : V → Option Int → Option Int → Hp → VK → Prop} (h : SlR X r) (h' : SlR X r') : SlR X (fun x lo hi H Q => r x lo hi H Q ∨ r' x lo hi H Q) := by
  intro pins s σ H x v vl vu lo hi sl Q I rx hs pl pu q
  rcases q with q | q
  · exact h pins s σ H x v vl vu lo hi sl Q I rx hs pl pu q
  · exact h' pins s σ H x v vl vu lo hi sl Q I rx hs pl pu q
def tSl (r : V → Option Int → Option Int → Hp → VK → Prop) (te : TE) (tl th : TO) : TE := fun σ H Q => te σ H fun x H1 => tl σ H1 fun l H2 => th σ H2 fun u H3 => r x l u H3 Q
/-- a[lo:hi], any a -/
theorem pe_slice {r : V → Option Int → Option Int → Hp → VK → Prop} (hr : SlR X r) (he : PE X e te) (hl : PO X lo tl) (hu : PO X hi th) : PE X (.Subscript e (.Slice lo hi none p2) pos) (tSl r te tl th) := by
  intro pins s σ H Q I h
  refine Subscript_ (thn (he pins s σ H _ I h) fun v s1 ⟨x, H1, I1, r1, q1⟩ => ?_)
  refine wpAny_Slice (thn (hl pins s1 σ H1 _ I1 q1) fun vl s2 ⟨l, H2, I2, pl, q2⟩ => thn (hu pins s2 σ H2 _ I2 q2) fun vu s3 ⟨u, H3, I3, pu, q3⟩ => ?_)
  rw [evalPart_none]
  refine wpAny_pure ?_
  have I4 : Inv X pins σ H3 { s3 with heap := s3.heap.push { cls := .type "slice", data := .fields #[vl, vu, .none] } } := I3.kept (t' := s3.toks) fun b ob q => Heap.get?_push_of_some _ q
  obtain ⟨T, id, hT, ht, hg⟩ := hr pins { s3 with heap := s3.heap.push { cls := .type "slice", data := .fields #[vl, vu, .none] } } σ H3 x v vl vu l u s3.heap.objs.size Q I4 r1 (Heap.IsSliceOf.new ..) pl pu q3
  show wpAny (model X.prog X.w) X.A (subscriptTail e (.Slice lo hi none p2) v (.ref s3.heap.objs.size)) (EP X pins σ Q) X.xe { s3 with heap := s3.heap.push { cls := .type "slice", data := .fields #[vl, vu, .none] } }
  exact tail_any (ops := [.ref s3.heap.objs.size, v]) ht hT hg (by with_unfolding_all rfl)

/-- the items of xs[lo:hi] -/
def cutV (xs : List V) (lo hi : Option Int) : List V := (xs.drop (HT.sIx xs.length 0 lo)).take (HT.sIx xs.length xs.length hi - HT.sIx xs.length 0 lo)
theorem cutV_length (xs : List V) (lo hi : Option Int) : (cutV xs lo hi).length ≤ xs.length := by
  unfold cutV
  rw [List.length_take, List.length_drop]
  omega
/-! ### t < u, t + u -/
end
end L2

namespace L2
open PySem PySem.Spec PyProof.Rows

/-! ### places -/
/-- the place that an index of any sign means -/
def ixN (n : Nat) (i : Int) : Option Nat := if 0 ≤ i then (if i < n then some i.toNat else none) else if -(n : Int) ≤ i then some (i + n).toNat else none
def atI {α : Type} (xs : List α) (i : Int) : Option α := (ixN xs.length i).bind fun j => xs[j]?
theorem ixN_seq {n : Nat} {i : Int} {j : Nat} (h : ixN n i = some j) : seqIndex? i n = some j ∧ j < n ∧ -(n : Int) ≤ i ∧ i < n := by
  unfold ixN at h
  by_cases h0 : 0 ≤ i
  · rw [if_pos h0] at h
    by_cases h1 : i < n
    · rw [if_pos h1] at h
      have e : i.toNat = j := Option.some.inj h
      exact ⟨by rw [seqIndex_of h0 h1, e], by omega, by omega, h1⟩
    · rw [if_neg h1] at h; cases h
  · rw [if_neg h0] at h
    by_cases h1 : -(n : Int) ≤ i
    · rw [if_pos h1] at h
      have e : (i + n).toNat = j := Option.some.inj h
      exact ⟨by rw [seqIndex_neg (by omega) h1, e], by omega, h1, by omega⟩
    · rw [if_neg h1] at h; cases h
theorem atI_get {α : Type} {xs : List α} {i : Int} {v : α} (h : atI xs i = some v) : ∃ j, seqIndex? i xs.length = some j ∧ xs[j]? = some v ∧ j < xs.length ∧ -(xs.length : Int) ≤ i ∧ i < xs.length := by
  unfold atI at h
  cases e : ixN xs.length i with
  | none => rw [e] at h; cases h
  | some j =>
    rw [e] at h
    obtain ⟨h1, h2, h3, h4⟩ := ixN_seq e
    exact ⟨j, h1, h, h2, h3, h4⟩
theorem atI_nat {α : Type} {xs : List α} {j : Nat} {v : α} (h : xs[j]? = some v) : atI xs (j : Int) = some v := by
  have hj : j < xs.length := (List.getElem?_eq_some_iff.mp h).1
  have e : ixN xs.length (j : Int) = some j := by
    unfold ixN
    rw [if_pos (by omega), if_pos (by omega)]; simp
  unfold atI; rw [e]; exact h
/-! ### what may be subscripted -/
/-- what stands as an index of a plain subscript -/
def PlainIx (b : Expr) : Prop := ∀ o i, subscripted b false o i = operate [o, i] (getItem o i)
/-- a subscript by values -/
def IxR (X : Cx) (r : R2) : Prop :=
  ∀ (value slice : Expr) (pins : List (Addr × Obj)) (s : Shared) (σ : St) (H : Hp) (x y : V) (v u : Value) (Q : VK), Inv X pins σ H s → RelV x v → RelV y u → r x y H Q →
    subscripted slice false v u = operate [v, u] (getItem v u) → wpAny (model X.prog X.w) X.A (subscriptTail value slice v u) (EP X pins σ Q) X.xe s
/-- a call of a builtin's method by values: the receiver, the arguments -/
def MtR (X : Cx) (id : String) (r : V → List V → Hp → VK → Prop) : Prop :=
  ∀ (pins : List (Addr × Obj)) (s : Shared) (σ : St) (H : Hp) (x : V) (xs : List V) (v : Value) (us : List Value) (Q : VK), Inv X pins σ H s → RelV x v → Vals xs us → r x xs H Q →
    wpAny (model X.prog X.w) X.A (call (.builtin id) (v :: us)) (EP X pins σ Q) X.xe s
section
variable {X : Cx} {a b : Expr} {ta tb : TE} {pos : Pos}
theorem IxR.or {r r' : R2} (h : IxR X r) (h' : IxR X r') : IxR X (fun x y H Q => r x y H Q ∨ r' x y H Q) := by
  intro value slice pins s σ H x y v u Q I rx ry q hs
  rcases q with q | q
  · exact h value slice pins s σ H x y v u Q I rx ry q hs
  · exact h' value slice pins s σ H x y v u Q I rx ry q hs
theorem MtR.or {id : String} {r r' : V → List V → Hp → VK → Prop} (h : MtR X id r) (h' : MtR X id r') : MtR X id (fun x xs H Q => r x xs H Q ∨ r' x xs H Q) := by
  intro pins s σ H x xs v us Q I rx rs q
  rcases q with q | q
  · exact h pins s σ H x xs v us Q I rx rs q
  · exact h' pins s σ H x xs v us Q I rx rs q
/-- a[b] -/
theorem pe_ix {r : R2} (hr : IxR X r) (ha : PE X a ta) (hb : PE X b tb) (hs : PlainIx b) : PE X (.Subscript a b pos) (tOp r ta tb) := by
  intro pins s σ H Q I h
  exact Subscript_ (binT ha hb I h fun v u s2 x y H2 I2 rx ry q => hr a b pins s2 σ H2 x y v u Q I2 rx ry q (hs _ _))

def rIxL (K : PySem.W.Frag) : R2 := fun x y H Q => ∃ p xs i v, x = .ref p ∧ y = .int i ∧ SqL K H p xs ∧ atI xs i = some v ∧ Q v H
def rIxT (K : PySem.W.Frag) : R2 := fun x y H Q => ∃ p xs i v, x = .ref p ∧ y = .int i ∧ SqT K H p xs ∧ atI xs i = some v ∧ Q v H
def rIxS : R2 := fun x y H Q => ∃ z i c, x = .str z ∧ y = .int i ∧ z.length ≤ sizeLine ∧ atI z.cps.toList i = some c ∧ Q (.str ⟨#[c]⟩) H
theorem ix_list : IxR X (rIxL X.K) := by
  intro value slice pins s σ H x y v u Q I rx ry h hs
  obtain ⟨p, xs, i, z, rfl, rfl, hq, he, q⟩ := h
  cases rx
  obtain ⟨t, rfl⟩ := ry
  obtain ⟨its, r, pl, hz⟩ := I.list hq
  obtain ⟨j, h1, h2, h3, h4, h5⟩ := atI_get he
  obtain ⟨w, ew, rw'⟩ := r.get h2
  have hl := r.length
  have hn := line63
  have fin : EP X pins σ Q w s := ⟨z, H, I, rw', q⟩
  by_cases h0 : 0 ≤ i
  · have hj : i.toNat = j := by
      rw [seqIndex_of h0 h5] at h1
      exact Option.some.inj h1
    exact item_listR pl.isList h0 (by omega) (by rw [hj]; simpa using ew) fin hs
  · have hj : (i + (its.toArray.size : Int)).toNat = j := by
      rw [seqIndex_neg (by omega) h4] at h1
      rw [List.size_toArray, ← hl]
      exact Option.some.inj h1
    exact subscriptTail_builtinR (x := w) pl.isList.typeIs slot_list_getitem.lookup
      (wpAny_getItem_list_neg (Q := fun r s' => r = w ∧ EP X pins σ Q r s') pl.isList (by omega) (by rw [List.size_toArray] <;> omega) (by omega) (by rw [hj]; simpa using ew) ⟨rfl, fin⟩) hs
theorem ix_tup : IxR X (rIxT X.K) := by
  intro value slice pins s σ H x y v u Q I rx ry h hs
  obtain ⟨p, xs, i, z, rfl, rfl, hq, he, q⟩ := h
  cases rx
  obtain ⟨t, rfl⟩ := ry
  obtain ⟨its, r, pl, hz⟩ := I.tuple hq
  obtain ⟨j, h1, h2, h3, h4, h5⟩ := atI_get he
  obtain ⟨w, ew, rw'⟩ := r.get h2
  have hl := r.length
  have hn := line63
  have fin : EP X pins σ Q w s := ⟨z, H, I, rw', q⟩
  exact subscriptTail_builtinR (x := w) pl.typeIs slot_tuple_getitem.lookup
    (getItem_tuple (j := j) (Q := fun r s' => r = w ∧ EP X pins σ Q r s') pl (by omega) (by omega) (by rw [List.size_toArray, ← hl]; exact h1) (by simpa using ew) ⟨rfl, fin⟩) hs
theorem ix_str : IxR X rIxS := by
  intro value slice pins s σ H x y v u Q I rx ry h hs
  obtain ⟨z, i, c, rfl, rfl, hz, he, q⟩ := h
  obtain ⟨t, rfl⟩ := rx
  obtain ⟨t', rfl⟩ := ry
  obtain ⟨j, h1, h2, h3, h4, h5⟩ := atI_get he
  have hl : z.cps.toList.length = z.length := by simp [Str.length]
  rw [hl] at h1 h4 h5
  have hn := line63
  exact tail_any (typeIs_str s z t) slot_str_getitem.lookup (getItem_str (c := c) (by
    have e1 : decide (i < -(2 ^ 63 : Int)) = false := decide_eq_false (by omega)
    have e2 : decide (i ≥ 2 ^ 63) = false := decide_eq_false (by omega)
    rw [e1, e2, Bool.or_false]) (by rw [h1]; simpa using h2) ⟨.str ⟨#[c]⟩, H, I.tok _, ⟨_, rfl⟩, q⟩) hs
/-- list, tuple or str -/
def rIx (K : PySem.W.Frag) : R2 := fun x y H Q => rIxL K x y H Q ∨ rIxT K x y H Q ∨ rIxS x y H Q
theorem ix_seq : IxR X (rIx X.K) := ix_list.or (ix_tup.or ix_str)

/-! ### xs[i] = v, any sign -/
/-- the list's object behind a store -/
theorem mapSeq_set (its : List Value) (n j : Nat) (u : Value) : Obj.mapSeq (·.setIfInBounds j u) { cls := .type "list", data := .seq its.toArray n } = { cls := .type "list", data := .seq (its.set j u).toArray n } := by
  simp [Obj.mapSeq]
theorem Inv.lst {pins : List (Addr × Obj)} {σ : St} {H : Hp} {s : Shared} {p : Addr} {xs : List V} (I : Inv X pins σ H s) (h : H p = some (.lst xs)) :
    ∃ (its : List Value) (n : Nat), Vals xs its ∧ s.heap.get? p = some { cls := .type "list", data := .seq its.toArray n } ∧ xs.length ≤ sizeLine := by
  obtain ⟨z, its, n, r, e⟩ := I.hok p _ h
  exact ⟨its, n, r, e, z⟩
/-- the list at p is written by an update of its object -/
theorem Inv.lstUpd {pins : List (Addr × Obj)} {σ : St} {H : Hp} {s : Shared} {p : Addr} {xs ys : List V} {its its' : List Value} {n n' : Nat} {f : Obj → Obj} (I : Inv X pins σ H s) (h : H p = some (.lst xs))
    (ho : s.heap.get? p = some { cls := .type "list", data := .seq its.toArray n }) (hf : f { cls := .type "list", data := .seq its.toArray n } = { cls := .type "list", data := .seq its'.toArray n' }) (r : Vals ys its') (hz : ys.length ≤ sizeLine) (t : Nat) :
    Inv X pins σ (upd H p (.lst ys)) { s with heap := s.heap.update p f, toks := t } := by
  have e : (s.heap.update p f).get? p = some { cls := .type "list", data := .seq its'.toArray n' } := by
    rw [Heap.get?_update_self f ho (by rw [hf] <;> rfl), hf]
  refine I.write (x := p) (e := p) (by rw [h]; trivial) (.inl rfl) (fun b u hb q => (Heap.get?_update_other _ _ (Ne.symm hb)).trans q) ⟨_, e⟩ ?_
  exact ⟨hz, its', n', r, e⟩
def rSetL : V → V → V → Hp → (Hp → Prop) → Prop := fun o i v H Q => ∃ p xs k j, o = .ref p ∧ i = .int k ∧ H p = some (.lst xs) ∧ ixN xs.length k = some j ∧ Q (upd H p (.lst (xs.set j v)))
theorem set_list : PSet X rSetL := by
  intro pins s σ H o i v ov iv u Q I ro ri rv h
  obtain ⟨p, xs, k, j, rfl, rfl, hp, hj, q⟩ := h
  cases ro
  obtain ⟨t, rfl⟩ := ri
  obtain ⟨its, n, r, ho, hz⟩ := I.lst hp
  obtain ⟨h1, h2, h3, h4⟩ := ixN_seq hj
  have hl := r.length
  have hn := line63
  have I' : Inv X pins σ (upd H p (.lst (xs.set j v))) { s with heap := s.heap.update p (Obj.mapSeq (·.setIfInBounds j u)) } :=
    I.lstUpd hp ho (mapSeq_set its n j u) (r.set rv j) (by rw [List.length_set]; exact hz) s.toks
  by_cases h0 : 0 ≤ k
  · have hk : k.toNat = j := by
      rw [seqIndex_of h0 h4] at h1
      exact Option.some.inj h1
    exact PySem.W.ki_setAt ho h0 (by omega) (by rw [List.size_toArray, ← hl]; exact h4) (by rw [hk]; exact ⟨_, I', q⟩)
  · have hk : (k + (its.toArray.size : Int)).toNat = j := by
      rw [seqIndex_neg (by omega) h3] at h1
      rw [List.size_toArray, ← hl]
      exact Option.some.inj h1
    exact PySem.W.ki_setBack ho (by omega) (by rw [List.size_toArray, ← hl]; exact h3) (by omega) (by rw [hk]; exact ⟨_, I', q⟩)

/-! ### slices -/
theorem slice_bounds (lo hi : Option Int) (n : Nat) : (sliceBounds lo hi none n).1 = ((HT.sIx n 0 lo : Nat) : Int) ∧ (sliceBounds lo hi none n).2.1 = ((HT.sIx n n hi : Nat) : Int) ∧ (sliceBounds lo hi none n).2.2 = 1 := by
  refine ⟨?_, ?_, rfl⟩
  · cases lo with
    | none => simp [sliceBounds, HT.sIx]
    | some i =>
      simp only [sliceBounds, HT.sIx, Option.getD_none, show (1 : Int) > 0 by decide, if_true]
      by_cases h : i < 0
      · simp only [h, if_true] <;> omega
      · simp only [h, if_false] <;> omega
  · cases hi with
    | none => simp [sliceBounds, HT.sIx]
    | some i =>
      simp only [sliceBounds, HT.sIx, Option.getD_none, show (1 : Int) > 0 by decide, if_true]
      by_cases h : i < 0
      · simp only [h, if_true] <;> omega
      · simp only [h, if_false] <;> omega
theorem slicePick_cut (its : List Value) (lo hi : Option Int) : slicePick its.toArray lo hi none = ((its.drop (HT.sIx its.length 0 lo)).take (HT.sIx its.length its.length hi - HT.sIx its.length 0 lo)).toArray := by
  obtain ⟨h1, h2, h3⟩ := slice_bounds lo hi its.toArray.size
  unfold slicePick
  rw [h1, h2, h3]
  simp only [sliceRange_one, pick_run, List.size_toArray] <;> rfl
/-- xs[lo:hi] of a list: a new list -/
def rSlL (K : PySem.W.Frag) : V → Option Int → Option Int → Hp → VK → Prop := fun x lo hi H Q => ∃ a xs, x = .ref a ∧ SqL K H a xs ∧ ∀ p, H p = none → Q (.ref p) (upd H p (.lst (cutV xs lo hi)))
theorem sl_list : SlR X (rSlL X.K) := by
  intro pins s σ H x v vl vu lo hi sl Q I rx hs pl pu h
  obtain ⟨a, xs, rfl, hx, q⟩ := h
  cases rx
  obtain ⟨its, r, ht, hz⟩ := I.list hx
  have hlen := r.length
  refine ⟨"list", _, slot_list_getitem.lookup, ht.isList.typeIs, ?_⟩
  refine wpAny_getItem_list_slice ht.isList hs pl pu .none (by simp) ?_ (by rw [List.size_toArray] <;> omega)
  rw [slicePick_cut, ← hlen]
  refine ⟨.ref s.heap.objs.size, _, I.laid (t' := s.toks) (o := .lst (cutV xs lo hi)) (fun b ob q => Heap.get?_push_of_some _ q) (Nat.le_refl _) ?_, rfl, q _ (I.hok.fresh (Nat.le_refl _))⟩
  exact ⟨Nat.le_trans (cutV_length xs lo hi) hz, _, 0, (r.drop (HT.sIx xs.length 0 lo)).take (HT.sIx xs.length xs.length hi - HT.sIx xs.length 0 lo), Heap.get?_push_size _ rfl⟩

/-! ### in, not in: flat items -/
def flatV : V → Bool
  | .non => true
  | .bl _ => true
  | .int _ => true
  | .str _ => true
  | _ => false
/-- == of flat values -/
def eqV : V → V → Bool
  | .non, .non => true
  | .bl a, .bl b => a == b
  | .bl a, .int b => (if a then 1 else 0) == b
  | .int a, .bl b => a == (if b then 1 else 0)
  | .int a, .int b => a == b
  | .str a, .str b => a == b
  | _, _ => false
theorem eqAt_V {A : Around} {s : Shared} {y x : V} {u v : Value} (ry : RelV y u) (rx : RelV x v) (fy : flatV y = true) (fx : flatV x = true) : SeqAt.EqAt A s u v (eqV y x) := by
  cases y with
  | non =>
    cases ry
    cases x with
    | non => cases rx; exact SeqAt.EqAt.same _
    | bl b => cases rx; exact SeqAt.EqAt.none_bool b
    | int b => obtain ⟨t, rfl⟩ := rx; exact SeqAt.EqAt.none_int b t
    | str b => obtain ⟨t, rfl⟩ := rx; exact SeqAt.EqAt.none_str b t
    | _ => exact absurd (show false = true from fx) Bool.false_ne_true
  | bl a =>
    cases ry
    cases x with
    | non => cases rx; exact SeqAt.EqAt.bool_none a
    | bl b => cases rx; exact SeqAt.EqAt.bool_bool a b
    | int b => obtain ⟨t, rfl⟩ := rx; exact SeqAt.EqAt.bool_int a b t
    | str b => obtain ⟨t, rfl⟩ := rx; exact SeqAt.EqAt.bool_str a b t
    | _ => exact absurd (show false = true from fx) Bool.false_ne_true
  | int a =>
    obtain ⟨t', rfl⟩ := ry
    cases x with
    | non => cases rx; exact SeqAt.EqAt.int_none a t'
    | bl b => cases rx; exact SeqAt.EqAt.int_bool a t' b
    | int b => obtain ⟨t, rfl⟩ := rx; exact SeqAt.EqAt.int_int a t' b t
    | str b => obtain ⟨t, rfl⟩ := rx; exact SeqAt.EqAt.int_str a t' b t
    | _ => exact absurd (show false = true from fx) Bool.false_ne_true
  | str a =>
    obtain ⟨t', rfl⟩ := ry
    cases x with
    | non => cases rx; exact SeqAt.EqAt.str_none a t'
    | bl b => cases rx; exact SeqAt.EqAt.str_bool a t' b
    | int b => obtain ⟨t, rfl⟩ := rx; exact SeqAt.EqAt.str_int a t' b t
    | str b => obtain ⟨t, rfl⟩ := rx; exact SeqAt.EqAt.str_str a t' b t
    | _ => exact absurd (show false = true from fx) Bool.false_ne_true
  | _ => exact absurd (show false = true from fy) Bool.false_ne_true
/-! ### len, list(x), tuple(x) of any list or tuple that is read -/
theorem call_len_seq : CallR X (.builtin "len") (fun xs H Q => ∃ p ys, xs = [.ref p] ∧ (SqL X.K H p ys ∨ SqT X.K H p ys) ∧ Q (.int ys.length) H) := by
  intro pins s σ H xs us Q I r h
  obtain ⟨p, ys, rfl, hq, q⟩ := h
  obtain ⟨u, rfl, rx⟩ := vals1 r
  cases rx
  have hn := line63
  rcases hq with hq | hq
  · obtain ⟨its, r', pl, hz⟩ := I.list hq
    have hlen := r'.length
    exact Calls.call_len_list pl.isList (by simp only [List.size_toArray] <;> omega) ⟨.int ys.length, H, I.tok _, ⟨s.toks + 1, by rw [List.size_toArray, hlen]⟩, q⟩
  · obtain ⟨its, r', pl, hz⟩ := I.tuple hq
    have hlen := r'.length
    exact len_tuple pl (by simp only [List.size_toArray] <;> omega) ⟨.int ys.length, H, I.tok _, ⟨s.toks + 1, by rw [List.size_toArray, hlen]⟩, q⟩
theorem call_len_str : CallR X (.builtin "len") (fun xs H Q => ∃ z, xs = [.str z] ∧ z.length ≤ sizeLine ∧ Q (.int z.length) H) := by
  intro pins s σ H xs us Q I r h
  obtain ⟨z, rfl, hz, q⟩ := h
  obtain ⟨u, rfl, t, rfl⟩ := vals1 r
  have hn := line63
  exact len_str (by omega) ⟨.int z.length, H, I.tok _, ⟨_, rfl⟩, q⟩
theorem CallR.or {f : Value} {r r' : List V → Hp → VK → Prop} (h : CallR X f r) (h' : CallR X f r') : CallR X f (fun xs H Q => r xs H Q ∨ r' xs H Q) := by
  intro pins s σ H xs us Q I rs q
  rcases q with q | q
  · exact h pins s σ H xs us Q I rs q
  · exact h' pins s σ H xs us Q I rs q
theorem call_list_of : CallR X (.type "list") (fun xs H Q => ∃ p ys, xs = [.ref p] ∧ (SqL X.K H p ys ∨ SqT X.K H p ys) ∧ ∀ l, H l = none → Q (.ref l) (upd H l (.lst ys))) := by
  intro pins s σ H xs us Q I r h
  obtain ⟨p, ys, rfl, hq, q⟩ := h
  obtain ⟨u, rfl, rx⟩ := vals1 r
  cases rx
  have fin : ∀ (its : List Value), Vals ys its → ys.length ≤ sizeLine → ∀ (h' : Heap) (c' : Nat), (∀ b o', s.heap.get? b = some o' → h'.get? b = some o') →
      h'.get? s.heap.objs.size = some { cls := .type "list", dict := none, data := .seq its.toArray c', slots := #[] } → EP X pins σ Q (.ref s.heap.objs.size) { s with heap := h' } := fun its r' hz h' c' kp e =>
    ⟨.ref s.heap.objs.size, _, I.laid (t' := s.toks) kp (Nat.le_refl _) (show ObjOk X.prog X.w _ h' _ (.lst ys) from ⟨hz, its, c', r', e⟩), rfl, q _ (I.hok.fresh (Nat.le_refl _))⟩
  rcases hq with hq | hq
  · obtain ⟨its, r', pl, hz⟩ := I.list hq
    have hlen := r'.length
    obtain ⟨o, ho, hc, n, hd⟩ := pl.isList
    exact call_list_seq p (.inl rfl) ho hc hd (fun h' c' kp e => fin its r' hz h' c' kp e) (by simp only [List.size_toArray] <;> omega)
  · obtain ⟨its, r', pl, hz⟩ := I.tuple hq
    have hlen := r'.length
    obtain ⟨o, ho, hc, n, hd⟩ := pl
    exact call_list_seq p (.inr rfl) ho hc hd (fun h' c' kp e => fin its r' hz h' c' kp e) (by simp only [List.size_toArray] <;> omega)
/-! ### the call of a builtin's method: o.m(..) -/
/-- the value is of that builtin type -/
def tyV (K : PySem.W.Frag) (T : String) (x : V) (H : Hp) : Prop := match x with
  | .str _ => T = "str"
  | .int _ => T = "int"
  | .ref p => (T = "list" ∧ ∃ xs, SqL K H p xs) ∨ (T = "tuple" ∧ ∃ o, K.lookup p = some o ∧ o.cls = .type "tuple" ∧ o.dict = none) ∨
      (T = "dict" ∧ ((∃ kvs, H p = some (.dK kvs)) ∨ ∃ kvs, H p = some (.dT kvs))) ∨ (T = "set" ∧ ∃ S n, H p = some (.set S n))
  | _ => False
theorem tyV_is {pins : List (Addr × Obj)} {σ : St} {H : Hp} {s : Shared} {T : String} {x : V} {v : Value} (I : Inv X pins σ H s) (r : RelV x v) (ty : tyV X.K T x H) :
    s.TypeIs v T ∧ ∀ a, v = .ref a → ∃ ob, s.heap.get? a = some ob ∧ ob.dict = none := by
  cases x with
  | str z =>
    obtain ⟨t, rfl⟩ := r
    cases (show T = "str" from ty)
    exact ⟨typeIs_str s z t, fun _ e => nomatch e⟩
  | int i =>
    obtain ⟨t, rfl⟩ := r
    cases (show T = "int" from ty)
    exact ⟨typeIs_int s i t, fun _ e => nomatch e⟩
  | ref p =>
    cases r
    rcases ty with ⟨rfl, xs, hq⟩ | ⟨rfl, o, hk, hc, hd⟩ | ⟨rfl, hk⟩ | ⟨rfl, S, n, hk⟩
    · obtain ⟨its, _, pl, _⟩ := I.list hq
      refine ⟨pl.isList.typeIs, fun a e => ?_⟩
      cases e
      obtain ⟨o, n, e, c, hd, _⟩ := pl
      exact ⟨o, e, hd⟩
    · refine ⟨⟨o, I.kIn p o hk, hc⟩, fun a e => ?_⟩
      cases e
      exact ⟨o, I.kIn _ o hk, hd⟩
    · have z : ∃ o, s.heap.get? p = some o ∧ o.ExactDict := by
        rcases hk with ⟨kvs, hk⟩ | ⟨kvs, hk⟩
        · obtain ⟨_, _, _, _, o, _, _, e, ex, _⟩ := I.hok p _ hk
          exact ⟨o, e, ex⟩
        · obtain ⟨_, _, _, _, o, _, _, e, ex, _⟩ := I.hok p _ hk
          exact ⟨o, e, ex⟩
      obtain ⟨o, e, ex⟩ := z
      refine ⟨⟨o, e, ex.1⟩, fun a e2 => ?_⟩
      cases e2
      exact ⟨o, e, ex.2.1⟩
    · obtain ⟨o, _, _, _, e, ex, _⟩ := I.hok p _ hk
      refine ⟨⟨o, e, ex.1⟩, fun a e2 => ?_⟩
      cases e2
      exact ⟨o, e, ex.2.1⟩
  | _ => exact False.elim ty
variable {o e : Expr} {es : List Expr} {to : TE} {t : TA} {name : Str} {apos cpos : Pos} {T id : String} {r : V → List V → Hp → VK → Prop}
/- xs.append(e), list.index on a module's tuple .. are MtR facts of 06m -/
end
end L2

namespace L2
open PySem PySem.Spec PyProof.Rows

def MtM (X : Cx) (id : String) (r : V → List V → Hp → VK → Prop) : Prop :=
  ∀ (pins : List (Addr × Obj)) (s : Shared) (σ : St) (H : Hp) (x : V) (xs : List V) (v : Value) (us : List Value) (Q : VK), Inv X pins σ H s → RelV x v → Vals xs us → r x xs H Q →
    wpAny (model X.prog X.w) X.A (call (.builtin id) (v :: us)) (EP X pins σ Q) X.xe s

/-! ### lists of values -/
theorem Vals.one : ∀ {x : V} {us : List Value}, Vals [x] us → ∃ u, us = [u] ∧ RelV x u
  | _, _, .cons r .nil => ⟨_, rfl, r⟩
theorem Vals.two : ∀ {x y : V} {us : List Value}, Vals [x, y] us → ∃ u v, us = [u, v] ∧ RelV x u ∧ RelV y v
  | _, _, _, .cons r (.cons q .nil) => ⟨_, _, rfl, r, q⟩
theorem Vals.zero : ∀ {us : List Value}, Vals [] us → us = []
  | _, .nil => rfl
theorem Vals.dropLast {xs : List V} {us : List Value} (h : Vals xs us) : Vals xs.dropLast us.dropLast := by
  induction h with
  | nil => exact .nil
  | cons r t ih =>
    cases t with
    | nil => exact .nil
    | cons q t' => exact .cons r ih
theorem Vals.eraseIdx : ∀ {xs : List V} {us : List Value} (i : Nat), Vals xs us → Vals (xs.eraseIdx i) (us.eraseIdx i)
  | _, _, _, .nil => .nil
  | _, _, 0, .cons _ t => t
  | _, _, i + 1, .cons r t => .cons r (Vals.eraseIdx i t)
theorem Vals.rep {xs : List V} {us : List Value} (h : Vals xs us) : ∀ k : Nat, Vals (List.replicate k xs).flatten (List.replicate k us).flatten
  | 0 => .nil
  | k + 1 => by
    rw [List.replicate_succ, List.replicate_succ, List.flatten_cons, List.flatten_cons]
    exact Vals.append h (Vals.rep h k)
theorem erase_last {α : Type} (l : List α) : l.eraseIdx (l.length - 1) = l.dropLast := by
  induction l with
  | nil => rfl
  | cons a r ih =>
    cases r with
    | nil => rfl
    | cons b r =>
      have e : (a :: b :: r).length - 1 = ((b :: r).length - 1) + 1 := by
        have h1 : (a :: b :: r).length = r.length + 2 := rfl
        have h2 : (b :: r).length = r.length + 1 := rfl
        omega
      rw [e, List.eraseIdx_cons_succ, ih]
      all_goals rfl
theorem foldl_rep (its : List Value) : ∀ (k : Nat) (acc : List Value),
    List.foldl (fun x1 x2 => x1 ++ x2) acc.toArray (List.replicate k its.toArray) = (acc ++ (List.replicate k its).flatten).toArray
  | 0, acc => by simp
  | k + 1, acc => by
    have e : acc.toArray ++ its.toArray = (acc ++ its).toArray := by simp
    have e2 : (acc ++ its) ++ (List.replicate k its).flatten = acc ++ (List.replicate (k + 1) its).flatten := by
      rw [List.replicate_succ, List.flatten_cons, List.append_assoc]
    rw [← e2, ← foldl_rep its k (acc ++ its), ← e, List.replicate_succ, List.foldl_cons]

section
variable {X : Cx} {pins : List (Addr × Obj)} {σ : St} {H : Hp} {s : Shared} {l b : Addr} {xs ys zs : List V}

/-! ### the two steps: a tracked list is rewritten, a new list is laid -/
theorem Inv.lset {its its' : List Value} {n : Nat} {f : Array Value → Array Value} {t' : Nat} (I : Inv X pins σ H s) (hH : H l = some (.lst xs))
    (e : s.heap.get? l = some { cls := .type "list", data := .seq its.toArray n }) (hf : f its.toArray = its'.toArray) (hv : Vals ys its') (hz : ys.length ≤ sizeLine) :
    Inv X pins σ (upd H l (.lst ys)) { s with heap := s.heap.update l (Obj.mapSeq f), toks := t' } := by
  have q := PySem.IsL.update e f
  rw [hf] at q
  refine I.write (x := l) (e := l) (by rw [hH]; exact trivial) (.inl rfl) (fun b' u hb hu => (Heap.get?_update_other s.heap (Obj.mapSeq f) (Ne.symm hb)).trans hu) ⟨_, q⟩ ?_
  exact ⟨hz, its', _, hv, q⟩
theorem Inv.lnew {its : List Value} {t' : Nat} (I : Inv X pins σ H s) (hv : Vals ys its) (hz : ys.length ≤ sizeLine) :
    Inv X pins σ (upd H s.heap.objs.size (.lst ys)) { s with heap := s.heap.push { cls := .type "list", data := .seq its.toArray }, toks := t' } :=
  I.laid (fun _ _ q => Heap.get?_push_of_some _ q) (Nat.le_refl _) ⟨hz, its, 0, hv, Heap.get?_push_size _ rfl⟩
theorem Inv.fresh (I : Inv X pins σ H s) : H s.heap.objs.size = none := I.hok.fresh (Nat.le_refl _)
theorem Inv.lstM (I : Inv X pins σ H s) (hH : H l = some (.lst xs)) : xs.length ≤ sizeLine ∧ ∃ (its : List Value) (n : Nat), Vals xs its ∧ xs.length = its.length ∧ s.heap.get? l = some { cls := .type "list", data := .seq its.toArray n } := by
  obtain ⟨z, its, n, r, e⟩ := I.hok l _ hH
  exact ⟨z, its, n, r, r.length, e⟩

theorem notLongL {n : Nat} (h : n ≤ sizeLine) : Builtin.List.listTooLong n = false := by
  unfold Builtin.List.listTooLong
  exact decide_eq_false (by omega)
end

section
variable {X : Cx}

/-! ### methods -/
def rAppend : V → List V → Hp → VK → Prop := fun x vs H Q => ∃ l xs y, x = .ref l ∧ vs = [y] ∧ H l = some (.lst xs) ∧ xs.length < sizeLine ∧ Q .non (upd H l (.lst (xs ++ [y])))
theorem mt_append : MtM X "list.append" rAppend := by
  intro pins s σ H x vs v us Q I rx rv h
  obtain ⟨l, xs, y, rfl, rfl, hH, hz, q⟩ := h
  cases rx
  obtain ⟨u, rfl, ru⟩ := rv.one
  obtain ⟨z, its, n, r, hl, e⟩ := I.lstM hH
  refine call_meets F.slot_list_append ⟨_, e, rfl⟩ F.entry_list_append (F.args_list_append_2 _ _) (PySem.list_append l its.toArray n u (by rw [List.size_toArray]; omega)) ⟨e, ?_⟩
  refine ⟨.non, _, I.lset (its' := its ++ [u]) hH e (by simp) (r.append (.cons ru .nil)) ?_, rfl, q⟩
  rw [List.length_append, List.length_singleton]
  omega

def rExtend : V → List V → Hp → VK → Prop := fun x vs H Q => ∃ l b xs zs, x = .ref l ∧ vs = [.ref b] ∧ H l = some (.lst xs) ∧ H b = some (.lst zs) ∧ xs.length + zs.length ≤ sizeLine ∧ Q .non (upd H l (.lst (xs ++ zs)))
theorem mt_extend : MtM X "list.extend" rExtend := by
  intro pins s σ H x vs v us Q I rx rv h
  obtain ⟨l, b, xs, zs, rfl, rfl, hH, hB, hz, q⟩ := h
  cases rx
  obtain ⟨u, rfl, ru⟩ := rv.one
  cases ru
  obtain ⟨z, its, n, r, hl, e⟩ := I.lstM hH
  obtain ⟨z2, its2, n2, r2, hl2, e2⟩ := I.lstM hB
  have hsz : its.toArray.size + its2.toArray.size ≤ sizeLine := by rw [List.size_toArray, List.size_toArray]; omega
  have hlong : ¬ (!its.toArray.isEmpty && Builtin.List.listTooLong (its.toArray.size + its2.toArray.size)) = true := by
    rw [notLongL hsz, Bool.and_false]
    exact Bool.false_ne_true
  refine call_meets F.slot_list_extend ⟨_, e, rfl⟩ F.entry_list_extend (F.args_list_extend_2 _ _)
    (AutoSeq1.list_extend_list_list_0 l its.toArray n b its2.toArray n2 hlong (by rw [List.size_toArray]; omega) (by omega)) ⟨e, e2, ?_⟩
  refine ⟨.non, _, I.lset (its' := its ++ its2) hH e (by simp) (r.append r2) ?_, rfl, q⟩
  rw [List.length_append]
  omega

def rPop : V → List V → Hp → VK → Prop := fun x vs H Q => ∃ l xs y, x = .ref l ∧ vs = [] ∧ H l = some (.lst xs) ∧ xs[xs.length - 1]? = some y ∧ Q y (upd H l (.lst xs.dropLast))
theorem mt_pop : MtM X "list.pop" rPop := by
  intro pins s σ H x vs v us Q I rx rv h
  obtain ⟨l, xs, y, rfl, rfl, hH, hy, q⟩ := h
  cases rx
  have hus := rv.zero
  subst hus
  obtain ⟨z, its, n, r, hl, e⟩ := I.lstM hH
  obtain ⟨u, hu, ru⟩ := r.get hy
  have hy' : its.toArray[its.toArray.size - 1]? = some u := by
    show its.toArray[its.length - 1]? = some u
    rw [← Array.getElem?_toList, ← hl]
    exact hu
  refine call_meets F.slot_list_pop ⟨_, e, rfl⟩ F.entry_list_pop (F.args_list_pop_1 _) (MeetsSeq.list_pop_last l its.toArray n u hy' (by rw [List.size_toArray]; omega)) ⟨e, ?_⟩
  refine ⟨y, _, I.lset (its' := its.dropLast) hH e ?_ r.dropLast ?_, ru, q⟩
  · show its.toArray.eraseIdxIfInBounds (its.toArray.size - 1) = its.dropLast.toArray
    rw [List.size_toArray, List.eraseIdxIfInBounds_toArray, erase_last]
  · rw [List.length_dropLast]
    omega

def rClear : V → List V → Hp → VK → Prop := fun x vs H Q => ∃ l xs, x = .ref l ∧ vs = [] ∧ H l = some (.lst xs) ∧ Q .non (upd H l (.lst []))
theorem mt_clear : MtM X "list.clear" rClear := by
  intro pins s σ H x vs v us Q I rx rv h
  obtain ⟨l, xs, rfl, rfl, hH, q⟩ := h
  cases rx
  have hus := rv.zero
  subst hus
  obtain ⟨z, its, n, r, hl, e⟩ := I.lstM hH
  refine call_meets F.slot_list_clear ⟨_, e, rfl⟩ F.entry_list_clear (F.args_list_clear_1 _) (AutoSeq1.list_clear_list_0 l its.toArray n (by rw [List.size_toArray]; omega)) ⟨e, ?_⟩
  exact ⟨.non, _, I.lset (its' := []) (ys := []) hH e rfl .nil (Nat.zero_le _), rfl, q⟩

/-! ### list + list, list += list, list * int -/
def rCat : R2 := fun x y H Q => ∃ l b xs zs, x = .ref l ∧ y = .ref b ∧ H l = some (.lst xs) ∧ H b = some (.lst zs) ∧ xs.length + zs.length ≤ sizeLine ∧ ∀ p, H p = none → Q (.ref p) (upd H p (.lst (xs ++ zs)))
theorem op_cat : OpR X (binaryOp .Add) rCat := by
  intro pins s σ H x y v u Q I rx ry h
  obtain ⟨l, b, xs, zs, rfl, rfl, hH, hB, hz, q⟩ := h
  cases rx
  cases ry
  obtain ⟨z, its, n, r, hl, e⟩ := I.lstM hH
  obtain ⟨z2, its2, n2, r2, hl2, e2⟩ := I.lstM hB
  refine PySem.P.add_list e e2 ?_ (by rw [List.size_toArray, List.size_toArray]; omega)
  have ea : its.toArray ++ its2.toArray = (its ++ its2).toArray := by simp
  rw [ea]
  exact ⟨.ref _, _, I.lnew (t' := s.toks) (r.append r2) (by rw [List.length_append]; omega), rfl, q _ I.fresh⟩
/-- a list times an int (a negative one is nothing) -/
def rRep : R2 := fun x y H Q => ∃ l k xs, x = .ref l ∧ y = .int k ∧ H l = some (.lst xs) ∧ -(2 ^ 63) ≤ k ∧ k < 2 ^ 63 ∧ xs.length * k.toNat ≤ sizeLine ∧
  ∀ p, H p = none → Q (.ref p) (upd H p (.lst (List.replicate k.toNat xs).flatten))
theorem len_rep {α : Type} (xs : List α) (k : Nat) : (List.replicate k xs).flatten.length = k * xs.length := by
  induction k with
  | zero => simp
  | succ k ih => rw [List.replicate_succ, List.flatten_cons, List.length_append, ih, Nat.succ_mul, Nat.add_comm]
theorem op_rep : OpR X (binaryOp .Mult) rRep := by
  intro pins s σ H x y v u Q I rx ry h
  obtain ⟨l, k, xs, rfl, rfl, hH, h1, h2, hz, q⟩ := h
  cases rx
  obtain ⟨t, rfl⟩ := ry
  obtain ⟨z, its, n, r, hl, e⟩ := I.lstM hH
  have hlen : its.toArray.size * k.toNat ≤ sizeLine := by rw [List.size_toArray, ← hl]; exact hz
  have hcap : ¬ its.toArray.size * k.toNat > (2 ^ 63 - 1) / 8 := by
    have : (sizeLine : Nat) ≤ (2 ^ 63 - 1) / 8 := by decide
    omega
  have hfit : ¬ (!Builtin.List.listFitsIndex k) = true := by
    rw [fitsIndex_both h1 h2]
    exact Bool.false_ne_true
  have hlong : ¬ Builtin.List.listTooLong (its.toArray.size * k.toNat) = true := by
    rw [notLongL hlen]
    exact Bool.false_ne_true
  have hnew : List.foldl (fun x1 x2 => x1 ++ x2) #[] (List.replicate (if its.toArray.isEmpty = true then 0 else k.toNat) its.toArray) = (List.replicate k.toNat its).flatten.toArray := by
    have f0 : ∀ m : Nat, List.foldl (fun x1 x2 => x1 ++ x2) #[] (List.replicate m its.toArray) = (List.replicate m its).flatten.toArray := fun m => by
      have := foldl_rep its m []
      rw [List.nil_append] at this
      exact this
    rw [f0]
    cases its with
    | nil => simp
    | cons a r' => rw [if_neg (by simp)]
  refine wpAny_binaryOp_repeat_ref (T := "list") (U := "int") (by decide) ⟨_, e, rfl⟩ (fun s' => typeIs_int s' k t) noFill_list_mul F.fills_int_mul F.slot_int_rmul repeat_list F.slot_int_index.lookup
    (call_meets F.slot_int_rmul (typeIs_int s k t) F.entry_int_rmul (F.args_int_rmul_2 _ _) (int___rmul___int_list k t l its.toArray n)
      ⟨e, rfl, ⟨_, e, rfl⟩, call_meets F.slot_list_mul ⟨_, e, rfl⟩ F.entry_list_mul (F.args_list_mul_2 _ _) (AutoListH.list___mul___list_int_3 l its.toArray n k t hfit hcap hlong) ⟨e, ?_⟩⟩)
  rw [hnew]
  exact ⟨.ref _, _, I.lnew (t' := s.toks) (r.rep k.toNat) (by rw [len_rep, Nat.mul_comm]; exact hz), rfl, q _ I.fresh⟩

/-! ### del xs[i] -/
end

/-! ### xs[a:b] = ys -/
section
variable {prog : Program} {w : World} {A : Around} {E : Value → Shared → Prop} {s : Shared}
end

section
variable {X : Cx}
end
end L2

namespace Att
open PySem PySem.W PySem.Calls PyProof.Rows

/-! ### the script -/
theorem ints_of_wellAll {P : Params} {h : Heap} : ∀ (ns : List Int) (vs : List Value), WellAll P h vs (ns.map WData.int) → IntsAre vs ns := by
  intro ns
  induction ns with
  | nil =>
    intro vs w
    rw [List.map_nil] at w
    cases w
    exact .nil
  | cons n ns ih =>
    intro vs w
    rw [List.map_cons] at w
    cases w with
    | cons a b =>
      cases a
      exact .cons _ _ (ih _ b)

theorem script_of {l : OpenLaw} {n : Nat} (hn : l.most = some n) {P : Params} {h : Heap} {args : List WData} {vals : List Value}
    (hpre : l.row.toRowW.claim.pre args = true) (hwl : WellAll P h vals args) :
    ∃ a vs ns, vals = [Value.ref a] ∧ args = [WData.list (ns.map WData.int)] ∧ h.get? a = some { cls := .type "list", data := .seq vs.toArray } ∧ IntsAre vs ns ∧ ns.length ≤ n := by
  have hsh : WShape.hasAll [] args [.list .int] = true := (pre_splitW hpre).1
  have hc : l.pre.holds [] { args := args } = true := (pre_splitW hpre).2
  obtain ⟨d, r, rfl, h1, h2⟩ := hasAllW_cons hsh
  obtain rfl := hasAllW_nil h2
  obtain ⟨xs, rfl, h3⟩ := hasW_list h1
  obtain ⟨ns, rfl⟩ := items_int h3
  have hlen : ns.length ≤ n := by
    unfold OpenLaw.pre at hc
    have h4 : (WTm.not (.lt (.lit (.int (n : Int))) (.len (.arg 0)))).holds [] { args := [.list (ns.map .int)] } = true := by
      have h4 := (holds_andW hc).1
      rw [hn] at h4
      exact h4
    have h5 := condW_of h4 (w_not (w_lt w_lit (w_len_list (w_arg rfl))))
    rw [List.length_map] at h5
    refine Nat.le_of_not_lt fun q => ?_
    have q' : (n : Int) < ((ns.length : Nat) : Int) := by omega
    first
      | (rw [decide_eq_true q'] at h5; exact absurd h5 (by decide))
      | (simp at h5; omega)
  cases hwl with
  | cons w1 w2 =>
    cases w2
    cases w1 with
    | list ho hall => exact ⟨_, _, ns, rfl, rfl, ho, ints_of_wellAll ns _ hall, hlen⟩

theorem post_true (l : OpenLaw) (args : List WData) : l.row.toRowW.claim.post args (.bool true) args = true :=
  postW_of (r := l.row.toRowW) (X := (true == true))
    (show WShape.has [] (.bool true) .bool = true by first | rfl | decide | simp [WShape.has, WShape.arms, WShape.armsAll])
    (show (WTm.eq .res (.lit (.bool true))).value [] { args := args, res := some (.bool true), after := args } = some (.bool (true == true)) from w_eq_bool (w_res rfl) w_lit) rfl

/-! ### the attachment: holds_open's last premise (the goal 'hc' behind k_head) from a wpAny of the law's body -/
/-- the same from a codeAny of the CALL (for a layer whose function contracts speak of calls) -/
theorem attach_call {l : OpenLaw} {n : Nat} {q : Program} {loose : List Str} {XP : (Str → Option Value) → Heap → Prop} {YP : World → Heap → Prop} {d : DefRec}
    (hn : l.most = some n) (hdf : d.params.defaults = [])
    (call : ∀ (w : World) (s₀ s₁ : Shared) (mg mb : Str → Option Value) (fa : Addr) (o : Obj) (pm cd doc : Value) (a : Addr) (vs : List Value) (ns : List Int),
      Ground q loose [] XP w s₀ mg mb s₁.heap → YP w s₁.heap →
      s₁.heap.get? fa = some o → o.data = .func (docDef d.name d.params d.body d.scope pm cd doc) → s₁.heap.CodeRec cd d.name → mg d.name = some (.ref fa) →
      s₁.heap.get? a = some { cls := .type "list", data := .seq vs.toArray } → IntsAre vs ns → ns.length ≤ n → s₁.gens = #[] →
      codeAny (model l.prog w) callerA (.call (.ref fa) ⟨[.ref a], []⟩) (fun r s' => r = .ok (.ret (.bool true)) ∧ OldK s₁.heap s'.heap ∧ s'.os = s₁.os ∧ AllBare s'.gens) s₁) :
    WalkO q loose XP YP l.row.toRowW d [] (fun f vs => PySem.call f vs) := by
  intro w s₀ s₁ mg mb G Y fa o pm cd doc dV kV ho hd hcd hD hmg hg args vals as hpre hlay hrd hwl hlo
  obtain rfl : dV = .none := Dflts.none hD hdf
  obtain rfl : kV = .none := Dflts.noKw hD
  obtain ⟨a, vs, ns, rfl, rfl, hobj, hints, hlen⟩ := script_of hn hpre hwl
  refine enter_call (codeAny_mono (call w s₀ s₁ mg mb fa o pm cd doc a vs ns G Y ho (fd_plain hd) hcd hmg hobj hints hlen hg) fun r s' hq => ?_)
  obtain ⟨rfl, h2, h3, h4⟩ := hq
  exact ⟨.inl ⟨.bool true, .bool true, [], rfl, fun _ => rfl, .bool true, post_true l _, fun _ => ⟨List.Pairwise.nil, fun _ hm => (nomatch hm)⟩⟩, h2, h3, h4⟩

/-! ### rules over ANY heap (no ledger) from facts about the written part K: the library's own take a ledger (News) for what they write -/
section
variable {prog : Program} {w : World} {A : Around} {E : Value → Shared → Prop} {s : Shared} {K : Frag}

/-! the whole heap as the ledger: makes every rule that writes through a ledger a rule over any heap -/
def ledger (h : Heap) (L d : Addr) : List (Addr × Obj) := (List.range h.objs.size).filterMap fun a => if a = L ∨ a = d then none else (h.get? a).map fun o => (a, o)
end
end Att

namespace L2
open PySem PySem.Spec PyProof.Rows

theorem vals_ints : ∀ {vs : List Value} {ns : List Int}, IntsAre vs ns → Vals (ns.map V.int) vs
  | _, _, .nil => .nil
  | _, _, .cons n t h => .cons ⟨t, rfl⟩ (vals_ints h)

/-- nothing is tracked but the script, known to the object (or it is an object of the module) -/
def Only (H : Hp) : Prop := ∀ b, H b = none ∨ ∃ o xs, H b = some (.frz o (.lst xs))

/-- THE HEAD: the law's promise, at the heap behind the top. F, the promise of the law's def, may use that base is part of the heap (so K.In base, base.Ns mainGlobals mg stand in Mod) -/
theorem law_call {P : Program} {w : World} {K : PySem.W.Frag} {mg mb : Str → Option Value} {CX : CXT} {k : Nat} {fa a : Addr} {fd : FuncData} {x : Str} {sp : Sp} {s₁ : Shared} {vs : List Value} {ns : List Int}
    (KX : K.In s₁.heap) (hns : s₁.heap.Ns mainGlobals mg) (hb : s₁.heap.Ns builtinsNs mb) (hbb : ∀ x : Str, x ≠ "__name__" → mb x = bootBuiltins x) (hlim : s₁.heap.NoLimit) (hg : s₁.gens = #[])
    (ha : s₁.heap.get? a = some { cls := .type "list", data := .seq vs.toArray }) (hi : IntsAre vs ns) (hl : ns.length ≤ sizeLine) (hr : Room true k callerA)
    (F : ∀ base : Heap, K.In base → base.Ns mainGlobals mg → FnOk P w K mg base CX true k fa fd [x] sp) (hbind : ∀ (s : Shared) (u : Value), BindsTo s fd ⟨[u], []⟩ [(x, u)])
    (hsp : ∀ H : Hp, Only H → SqL K H a (ns.map V.int) → sp [.ref a] H (fun v _ => v = .bl true) fun _ _ _ => False)
    (hCX : ∀ H e s', CX [] H s₁ (fun _ _ _ => False) e s' → False) :
    codeAny (model P w) callerA (.call (.ref fa) ⟨[.ref a], []⟩) (fun r s' => r = .ok (.ret (.bool true)) ∧ OldK s₁.heap s'.heap ∧ s'.os = s₁.os ∧ AllBare s'.gens) s₁ := by
  have rv := vals_ints hi
  have lenV := hi.length
  -- from an abstract heap in which nothing but the script may be tracked
  have core : ∀ H : Hp, Only H → SqL K H a (ns.map V.int) → HOk P w H s₁.heap → (∀ b, H b ≠ none → b = a) → (H a ≠ none → K.lookup a = none) →
      codeAny (model P w) callerA (.call (.ref fa) ⟨[.ref a], []⟩) (fun r s' => r = .ok (.ret (.bool true)) ∧ OldK s₁.heap s'.heap ∧ s'.os = s₁.os ∧ AllBare s'.gens) s₁ := by
    intro H hO hS hok hA hK
    have base_of : ∀ {b : Addr} {o : Obj}, s₁.heap.get? b = some o → H b = none → (hidT s₁.heap H).get? b = some o := fun e n => hidT_get e n
    have noA : ∀ {b : Addr} {o : Obj} {es : Array DictEntry} {ep : Nat}, s₁.heap.get? b = some o → o.data = .dict es ep → H b = none := fun {b o es ep} e d => by
      cases q : H b with
      | none => rfl
      | some u =>
        have e' : b = a := hA b (by rw [q]; simp)
        subst e'
        rw [ha] at e; cases e
        have d' : Data.seq vs.toArray _ = Data.dict es ep := d
        cases d'
    have nsK : ∀ {b : Addr} {m : Str → Option Value}, s₁.heap.Ns b m → (hidT s₁.heap H).Ns b m := fun {b m} ⟨o, es, ep, e, d, r⟩ => ⟨o, es, ep, base_of e (noA e d), d, r⟩
    have hKb : K.In (hidT s₁.heap H) := fun b o e => base_of (KX b o e) (by
      cases q : H b with
      | none => rfl
      | some u =>
        have e' : b = a := hA b (by rw [q]; simp)
        subst e'
        rw [hK (by rw [q]; simp)] at e; cases e)
    have hM : Mod K mg (hidT s₁.heap H) := ⟨hKb, nsK hns, ⟨mb, nsK hb, hbb⟩, let ⟨mc, h1, h2⟩ := hlim; ⟨mc, nsK h1, h2⟩⟩
    have e0 : Env0 P w K mg (hidT s₁.heap H) callerA [] s₁ H := ⟨rfl, .inl rfl, hM, fun b o e => of_hidT e, Nat.le_of_eq (hidT_size _ _), trivial, fun b hb => absurd (show b ∈ ([] : List Addr) from hb) (by simp), hok, .of_eq hg⟩
    refine codeAny_mono ((F _ hKb (nsK hns)).run callerA [] s₁ H ⟨[.ref a], []⟩ [.ref a] [.ref a] _ _ hr e0 (hbind s₁ (.ref a)) (.cons rfl .nil) (hsp H hO hS)) fun r s' h => ?_
    cases r with
    | error e => exact (hCX H e s' h).elim
    | ok fl =>
      cases fl with
      | next => exact False.elim h
      | brk => exact False.elim h
      | cont => exact False.elim h
      | ret u =>
        obtain ⟨v, H', os, bare, un, hok', r', q⟩ := h
        have q' : v = .bl true := q
        subst q'
        obtain rfl : u = Value.bool true := r'
        refine ⟨rfl, OldK.of_keep fun b o e => ?_, os, bare⟩
        cases q : H b with
        | none => exact un.keep b o e q (by intro z; exact absurd (show b ∈ ([] : List Addr) from z) (by simp)) (by simp)
        | some u =>
          rcases hO b with z | ⟨ob, xs, z⟩
          · rw [q] at z; cases z
          · have z2 := un.frzs b ob _ z
            obtain ⟨e1, _⟩ := hok b _ z
            obtain ⟨e2, _⟩ := hok' b _ z2
            rw [e] at e1; cases e1
            exact e2
  cases hk : K.lookup a with
  | some o =>
    -- the script is one of the module's own objects
    have e := KX a o hk
    rw [ha] at e
    cases e
    refine core (fun _ => none) (fun _ => .inl rfl) (.inr ⟨_, vs.toArray, _, hk, rfl, rfl, rfl, by rw [List.size_toArray, lenV]; exact hl, by simpa using rv⟩) (fun b u z => by have z' : (none : Option HO) = some u := z; cases z') (fun b z => absurd rfl z) fun z => absurd rfl z
  | none =>
    refine core (fun b => if b = a then some (.frz { cls := .type "list", data := .seq vs.toArray } (.lst (ns.map V.int))) else none) (fun b => ?_) (.inl (.inr ⟨{ cls := .type "list", data := .seq vs.toArray }, if_pos rfl⟩)) (fun b u z => ?_) (fun b z => ?_) fun _ => hk
    · by_cases hb : b = a
      · exact .inr ⟨_, _, if_pos hb⟩
      · exact .inl (if_neg hb)
    · by_cases hb : b = a
      · have z' := (if_pos hb).symm.trans z
        cases z'
        subst hb
        exact ⟨ha, by rw [List.length_map]; exact hl, vs, _, rv, ha⟩
      · have z' := (if_neg hb).symm.trans z
        cases z'
    · by_cases hb : b = a
      · exact hb
      · exact absurd (if_neg hb) z
end L2

namespace L2
open PySem PySem.Spec PyProof.Rows

abbrev KOf {K : PySem.W.Frag} {h : Heap} (_ : K.In h) : PySem.W.Frag := K

/-- the goal that k_head leaves (case hc), from the law's promise. F gives the function object fd (K's own) once, then the promise over every base -/
theorem walk_of {l : PySem.W.OpenLaw} {n k : Nat} {q : Program} {loose : List Str} {XP : (Str → Option Value) → Heap → Prop} {YP : World → Heap → Prop} {d : DefRec} {K : Params → PySem.W.Frag} {CX : World → CXT} {sp : World → Sp} {x : Str}
    (hn : l.most = some n) (hn2 : n ≤ sizeLine) (hdf : d.params.defaults = []) (hr : Room true k callerA)
    (hY : ∀ (w : World) (h : Heap), YP w h → (K w.params).In h)
    (F : ∀ (w : World) (mg : Str → Option Value) (fa : Addr) (h : Heap), (K w.params).In h → h.Ns mainGlobals mg → mg d.name = some (.ref fa) →
      ∃ fd : FuncData, (∀ (s : Shared) (u : Value), BindsTo s fd ⟨[u], []⟩ [(x, u)]) ∧
        ∀ base : Heap, (K w.params).In base → base.Ns mainGlobals mg → FnOk l.prog w (K w.params) mg base (CX w) true k fa fd [x] (sp w))
    (hsp : ∀ (w : World) (H : Hp) (a : Addr) (ns : List Int), ns.length ≤ n → Only H → SqL (K w.params) H a (ns.map V.int) → sp w [.ref a] H (fun v _ => v = .bl true) fun _ _ _ => False)
    (hCX : ∀ (w : World) (H : Hp) (s : Shared) (e : Value) (s' : Shared), CX w [] H s (fun _ _ _ => False) e s' → False) :
    PySem.W.WalkO q loose XP YP l.row.toRowW d [] (fun f vs => PySem.call f vs) := by
  refine Att.attach_call hn hdf fun w s₀ s₁ mg mb fa o pm cd doc a vs ns G Y ho hd hcd hmg hobj hints hlen hg => ?_
  have KX := hY w _ Y
  obtain ⟨fd, hb, hF⟩ := F w mg fa _ KX G.T.g hmg
  exact law_call KX G.T.g G.T.b G.T.builtins G.T.nolimit hg hobj hints (Nat.le_trans hlen hn2) hr hF hb (fun H hO hS => hsp w H a ns hlen hO hS) fun H e s' => hCX w H s₁ e s'
end L2

/- THE LAST THEOREM (shape; LID, My.* are yours):
   My.Adr: a structure of the addresses that your layer names (classes, functions); My.Txt K t: a structure (Prop) of the equations over K;
   My.txt_mk : {K} {implicit addresses ..} (e1 : nsIn K mainGlobals "law" = some (some (.ref f))) (e2 : K.lookup f = some ⟨oc, od, .func (fnOf "law" "law" params body scope dV kV doc pm an cdv ct), sl⟩) (e3 : codeIn K cdv "law" = true) .. : ∃ t, My.Txt K t

set_option maxRecDepth 100000 in
set_option maxHeartbeats 0 in
theorem PySem.Challenge.cw_LID_holds : PySem.Challenge.rw_LID.Holds := by
  w_on; o_law; k_head; (case hw => w_witness2)
  k_fill
  refine L2.walk_of (l := PySem.Challenge.rw_LID) (n := 63) (k := 40) (x := "script") (CX := fun w => ..) (sp := fun _ => My.sp_law) rfl (by decide) rfl ⟨rfl, by decide, by decide⟩ (fun w h Y => PySem.W.kIn_of Y) ?F ?S ?C
  case F =>
    intro w mg fa h KX G hmg
    have T : ∃ t, My.Txt (L2.KOf KX) t := by
      dsimp only [L2.KOf]                          -- K must stand as «<heap const> w.params» for k_is
      refine' My.txt_mk ?e1 ?e2 ?e3 ..
      (case e1 => PySem.W.k_is)                    -- in the order: a name -> its address -> its object -> its parts
      (case e2 => PySem.W.k_is)
      ..
    obtain ⟨t, T⟩ := T
    have e0 := hmg.symm.trans (PySem.W.mg_of KX G T.law)
    cases e0                                       -- fa is the law's own address
    exact ⟨_, fun s u => .of_eq rfl, fun base kb nb => My.law_fn T kb nb⟩     -- if «.of_eq rfl» comes too early: refine' ⟨_, ?b, fun base kb nb => My.law_fn T kb nb⟩; exact fun s u => .of_eq rfl
  case S => exact fun w H a ns hl hO hS => ..
  case C => exact ..
(the tactic k_is has no namespace: write k_is) -/

/-! SHORT WORDS over the layer: a def of the text, its body, what a loop and a test want. -/
namespace L2
open PySem PySem.Spec PyProof.Rows

/-! ### the text by places -/
/-- the j-th statement of a class's body -/
def inClass (s : Stmt) (j : Nat) : Stmt := match s with
  | .ClassDef _ _ _ body _ _ _ _ _ _ _ => body.getD j (.Pass ⟨0, 0, 0, 0⟩)
  | _ => .Pass ⟨0, 0, 0, 0⟩
def defArgs (s : Stmt) : Arguments := match s with
  | .FunctionDef _ a _ _ _ _ _ _ _ _ => a
  | _ => { posonlyargs := [], args := [], vararg := none, kwonlyargs := [], kw_defaults := [], kwarg := none, defaults := [] }
def defBody (s : Stmt) : List Stmt := match s with
  | .FunctionDef _ _ b _ _ _ _ _ _ _ => b
  | _ => []
def defScope (s : Stmt) : Scope := match s with
  | .FunctionDef _ _ _ _ _ _ sc _ _ _ => sc
  | _ => { kind := .function, names := [], isGenerator := false, isCoroutine := false }

/-! ### no exception leaves a def -/
abbrev CX0 : CXT := fun _ _ _ _ _ _ => False
abbrev E0 : XK := fun _ _ _ => False
theorem pass0 {X : Cx} : Passes CX0 X E0 := fun _ _ _ _ _ _ _ h => h.elim

/-! ### a def (or method) of the text as it stands behind the top -/
structure Fun (K : PySem.W.Frag) (x qual : Str) (st : Stmt) (f : Addr) (fd : FuncData) : Prop where
  ex : ∃ (oc : Value) (od : Option Addr) (kV doc pm : Value) (an : Option Addr) (cdv ct : Value) (osl : Array (Option Value)),
    fd = PySem.W.fnOf x qual (defArgs st) (defBody st) (defScope st) .none kV doc pm an cdv ct ∧ K.lookup f = some ⟨oc, od, .func fd, osl⟩ ∧ PySem.W.codeIn K cdv qual = true
  kp : PySem.W.keepIn K (.ref f) = true
section
variable {P : Program} {w : World} {K : PySem.W.Frag} {mg : Str → Option Value} {base : Heap}
/-- THE RULE for a def: its body as a term of rules, and the reading of that term -/
theorem Fun.ok {x qual : Str} {st : Stmt} {f : Addr} {fd : FuncData} {N ps : List Str} {cm : Bool} {k : Nat} {sp : Sp} (F : Fun K x qual st f fd) (S : FnScope N ps (defScope st)) (len : ∀ vs H Q E, sp vs H Q E → vs.length = ps.length)
    (hbody : ∀ (cdv : Value) (A : Around) (outer : List Env) (s : Shared) (H : Hp) (vs : List V) (Q : VK) (E : XK), Room cm k (A.deeper (envOfC qual (defScope st) s.heap.objs.size f cdv)) → sp vs H Q E →
      ∃ t, PSs (cxOf CX0 cm P w K mg base N qual (defScope st) f cdv A outer s H E).nox (defBody st) t ∧ t { nx := fun _ H' => Q .non H', rt := Q } (start N vs) H) : FnOk P w K mg base CX0 cm (k + 1) f fd ps sp := by
  obtain ⟨oc, od, kV, doc, pm, an, cdv, ct, osl, rfl, lk, hcd⟩ := F.ex
  refine fn_of lk hcd S len fun A outer s H vs Q E hr hsp => ?_
  obtain ⟨t, h, q⟩ := hbody cdv A outer s H vs Q E hr hsp
  exact ⟨t, h.nox, q⟩
/-- how its arguments bind (no defaults): h is «fun _ _ _ _ _ _ us hl => match us, hl with | [_, _], _ => rfl», one _ a parameter -/
theorem Fun.binds {x qual : Str} {st : Stmt} {f : Addr} {fd : FuncData} {ps : List Str} (F : Fun K x qual st f fd)
    (h : ∀ (kV doc pm : Value) (an : Option Addr) (cdv ct : Value) (us : List Value), us.length = ps.length → bindArgs (PySem.W.fnOf x qual (defArgs st) (defBody st) (defScope st) .none kV doc pm an cdv ct) ⟨us, []⟩ = pure (ps.zip us)) : Binds K fd ps [] := by
  obtain ⟨oc, od, kV, doc, pm, an, cdv, ct, osl, rfl, lk, hcd⟩ := F.ex
  exact .all (h kV doc pm an cdv ct)
theorem fun_mk {x qual : Str} {st : Stmt} {f : Addr} {oc : Value} {od an : Option Addr} {osl : Array (Option Value)} {kV doc pm cdv ct : Value} (l : K.lookup f = some ⟨oc, od, .func (PySem.W.fnOf x qual (defArgs st) (defBody st) (defScope st) .none kV doc pm an cdv ct), osl⟩)
    (c : PySem.W.codeIn K cdv qual = true) (k : PySem.W.keepIn K (.ref f) = true) : Fun K x qual st f (PySem.W.fnOf x qual (defArgs st) (defBody st) (defScope st) .none kV doc pm an cdv ct) := ⟨⟨oc, od, kV, doc, pm, an, cdv, ct, osl, rfl, l, c⟩, k⟩
end
theorem hu_of {A : Around} {c : Bool} {k : Nat} (hr : Room c k A) : A.units + 1 < cLine := Nat.lt_of_le_of_lt (Nat.add_le_add_left (by decide : 1 ≤ 64) _) hr.units
theorem small1000 {n : Nat} (h : n ≤ 1000) : n < sizeLine := Nat.lt_of_le_of_lt h (by decide)

/-! ### expressions in short: the name that stands in the i-th slot -/
section
variable {X : Cx}
theorem pv (i : Nat) {x : Str} {pos : Pos} (hN : X.N[i]? = some x := by rfl) (hv : Vis X.env.scope x := by first | exact Or.inl rfl | exact Or.inr (Or.inl rfl) | exact Or.inr (Or.inr rfl)) (hd : (x == ("__debug__" : Str)) = false := by decide)
    (hcd : (x == ("__classdict__" : Str)) = false := by decide) : PE X (.Name x pos) (tVar i) := pe_var hN hv hd hcd
end

/-! ### tests -/
theorem iteF {A B : Prop} (h : B) : if false = true then A else B := by
  rw [if_neg Bool.false_ne_true]
  exact h
theorem iteT {A B : Prop} (h : A) : if true = true then A else B := by
  rw [if_pos rfl]
  exact h
theorem ite2 {c A B : Prop} [Decidable c] (h1 : c → A) (h2 : ¬ c → B) : if c then A else B := by
  by_cases h : c
  · rw [if_pos h]
    exact h1 h
  · rw [if_neg h]
    exact h2 h
/-! ### heaps -/
/-- all that was tracked is as it was -/
def Same (H H' : Hp) : Prop := ∀ b o, H b = some o → H' b = some o
theorem Same.refl (H : Hp) : Same H H := fun _ _ h => h
theorem Same.trans {H H1 H2 : Hp} (a : Same H H1) (b : Same H1 H2) : Same H H2 := fun c o h => b c o (a c o h)
theorem Same.free {H H' : Hp} (e : Same H H') {l : Addr} (h : H' l = Option.none) : H l = Option.none := by
  cases q : H l with
  | none => rfl
  | some o =>
    rw [e l o q] at h
    cases h
theorem Same.seq {K : PySem.W.Frag} {H H' : Hp} {a : Addr} {xs : List V} (e : Same H H') (h : SqL K H a xs) : SqL K H' a xs := by
  rcases h with (h | ⟨o, h⟩) | h
  · exact .inl (.inl (e _ _ h))
  · exact .inl (.inr ⟨o, e _ _ h⟩)
  · exact .inr h

end L2
set_option Elab.async false
set_option linter.all false
set_option maxRecDepth 100000
set_option maxHeartbeats 4000000
namespace L2
open PySem PySem.Spec PyProof.Rows

/-! ### a list comprehension of one clause -/
/-- the closure of a block -/
def closL (cells : List (Str × Addr)) : List (Str × NameKind) → List (Str × Addr) → List (Str × Addr)
  | [], cs => cs
  | (n, k) :: r, cs => closL cells r (if k == .free then (match cells.lookup n with | some c => (n, c) :: cs | none => cs) else cs)
theorem closureFor_eq {scope : Scope} {env : Env} (h : ∀ y ∈ scope.names, y.2 = .free → ∃ c, env.cells.lookup y.1 = some c) : closureFor scope env = pure (closL env.cells scope.names []) := by
  simp only [closureFor]
  have all : ∀ (l : List (Str × NameKind)) (cs : List (Str × Addr)), (∀ y ∈ l, y.2 = .free → ∃ c, env.cells.lookup y.1 = some c) →
      (forIn l cs fun (x : Str × NameKind) (r : List (Str × Addr)) => match x with | (name, kind) => if (kind == NameKind.free) = true then do let a ← cellOf env name; pure (ForInStep.yield ((name, a) :: r)) else pure (ForInStep.yield r) : Sem (List (Str × Addr))) = pure (closL env.cells l cs) := by
    intro l
    induction l with
    | nil => intro cs _; rfl
    | cons y r ih =>
      intro cs hy
      obtain ⟨n, k⟩ := y
      rw [List.forIn_cons]
      by_cases hk : k = .free
      · subst hk
        obtain ⟨c, hc⟩ := hy (n, .free) List.mem_cons_self rfl
        have hc' : env.cells.lookup n = some c := hc
        simp only [cellOf, hc', closL, beq_self_eq_true, if_true]
        exact ih _ fun z hz => hy z (List.mem_cons_of_mem _ hz)
      · have hb : (k == NameKind.free) = false := by simpa using hk
        simp only [closL, hb, Bool.false_eq_true, if_false]
        exact ih _ fun z hz => hy z (List.mem_cons_of_mem _ hz)
  have e := all scope.names [] h
  show (do let cs ← forIn scope.names [] _; pure cs) = _
  first
    | (rw [bind_pure]; exact e)
    | exact e
    | (simpa using e)
/-- what the closure holds -/
theorem closL_of {cells : List (Str × Addr)} : ∀ {l : List (Str × NameKind)} {cs : List (Str × Addr)} {x : Str} {c : Addr}, (closL cells l cs).lookup x = some c → cs.lookup x = some c ∨ (cells.lookup x = some c ∧ (x, NameKind.free) ∈ l)
  | [], _, _, _, h => .inl h
  | (n, k) :: r, cs, x, c, h => by
    unfold closL at h
    rcases closL_of h with h | ⟨h1, h2⟩
    · by_cases hk : k = .free
      · subst hk
        simp only [beq_self_eq_true, if_true] at h
        cases e : cells.lookup n with
        | none => rw [e] at h; exact .inl h
        | some c' =>
          rw [e] at h
          simp only [List.lookup_cons] at h
          by_cases hx : x = n
          · subst hx
            simp only [beq_self_eq_true] at h
            cases h
            exact .inr ⟨e, List.mem_cons_self⟩
          · have hb : (x == n) = false := by simpa using hx
            rw [hb] at h
            exact .inl h
      · have hb : (k == NameKind.free) = false := by simpa using hk
        rw [hb] at h
        exact .inl h
    · exact .inr ⟨h1, List.mem_cons_of_mem _ h2⟩
theorem closL_keep {cells : List (Str × Addr)} : ∀ {l : List (Str × NameKind)} {cs : List (Str × Addr)} {x : Str}, (cs.lookup x).isSome = true → ((closL cells l cs).lookup x).isSome = true
  | [], _, _, h => h
  | (n, k) :: r, cs, x, h => by
    unfold closL
    refine closL_keep ?_
    split
    · split
      · simp only [List.lookup_cons]
        split
        · rfl
        · exact h
      · exact h
    · exact h
theorem closL_has {cells : List (Str × Addr)} : ∀ {l : List (Str × NameKind)} {cs : List (Str × Addr)} {x : Str} {c : Addr}, (x, NameKind.free) ∈ l → cells.lookup x = some c → ((closL cells l cs).lookup x).isSome = true
  | (n, k) :: r, cs, x, c, hm, hc => by
    unfold closL
    rcases List.mem_cons.mp hm with e | hm
    · cases e
      refine closL_keep ?_
      simp only [beq_self_eq_true, if_true, hc, List.lookup_cons]
      rfl
    · exact closL_has hm hc

/-- the static facts of a block: its names by kind, the block's slots by the def's -/
def lcStat (sc : Scope) (names : List (Str × NameKind)) (N N' : List Str) (ix : List (Option Nat)) : Bool :=
  sc.kind == .function && sc.names.all (fun y => y.2 != .cell && (y.2 != .local || sc.names.lookup y.1 == some .local) && (y.2 != .free || (names.lookup y.1 == some .cell && sc.names.lookup y.1 == some .free)) ) &&
  ix.length == N'.length && (List.range ix.length).all (fun i => match ix.getD i none with
    | none => true
    | some j => (match N'[i]?, N[j]? with | some x, some y => x == y && sc.names.lookup x == some .free | _, _ => false))
def pick (ix : List (Option Nat)) (σ : St) : St := ix.map fun o => o.bind fun j => (σ[j]?).join

structure LcOk (X : Cx) (sc : Scope) (N' : List Str) (ix : List (Option Nat)) : Prop where
  kind : sc.kind = .function
  cell : ∀ y ∈ sc.names, y.2 ≠ .cell
  names : ∀ y ∈ sc.names, y.2 = .local → sc.names.lookup y.1 = some .local
  free : ∀ y ∈ sc.names, y.2 = .free → X.env.kindOf y.1 = some .cell ∧ sc.names.lookup y.1 = some .free
  len : ix.length = N'.length
  at_ : ∀ (i j : Nat), ix[i]? = some (some j) → ∃ x, N'[i]? = some x ∧ X.N[j]? = some x ∧ sc.names.lookup x = some .free
theorem LcOk.of {X : Cx} {sc : Scope} {N' : List Str} {ix : List (Option Nat)} (h : lcStat sc X.env.scope.names X.N N' ix = true) : LcOk X sc N' ix := by
  unfold lcStat at h
  simp only [Bool.and_eq_true, List.all_eq_true] at h
  obtain ⟨⟨⟨h1, h2⟩, h3⟩, h4⟩ := h
  refine ⟨by simpa using h1, fun y hy => ?_, fun y hy hk => ?_, fun y hy hk => ?_, by simpa using h3, fun i j e => ?_⟩
  · simpa using (h2 y hy).1.1
  · have q := (h2 y hy).1.2
    rw [hk] at q
    simpa using q
  · have q := (h2 y hy).2
    rw [hk] at q
    simp only [bne_self_eq_false, Bool.false_or, Bool.and_eq_true, beq_iff_eq] at q
    exact q
  · have hi : i < ix.length := (List.getElem?_eq_some_iff.mp e).1
    have := h4 i (List.mem_range.mpr hi)
    have eg : ix.getD i none = some j := by rw [List.getD_eq_getElem?_getD, e]; rfl
    rw [eg] at this
    dsimp only at this
    cases e1 : N'[i]? with
    | none => rw [e1] at this; simp at this
    | some x =>
      cases e2 : X.N[j]? with
      | none => rw [e1, e2] at this; simp at this
      | some y =>
        rw [e1, e2] at this
        simp only [Bool.and_eq_true, beq_iff_eq] at this
        exact ⟨x, rfl, by rw [this.1], this.2⟩

/-- the block's context -/
def cxLC (X : Cx) (sc : Scope) (N' : List Str) (pins : List (Addr × Obj)) (C : Addr) (fp : List Addr) (s : Shared) (H : Hp) : Cx :=
  { X with N := N', s₀ := s, H₀ := H, env := compEnvC sc (closL X.env.cells sc.names []) C X.env, outer := X.stack, stack := X.stack, ex := fp, fn := fun _ => false, pn := X.pn ++ pins, xe := fun _ _ => False }

theorem HOk.add {P : Program} {w : World} {H : Hp} {h : Heap} {D : Addr} {o : HO} (x : HOk P w H h) (hn : H D = none) (new : ObjOk P w (upd H D o) h D o) : HOk P w (upd H D o) h := fun b u e => by
  by_cases hb : b = D
  · subst hb; rw [upd_same] at e; cases e; exact new
  · rw [upd_ne hb] at e
    exact (x b u e).stay (fun _ _ _ q => q) (fun c q => by rw [upd_ne (ne_of_none q hn)]; exact q) fun c xs q => by rw [upd_ne (ne_of_none q hn)]; exact q
theorem HOk.but {P : Program} {w : World} {H : Hp} {h h' : Heap} {C : Addr} (x : HOk P w H h) (hn : H C = none) (k : ∀ b u, b ≠ C → h.get? b = some u → h'.get? b = some u) : HOk P w H h' := fun b u e =>
  (x b u e).stay (fun c v hc q => k c v (by
    rcases hc with z | z
    · rw [z]; exact ne_of_none e hn
    · exact ne_of_none z hn) q) (fun _ q => q) fun _ _ q => q

theorem relabel_look {sc : Scope} {env : Env} (hk : env.scope.kind = .function) (hf : ∀ y ∈ sc.names, y.2 = .free → env.kindOf y.1 = some .cell) :
    ∀ x, (relabel sc env).names.lookup x = (sc.names.lookup x).map fun k => if k == .free then .cell else k := by
  intro x
  have em : (relabel sc env).names = sc.names.map fun y => (y.1, if y.2 == .free then NameKind.cell else y.2) := by
    show sc.names.map _ = _
    refine List.map_congr_left fun y hy => ?_
    obtain ⟨n, k⟩ := y
    by_cases hk' : k = .free
    · subst hk'
      have e : env.kindOf n = some .cell := hf (n, .free) hy rfl
      simp [hk, e]
    · have hb : (k == NameKind.free) = false := by simpa using hk'
      simp [hb]
  rw [em]
  generalize sc.names = l
  induction l with
  | nil => rfl
  | cons y r ih =>
    obtain ⟨n, k⟩ := y
    simp only [List.map_cons, List.lookup_cons]
    cases x == n with
    | true => rfl
    | false => exact ih

section
variable {X : Cx} {sc : Scope} {N' : List Str} {ix : List (Option Nat)}
theorem pick_get {σ : St} {i : Nat} {v : V} (h : (pick ix σ)[i]? = some (some v)) : ∃ j, ix[i]? = some (some j) ∧ σ[j]? = some (some v) := by
  unfold pick at h
  rw [List.getElem?_map] at h
  cases e : ix[i]? with
  | none => rw [e] at h; cases h
  | some o =>
    rw [e] at h
    have h' : (o.bind fun j => (σ[j]?).join) = some v := Option.some.inj h
    cases o with
    | none => cases h'
    | some j =>
      have h'' : (σ[j]?).join = some v := h'
      cases e2 : σ[j]? with
      | none => rw [e2] at h''; cases h''
      | some z =>
        rw [e2] at h''
        have : z = some v := h''
        exact ⟨j, rfl, by rw [e2, this]⟩

/-- the block begins -/
theorem inv_lc {pins : List (Addr × Obj)} {σ : St} {H : Hp} {s : Shared} {fp : List Addr} {h₁ : Heap} {C : Addr} {tk : Nat} {m : Str → Option Value} (I : Inv X pins σ H s) (L : LcOk X sc N' ix) (f : ∀ b ∈ fp, FpOk X pins H b) (fl : ∀ b ∈ fp, b < s.heap.objs.size)
    (hC : s.heap.objs.size ≤ C) (hns : h₁.Ns C m) (old : ∀ b o, s.heap.get? b = some o → h₁.get? b = some o) :
    Inv (cxLC X sc N' pins C fp s H) [] (pick ix σ) H { s with heap := h₁, toks := tk } := by
  have cof : ∀ x c, (closL X.env.cells sc.names []).lookup x = some c → X.env.cells.lookup x = some c ∧ (x, NameKind.free) ∈ sc.names := fun x c h => by
    rcases closL_of h with h | h
    · cases h
    · exact h
  have rl := relabel_look (sc := sc) (env := X.env) I.ok.kind fun y hy hk => (L.free y hy hk).1
  have chas : ∀ x, sc.names.lookup x = some .free → ∃ c, (closL X.env.cells sc.names []).lookup x = some c ∧ X.env.cells.lookup x = some c := fun x hx => by
    have hm : (x, NameKind.free) ∈ sc.names := PySem.mem_of_lookup hx
    obtain ⟨c, hc⟩ := I.ok.has x (.inl (L.free _ hm rfl).1)
    obtain ⟨c', hc'⟩ := Option.isSome_iff_exists.mp (closL_has (cs := []) hm hc)
    exact ⟨c', hc', (cof x c' hc').1⟩
  refine ⟨⟨I.ok.mod, L.kind, I.ok.glob, I.ok.blt, hC, fun x y c h1 h2 => I.ok.inj x y c (cof x c h1).1 (cof y c h2).1, fun x hx => ?_, fun x c h => (nomatch h), I.ok.hd, I.ok.frames, .inl rfl, fun b hb => ⟨Nat.ne_of_lt (Nat.lt_of_lt_of_le (fl b hb) hC), fun x c h => (f b hb).2.2.2.2.1 x c (cof x c h).1⟩,
      I.bs, Nat.le_trans I.ok.bsz I.sz, fun b o e hb => ?_, fun b hb z => ?_, I.stack, I.stkFree⟩, rfl, I.bare, Un.kept old, ⟨m, hns, fun i x v e1 e2 e3 => ?_⟩, fun x c h => ?_, I.hok.fresh hC, fun x c h => I.freeC x c (cof x c h).1, fun p hp => ?_, I.hok.kept old, ?_, I.hdk⟩
  · have hx' : (relabel sc X.env).names.lookup x = some .cell ∨ (relabel sc X.env).names.lookup x = some .free := hx
    rw [rl x] at hx'
    cases e : sc.names.lookup x with
    | none => rw [e] at hx'; simp at hx'
    | some k =>
      have hk : k = .free := by
        cases k with
        | free => rfl
        | cell => exact absurd rfl (L.cell _ (PySem.mem_of_lookup e))
        | _ => rw [e] at hx'; revert hx'; decide
      subst hk
      obtain ⟨c, h1, _⟩ := chas x e
      exact ⟨c, h1⟩
  · rcases (f b hb).2.2.2.1 with z | z
    · exact I.ok.noex b o e z
    · exact absurd (Nat.lt_of_lt_of_le (Heap.lt_size (I.ok.bs b o e).1) z) (Nat.lt_irrefl _)
  · rcases List.mem_cons.mp (I.stkSub b z) with e | e
    · exact (f b hb).2.1 e
    · exact (f b hb).2.2.1 e
  · obtain ⟨j, hj, hv⟩ := pick_get e2
    obtain ⟨y, n1, n2, n3⟩ := L.at_ i j hj
    have exy : x = y := Option.some.inj ((show N'[i]? = some x from e1).symm.trans n1)
    subst exy
    obtain ⟨c, c1, c2⟩ := chas x n3
    have kf := (L.free _ (PySem.mem_of_lookup n3) rfl).1
    obtain ⟨m0, hn0, hl⟩ := I.loc
    obtain ⟨u, r, l⟩ := hl j x v n2 hv (.inr (.inl kf))
    refine ⟨u, r, .inr ⟨.inl ?_, c, c1, ?_⟩⟩
    · show (relabel sc X.env).names.lookup x = some .cell
      rw [rl x, n3]; rfl
    · rcases l with ⟨hk, _⟩ | ⟨_, c', hc', z⟩
      · have kf' : X.env.kindOf x = some .cell := kf
        rw [hk] at kf'; cases kf'
      · rw [c2] at hc'
        cases hc'
        obtain ⟨oc, ho, hd⟩ := z
        exact ⟨oc, old _ _ ho, hd⟩
  · obtain ⟨v, oc, ho, hd⟩ := I.cell x c (cof x c h).1
    exact ⟨v, oc, old _ _ ho, hd⟩
  · have hp' : p ∈ X.pn ++ pins := by
      have : p ∈ (X.pn ++ pins) ++ [] := hp
      simpa using this
    obtain ⟨a, b, c, d, e⟩ := I.pin p hp'
    exact ⟨old _ _ a, b, Nat.ne_of_lt (Nat.lt_of_lt_of_le (Heap.lt_size a) hC), fun z => (List.mem_cons.mp (I.stkSub p.1 z)).elim c d, e⟩
  · show (pick ix σ).length = N'.length
    unfold pick
    rw [List.length_map, L.len]
end

/-- the block's tests -/
def PTs (X : Cx) (ifs : List Expr) (t : TT) : Prop :=
  ∀ (pins : List (Addr × Obj)) (s : Shared) (σ : St) (H : Hp) (Q : Bool → Hp → Prop), Inv X pins σ H s → t σ H Q →
    wpAny (model X.prog X.w) X.A (forIn ifs true fun c r => if r = true then do let ok ← isTrue c X.env (eval c X.env); pure (ForInStep.yield ok) else pure (ForInStep.yield r)) (TP X pins σ Q) X.xe s
def tAll : TT := fun _ H Q => Q true H
theorem pts_nil {X : Cx} : PTs X [] tAll := fun _ _ _ H _ I h => wpAny_tests_nil ⟨H, I, h⟩
theorem pts_one {X : Cx} {c : Expr} {t : TT} (h : PT X c t) : PTs X [c] t := fun pins s σ H Q I q => wpAny_tests_one (h pins s σ H Q I q)

theorem compLoop_gen {prog : Program} {w : World} {A : Around} {R : Result → Shared → Prop} {s : Shared} {elt target iter : Expr} {ifs : List Expr} {scope : Scope} {pos : Pos} {it acc : Value} {env : Env} (I : Nat → Shared → Prop)
    (turn : ∀ n s, I n s → wpAny (model prog w) A (pyNext it) (fun r s₁ => match r with
      | none => R (.ok .next) s₁
      | some v => wpAny (model prog w) A (letOwnedTupleGo target it v) (fun _ s₁' => wpAny (model prog w) A (assign target env v) (fun _ s₂ =>
          wpAny (model prog w) A (forIn ifs true fun c r => if r = true then do let ok ← isTrue c env (eval c env); pure (ForInStep.yield ok) else pure (ForInStep.yield r)) (fun ok s₃ =>
            if ok = true then wpAny (model prog w) A (eval elt env) (fun x s₄ =>
              wpAny (model prog w) A (call (.builtin "list.append") [acc, x]) (fun _ s₅ => ∃ m, m < n ∧ I m s₅) (fun _ _ => False) s₄) (fun _ _ => False) s₃
            else ∃ m, m < n ∧ I m s₃) (fun _ _ => False) s₂) (fun _ _ => False) s₁') (fun _ _ => False) s₁) (fun _ _ => False) s)
    (n : Nat) (h : I n s) : codeAny (model prog w) A (.compLoop (.ListComp elt [⟨target, iter, ifs, 0⟩] scope pos) 0 it acc env) R s := by
  refine codeAny_loop rfl I (fun n s hI => ?_) n h
  show wpAny _ A ((compTurn (.ListComp elt [⟨target, iter, ifs, 0⟩] scope pos) 0 it acc env).onRaise (fun x => do noteFrame x env; theTreesLotGoes x)) _ _ s
  refine wpAny_noted (wpAny_mono (E := fun _ _ => False) ?_ (fun _ _ q => q) fun _ _ z => z.elim)
  rw [compTurn_list]
  refine wpAny_bind (wpAny_standAt (wpAny_bind (wpAny_mono (turn n s hI) (fun r s₁ h₁ => ?_) fun _ _ h' => h')))
  cases r with
  | none => exact wpAny_pure h₁
  | some v =>
    refine wpAny_bind (wpAny_mono h₁ (fun _ s₁' h₁' => ?_) fun _ _ h' => h')
    refine wpAny_bind (wpAny_mono h₁' (fun _ s₂ h₂ => wpAny_bind (wpAny_mono h₂ (fun ok s₃ h₃ => ?_) fun _ _ h' => h')) fun _ _ h' => h')
    cases ok with
    | false => exact wpAny_pure ⟨rfl, h₃⟩
    | true => exact wpAny_bind (wpAny_bind (wpAny_mono h₃ (fun x s₄ h₄ => wpAny_bind (wpAny_mono h₄ (fun _ s₅ h₅ => wpAny_pure (wpAny_pure ⟨rfl, h₅⟩)) fun _ _ h' => h')) fun _ _ h' => h'))

/-- [elt for tg in iter if ..]: W by the turn, a measure, the block's slots, what is gathered, the heap -/
def tLC (ix : List (Option Nat)) (wi : TI) (g : TG) (tt : TT) (te : TE) : TE := fun σ H Q => wi σ H fun J H1 => ∃ W : Nat → Nat → St → List V → Hp → Prop, (∃ m, W 0 m (pick ix σ) [] H1) ∧ ∀ i m τ ys H2, W i m τ ys H2 → ys.length < sizeLine ∧
  ((J.stop i H2 ∧ ∀ D, H2 D = none → Q (.ref D) (upd H2 D (.lst ys))) ∨
   (J.go i H2 ∧ ∀ x H3, J.yld i H2 x H3 → g x τ H3 fun τ1 H4 => tt τ1 H4 fun ok H5 => if ok = true then te τ1 H5 fun y H6 => ∃ m', m' < m ∧ W (i + 1) m' τ1 (ys ++ [y]) H6 else ∃ m', m' < m ∧ W (i + 1) m' τ1 ys H5))

theorem pe_lc {c : Bool} {X : Cx} {elt tg iter : Expr} {ifs : List Expr} {sc : Scope} {pos : Pos} {N' : List Str} {ix : List (Option Nat)} {wi : TI} {g : TG} {tt : TT} {te : TE} (hc : c = true → X.calm = true) (L : LcOk X sc N' ix) (hi : PIc c X tg iter wi)
    (hg : ∀ pins C fp s H, PG (cxLC X sc N' pins C fp s H) tg g) (ht : ∀ pins C fp s H, PTs (cxLC X sc N' pins C fp s H) ifs tt) (he : ∀ pins C fp s H, PE (cxLC X sc N' pins C fp s H) elt te)
    (hs : ∀ x, foldedSetIterable iter X.env x = pure x := by intro _; rfl) : PE X (.ListComp elt [⟨tg, iter, ifs, 0⟩] sc pos) (tLC ix wi g tt te) := by
  intro pins s σ H Q I h
  rw [eval_ListComp]
  have hclos : closureFor sc X.env = pure (closL X.env.cells sc.names []) := closureFor_eq fun y hy hk => I.ok.has y.1 (.inl (L.free y hy hk).1)
  refine wpAny_comprehension_free (use := none) rfl hs hclos L.kind L.names (thn (hi pins s σ H _ I h) fun v s1 h1 => thn h1 fun itv s2 h2 => ?_)
  obtain ⟨it, fp, tn, J, H2, e, I2, T, st2, f2, W, ⟨m0, w0⟩, turn⟩ := h2
  subst e
  refine wpAny_newObj_type (wpAny_newFunctionEnv L.cell (by intro y hy; simp at hy) (fun h₁ hns₁ hsb₁ => ?_) L.kind)
  dsimp only at hns₁ hsb₁ ⊢
  generalize hH2 : s2.heap.push { cls := .type "list", dict := none, data := .seq ([] : List Value).toArray } = G2 at hns₁ hsb₁ ⊢
  have hC : G2.objs.size = s2.heap.objs.size + 1 := by rw [← hH2, Heap.size_push]
  have hDC : s2.heap.objs.size ≠ G2.objs.size := by rw [hC]; exact Nat.ne_of_lt (Nat.lt_succ_self _)
  have hCle : s2.heap.objs.size ≤ G2.objs.size := by rw [hC]; exact Nat.le_succ _
  have below : ∀ b, b < s2.heap.objs.size → b ≠ G2.objs.size ∧ b ≠ s2.heap.objs.size := fun b hb => ⟨by rw [hC]; exact Nat.ne_of_lt (Nat.lt_succ_of_lt hb), Nat.ne_of_lt hb⟩
  have old : ∀ b o, s2.heap.get? b = some o → h₁.get? b = some o := fun b o e => hsb₁.extBut b o (below b (Heap.lt_size e)).1 (Heap.get?_push_of_some _ (hH2 ▸ Heap.get?_push_of_some _ e))
  have hacc : h₁.get? s2.heap.objs.size = some { cls := .type "list", data := .seq ([] : List Value).toArray 0 } := hsb₁.extBut _ _ hDC (Heap.get?_push_of_some _ (hH2 ▸ Heap.get?_push_size _ rfl))
  have fl : ∀ b ∈ fp, b < s2.heap.objs.size := fun b hb => by
    obtain ⟨o, e, _⟩ := T.obj 0 _ st2 b hb
    exact Heap.lt_size e
  have hDfp : s2.heap.objs.size ∉ fp := fun z => Nat.lt_irrefl _ (fl _ z)
  generalize hD : s2.heap.objs.size = D at *
  generalize hCe : G2.objs.size = C at *
  have cof : ∀ x c, (closL X.env.cells sc.names []).lookup x = some c → X.env.cells.lookup x = some c := fun x c h => by
    rcases closL_of h with h | h
    · cases h
    · exact h.1
  have st1 : tn 0 h₁ := T.keep _ _ _ st2 fun b _ o e => old b o e
  have I3 : Inv (cxLC X sc N' pins C fp s2 H2) [] (pick ix σ) H2 { s2 with heap := h₁, toks := s2.toks + ([] : List (Str × Value)).length } := inv_lc I2 L f2 (fun b hb => by rw [hD]; exact fl b hb) (by rw [hD]; exact hCle) hns₁ old
  have D0 : H2 D = none := I2.hok.fresh (Nat.le_of_eq hD)
  -- what stays of the accumulator and the iterator's objects
  have fD : ∀ {H' : Hp}, H' D = none → FpOk (cxLC X sc N' pins C fp s2 H2) [] H' D := fun {H'} hn => by
    refine ⟨hn, hDC, fun z => ?_, .inr (Nat.le_of_eq hD), fun x c hx z => ?_, fun p hp z => ?_⟩
    · obtain ⟨_, o, ho, _⟩ := I2.stack.mem (show D ∈ frs X.stack from z)
      exact absurd (Heap.lt_size ho) (by rw [hD]; exact Nat.lt_irrefl _)
    · obtain ⟨v, q⟩ := I2.cell x c (cof x c hx)
      have := q.lt
      rw [z, hD] at this
      exact Nat.lt_irrefl _ this
    · have hp' : p ∈ X.pn ++ pins := by
        have : p ∈ (X.pn ++ pins) ++ [] := hp
        simpa using this
      have := Heap.lt_size (I2.pin p hp').1
      rw [z, hD] at this
      exact Nat.lt_irrefl _ this
  have fF : ∀ {H' : Hp}, (∀ b ∈ fp, H' b = none) → ∀ b ∈ fp, FpOk (cxLC X sc N' pins C fp s2 H2) [] H' b := fun {H'} hn b hb => by
    obtain ⟨_, g1, g2, g3, g4, g5⟩ := f2 b hb
    refine ⟨hn b hb, (below b (fl b hb)).1, fun z => ?_, .inl hb, fun x c hx => g4 x c (cof x c hx), fun p hp => g5 p ?_⟩
    · rcases List.mem_cons.mp (I2.stkSub b z) with e | e
      · exact g1 e
      · exact g2 e
    · have : p ∈ (X.pn ++ pins) ++ [] := hp
      simpa using this
  have loop : ∀ s₃ : Shared, s₃ = { s2 with heap := h₁, toks := s2.toks + ([] : List (Str × Value)).length } →
      codeAny (model X.prog X.w) X.A (.compLoop (.ListComp elt [⟨tg, iter, ifs, 0⟩] sc pos) 0 (.ref it) (.ref D) (compEnvC sc (closL X.env.cells sc.names []) C X.env))
        (compPost (model X.prog X.w) X.A X.xe none (EP X pins σ Q) (.ref D) C) s₃ := by
    rintro s₃ rfl
    refine compLoop_gen (fun n s' => ∃ i τ ys H', Inv (cxLC X sc N' pins C fp s2 H2) [] τ H' s' ∧ tn i s'.heap ∧ (∀ b ∈ fp, H' b = none) ∧ H' D = none ∧ (∃ its k, Vals ys its ∧ s'.heap.get? D = some { cls := .type "list", data := .seq its.toArray k }) ∧ W i n τ ys H')
      ?_ m0 ⟨0, _, [], H2, I3, st1, fun b hb => (f2 b hb).1, D0, ⟨[], 0, .nil, hacc⟩, w0⟩
    rintro n s4 ⟨i, τ, ys, H4, I4, st4, fr4, dn4, ⟨its, k, rv, dg⟩, w4⟩
    obtain ⟨hlen, step⟩ := turn i n τ ys H4 w4
    rcases step with ⟨stop, fin⟩ | ⟨go, step⟩
    · refine thn (T.done (cxLC X sc N' pins C fp s2 H2) rfl rfl rfl hc i [(D, ({ cls := .type "list", data := .seq its.toArray k } : Obj))] s4 τ H4 (fun _ _ => False) (I4.pins_of fun p hp => ?_) (fun b hb => ?_) st4 stop) fun r s5 ⟨hr, I5⟩ => ?_
      · have e : p = (D, { cls := .type "list", data := .seq its.toArray k }) := by simpa using hp
        subst e
        obtain ⟨g0, g1, g2, _⟩ := fD dn4
        exact ⟨dg, g0, g1, g2, fun v z => (nomatch z)⟩
      · obtain ⟨g0, g1, g2, g3, g4, g5⟩ := fF fr4 b hb
        refine ⟨g0, g1, g2, g3, g4, fun p hp => ?_⟩
        rcases List.mem_append.mp hp with z | z
        · exact g5 p (List.mem_append_left _ z)
        · have e : p = (D, { cls := .type "list", data := .seq its.toArray k }) := by simpa using z
          subst e
          exact fun q => hDfp (by have q' : D = b := q; rw [q']; exact hb)
      · subst hr
        have dg5 := (I5.pin (D, _) (List.mem_append_right _ (List.mem_singleton.mpr rfl))).1
        obtain ⟨m5, hn5, _⟩ := id I5.loc
        refine ⟨m5, hn5, fun h' hsb => ?_⟩
        have kb : ∀ b u, b ≠ C → s5.heap.get? b = some u → h'.get? b = some u := fun b u hb e => (hsb.2 b hb).trans e
        have hlt : ∀ b o, s2.heap.get? b = some o → b ≠ C ∧ b ≠ D := fun b o e => by
          have := Heap.lt_size e
          rw [hD] at this
          exact below b this
        have U := I5.base
        refine ⟨.ref D, upd H4 D (.lst ys), I2.call' (s' := { s5 with heap := h' }) (ch := fp) I5.os ⟨fun b o e n hb hx => kb b o (hlt b o e).1 (U.keep b o e n hb hx), fun b o e n hb hx => ?_, fun b o e n hx => ?_, fun b o e hx => ?_, fun b xs e => ?_, fun b o u e => ?_, fun b ps e => ?_⟩ ?_ I5.bare (fun b hb => ?_), rfl, fin D dn4⟩
        · obtain ⟨sl, q⟩ := U.slot b o e n hb hx
          exact ⟨sl, kb b _ (hlt b o e).1 q⟩
        · rw [upd_ne (hlt b o e).2]
          exact U.free b o e n hx
        · obtain ⟨o', q⟩ := U.there b o e hx
          exact ⟨o', kb b _ (hlt b o e).1 q⟩
        · have q := U.tups b xs e
          rw [upd_ne (ne_of_none q dn4)]
          exact q
        · have q := U.frzs b o u e
          rw [upd_ne (ne_of_none q dn4)]
          exact q
        · obtain ⟨more, q⟩ := U.tbls b ps e
          exact ⟨more, by rw [upd_ne (ne_of_none q dn4)]; exact q⟩
        · refine (I5.hok.but I5.free kb).add dn4 ?_
          exact ⟨Nat.le_of_lt hlen, its, k, rv, kb _ _ hDC dg5⟩
        · obtain ⟨_, g1, g2, g3, g4, g5⟩ := f2 b hb
          exact ⟨g3, g1, g4, g5⟩
    · refine thn (T.item (cxLC X sc N' pins C fp s2 H2) rfl rfl rfl hc i [(D, ({ cls := .type "list", data := .seq its.toArray k } : Obj))] s4 τ H4 (fun _ _ => False) (I4.pins_of fun p hp => ?_) (fun b hb => ?_) st4 go) fun r s5 ⟨u, hr, h5⟩ => ?_
      · have e : p = (D, { cls := .type "list", data := .seq its.toArray k }) := by simpa using hp
        subst e
        obtain ⟨g0, g1, g2, _⟩ := fD dn4
        exact ⟨dg, g0, g1, g2, fun v z => (nomatch z)⟩
      · obtain ⟨g0, g1, g2, g3, g4, g5⟩ := fF fr4 b hb
        refine ⟨g0, g1, g2, g3, g4, fun p hp => ?_⟩
        rcases List.mem_append.mp hp with z | z
        · exact g5 p (List.mem_append_left _ z)
        · have e : p = (D, { cls := .type "list", data := .seq its.toArray k }) := by simpa using z
          subst e
          exact fun q => hDfp (by have q' : D = b := q; rw [q']; exact hb)
      · subst hr
        refine thn h5 fun _ s6 ⟨x, H6, I6, r6, y6, st6, fr6⟩ => ?_
        obtain ⟨dg6, dn6, _⟩ := I6.pin (D, _) (List.mem_append_right _ (List.mem_singleton.mpr rfl))
        have dn6' : H6 D = none := dn6
        have all6 : ∀ b ∈ D :: fp, FpOk (cxLC X sc N' pins C fp s2 H2) [] H6 b := fun b hb => by
          rcases List.mem_cons.mp hb with z | z
          · subst z; exact fD dn6'
          · exact fF fr6 b z
        have obj6 : ∀ b ∈ D :: fp, ∃ o, s6.heap.get? b = some o ∧ ∀ v, o.data ≠ .cell v := fun b hb => by
          rcases List.mem_cons.mp hb with z | z
          · subst z; exact ⟨_, dg6, fun v q => (nomatch q)⟩
          · exact T.obj _ _ st6 b z
        have I6' := (I6.unpinned (pins := [])).pinned all6 obj6
        refine thn (hg pins C fp s2 H2 _ s6 τ H6 x u _ I6' r6 (step x H6 y6)) fun _ s7 ⟨τ7, H7, I7, q7⟩ => ?_
        refine thn (ht pins C fp s2 H2 _ s7 τ7 H7 _ I7 q7) fun ok s8 ⟨H8, I8, q8⟩ => ?_
        have back : ∀ {s9 : Shared} {H9 : Hp}, Inv (cxLC X sc N' pins C fp s2 H2) ([] ++ pinsAt (D :: fp) s6.heap) τ7 H9 s9 → s9.heap.get? D = some { cls := .type "list", data := .seq its.toArray k } ∧ H9 D = none ∧ tn (i + 1) s9.heap ∧ ∀ b ∈ fp, H9 b = none := fun {s9 H9} I9 => by
          have pin : ∀ b o, b ∈ D :: fp → s6.heap.get? b = some o → s9.heap.get? b = some o ∧ H9 b = none := fun b o hb e => by
            have q := I9.pin (b, o) (List.mem_append_right _ (List.mem_append_right _ (mem_pinsAt hb e)))
            exact ⟨q.1, q.2.1⟩
          refine ⟨(pin D _ List.mem_cons_self dg6).1, (pin D _ List.mem_cons_self dg6).2, T.keep _ _ _ st6 fun b hb o e => (pin b o (List.mem_cons_of_mem _ hb) e).1, fun b hb => ?_⟩
          obtain ⟨o, e, _⟩ := T.obj _ _ st6 b hb
          exact (pin b o (List.mem_cons_of_mem _ hb) e).2
        cases ok with
        | false =>
          obtain ⟨b1, b2, b3, b4⟩ := back I8
          simp only [Bool.false_eq_true, if_false] at q8 ⊢
          obtain ⟨m', hm, w'⟩ := q8
          exact ⟨m', hm, i + 1, τ7, ys, H8, I8.unpinned, b3, b4, b2, ⟨its, k, rv, b1⟩, w'⟩
        | true =>
          simp only [if_true] at q8 ⊢
          refine thn (he pins C fp s2 H2 _ s8 τ7 H8 _ I8 q8) fun y s9 ⟨yv, H9, I9, r9, m', hm, w'⟩ => ?_
          obtain ⟨b1, b2, b3, b4⟩ := back I9
          have el : its.toArray.size ≤ sizeLine := by
            have := rv.length
            simp only [List.size_toArray]
            omega
          refine append_at (hsz := el) b1 fun h10 sb hD10 => ?_
          obtain ⟨_, g1, _, g3, g4, g5⟩ := fD b2
          refine ⟨m', hm, i + 1, τ7, ys ++ [yv], H9, (I9.unpinned (pins := [])).turned (t' := s9.toks) (fun b o hb e => (sb.2 b hb).trans e) b2 g1 g3 g4 g5, T.keep _ _ _ b3 fun b hb o e => (sb.2 b fun q => hDfp (by rw [← q]; exact hb)).trans e, b4, b2, ⟨its ++ [y], k + 1, rv.append (.cons r9 .nil), ?_⟩, w'⟩
          show h10.get? D = _
          rw [hD10]
          simp
  exact codeAny_compStart_list (loop _ rfl) (T.self _ 0 _ _ _ st1 (loop _ rfl))
end L2
set_option Elab.async false
set_option linter.all false
set_option maxRecDepth 100000
set_option maxHeartbeats 4000000
namespace L2
open PySem PySem.Spec PyProof.Rows

/-! ### an exception under way -/
/-- e of the class cls flies over the frames l; no context hangs on it; its newest entry, if there is one, stands in flight fl; what B holds stays -/
structure FlyZ (B : Heap) (l : List Env) (e : Addr) (cls fl : Value) (h : Heap) : Prop where
  stays : B.StaysIn h
  new : B.get? e = none
  frames : h.FunFrames B l
  obj : ∃ oe vs, h.get? e = some oe ∧ oe.cls = cls ∧ oe.dict = none ∧ oe.data = .fields vs ∧ 2 < vs.size ∧ vs[2]? = some .none ∧
    (vs[1]? = some .none ∨ ∃ T oT ts, vs[1]? = some (.ref T) ∧ B.get? T = none ∧ T ≠ e ∧ h.get? T = some oT ∧ oT.data = .fields ts ∧ ts[3]? = some fl)

section
variable {M : Model} {A : Around} {E : Value → Shared → Prop} {s : Shared} {B : Heap} {env : Env} {outer l : List Env} {L e : Addr} {cls fl : Value}
theorem dict_mapFields (o : Obj) (f : Array Value → Array Value) : (o.mapFields f).dict = o.dict := by
  obtain ⟨c, d, dt, sl⟩ := o
  cases dt <;> rfl
theorem fly_entry {oe : Obj} {vs : Array Value} {head : Value} {had : Bool} {Q : Unit → Shared → Prop} (hfr : A.frames = some (env :: outer)) (hf : env.frame = some L) (st : B.StaysIn s.heap) (hn : B.get? e = none)
    (hl : s.heap.FunFrames B (env :: outer)) (he : s.heap.get? e = some oe) (hc : oe.cls = cls) (hdi : oe.dict = none) (hd : oe.data = .fields vs) (hz : 2 < vs.size) (h2 : vs[2]? = some .none)
    (k : ∀ h', FlyZ B (env :: outer) e cls (rawInt L) h' → s.heap.UpToSlots h' → Q () { s with heap := h' }) :
    wpAny M A (do let a ← frameOf env; let pl ← entryPlaceOf L had; let b ← EntryCells.newEntry head a .none (rawInt L) .none pl; setField (.ref e) 1 b) Q E s := by
  have nfr : e ∉ (env :: outer).filterMap (·.frame) := fun z => by
    obtain ⟨_, o, ho, nf⟩ := hl.mem z
    rw [he] at ho
    cases ho
    exact nf vs hd
  refine wpAny_bind (wpAny_frameOf_fun hfr hl hf fun g only => ?_)
  obtain ⟨_, same, slots⟩ := only
  refine wpAny_bind (wpAny_entryPlaceOf fun pl hpl => ?_)
  have key : ∀ (tb : Obj) (ts : Array Value), tb.data = .fields ts → ts[3]? = some (rawInt L) → wpAny M A (setField (.ref e) 1 (.ref g.objs.size)) Q E { s with heap := g.push tb } := by
    intro tb ts td t3
    have e1 : g.get? e = some oe := (same e nfr).trans he
    have e2 : (g.push tb).get? e = some oe := Heap.get?_push_of_some _ e1
    have hT : (g.push tb).get? g.objs.size = some tb := Heap.get?_push_size _ (by rw [Obj.isFreed_of_fields td])
    have hne : g.objs.size ≠ e := Nat.ne_of_gt (Heap.lt_size e1)
    have fresh : B.get? g.objs.size = none := by
      cases q : B.get? g.objs.size with
      | none => rfl
      | some o =>
        obtain ⟨sl, z⟩ := slots _ o (st _ o q)
        exact absurd (Heap.lt_size z) (Nat.lt_irrefl _)
    have up : ∀ b o, b ≠ e → g.get? b = some o → ((g.push tb).update e (Obj.mapFields (·.setIfInBounds 1 (.ref g.objs.size)))).get? b = some o := fun b o hb q =>
      (Heap.get?_update_other _ _ (Ne.symm hb)).trans (Heap.get?_push_of_some _ q)
    have notE : ∀ b o, s.heap.get? b = some o → (∀ ws, o.data ≠ .fields ws) → b ≠ e := fun b o q nf z => by
      rw [z, he] at q
      cases q
      exact nf vs hd
    have dd := Obj.data_mapFields hd (·.setIfInBounds 1 (Value.ref g.objs.size))
    refine wpAny_setField e2 hd (by omega) (k _ ⟨fun b o q => ?_, hn, ?_, ?_⟩ fun b o q nf => ?_)
    · refine up b o (fun z => by rw [z, hn] at q; cases q) ((same b fun z => ?_).trans (st b o q))
      rw [(hl.mem z).1] at q
      cases q
    · refine hl.of_keeps fun b o q nf => ?_
      obtain ⟨sl, z⟩ := slots b o q
      exact ⟨_, up b _ (notE b o q nf) z, rfl⟩
    · refine ⟨_, _, Heap.get?_update_self _ e2 (Obj.isFreed_of_fields dd), (Obj.cls_mapFields _ _).trans hc, (dict_mapFields _ _).trans hdi, dd, by simpa using hz, by rw [Array.getElem?_setIfInBounds_ne (by decide)]; exact h2, .inr ⟨g.objs.size, tb, ts, ?_, fresh, hne, ?_, td, t3⟩⟩
      · rw [Array.getElem?_setIfInBounds_self_of_lt (by omega)]
      · rw [Heap.get?_update_other _ _ (Ne.symm hne)]
        exact hT
    · obtain ⟨sl, z⟩ := slots b o q
      exact ⟨sl, up b _ (notE b o q nf) z⟩
  unfold EntryCells.newEntry newFields
  refine wpAny_bind (wpAny_newObj_type ?_ (hpl.sizeOk5 _ _ _ _ _))
  exact key _ _ rfl (by simp)
/-- a frame is noted -/
theorem fly_note {Q : Unit → Shared → Prop} (hfr : A.frames = some (env :: outer)) (hf : env.frame = some L) (x : FlyZ B (env :: outer) e cls fl s.heap)
    (k : ∀ h', FlyZ B (env :: outer) e cls (rawInt L) h' → s.heap.UpToSlots h' → Q () { s with heap := h' }) : wpAny M A (noteFrame (.ref e) env) Q E s := by
  obtain ⟨st, hn, hl, oe, vs, he, hc, hdi, hd, hz, h2, h1⟩ := x
  unfold noteFrame
  simp only [hf]
  rcases h1 with h1 | ⟨T, oT, ts, h1, nT, Te, gT, dT, t3⟩
  · refine wpAny_bind (wpAny_field he hd h1 ?_)
    rw [if_neg (show ¬ ((Value.none != Value.none) = true) by decide)]
    exact fly_entry hfr hf st hn hl he hc hdi hd hz h2 k
  · refine wpAny_bind (wpAny_field he hd h1 ?_)
    rw [if_pos (show (Value.ref T != Value.none) = true by simp)]
    refine wpAny_bind (wpAny_field gT dT t3 ?_)
    by_cases hfl : fl = rawInt L
    · subst hfl
      rw [if_pos (show (rawInt L == rawInt L) = true by simp)]
      exact wpAny_pure (k s.heap ⟨st, hn, hl, oe, vs, he, hc, hdi, hd, hz, h2, .inr ⟨T, oT, ts, h1, nT, Te, gT, dT, t3⟩⟩ (Heap.UpToSlots.refl _))
    · rw [if_neg (show ¬ ((fl == rawInt L) = true) by simpa using hfl)]
      refine wpAny_bind (wpAny_setField gT dT (Array.getElem?_eq_some_iff.mp t3).1 ?_)
      have oth : ∀ b, b ≠ T → (s.heap.update T (Obj.mapFields (·.setIfInBounds 3 Value.none))).get? b = s.heap.get? b := fun b hb => Heap.get?_update_other _ _ (Ne.symm hb)
      have notT : ∀ b o, s.heap.get? b = some o → (∀ ws, o.data ≠ .fields ws) → b ≠ T := fun b o q nf z => by
        rw [z, gT] at q
        cases q
        exact nf ts dT
      refine fly_entry (B := B) (cls := cls) hfr hf (fun b o q => ?_) hn (hl.of_keeps fun b o q nf => ⟨o, (oth b (notT b o q nf)).trans q, rfl⟩) ((oth e (Ne.symm Te)).trans he) hc hdi hd hz h2 fun h' y up => k h' y fun b o q nf => up b o ((oth b (notT b o q nf)).trans q) nf
      exact (oth b fun z => by rw [z, nT] at q; cases q).trans (st b o q)
theorem fly_flight {Q : Unit → Shared → Prop} (x : FlyZ B l e cls fl s.heap) (k : ∀ h', FlyZ B l e cls .none h' → s.heap.UpToSlots h' → Q () { s with heap := h' }) : wpAny M A (setFlight (.ref e) none) Q E s := by
  obtain ⟨st, hn, hl, oe, vs, he, hc, hdi, hd, hz, h2, h1⟩ := x
  unfold setFlight
  rcases h1 with h1 | ⟨T, oT, ts, h1, nT, Te, gT, dT, t3⟩
  · refine wpAny_bind (wpAny_field he hd h1 ?_)
    rw [if_neg (show ¬ ((Value.none != Value.none) = true) by decide)]
    exact wpAny_pure (k s.heap ⟨st, hn, hl, oe, vs, he, hc, hdi, hd, hz, h2, .inl h1⟩ (Heap.UpToSlots.refl _))
  · refine wpAny_bind (wpAny_field he hd h1 ?_)
    rw [if_pos (show (Value.ref T != Value.none) = true by simp)]
    have lt3 : 3 < ts.size := (Array.getElem?_eq_some_iff.mp t3).1
    have dd := Obj.data_mapFields dT (·.setIfInBounds 3 Value.none)
    have oth : ∀ b, b ≠ T → (s.heap.update T (Obj.mapFields (·.setIfInBounds 3 Value.none))).get? b = s.heap.get? b := fun b hb => Heap.get?_update_other _ _ (Ne.symm hb)
    have notT : ∀ b o, s.heap.get? b = some o → (∀ ws, o.data ≠ .fields ws) → b ≠ T := fun b o q nf z => by
      rw [z, gT] at q
      cases q
      exact nf ts dT
    refine wpAny_setField gT dT lt3 (k _ ⟨fun b o q => (oth b fun z => by rw [z, nT] at q; cases q).trans (st b o q), hn, hl.of_keeps fun b o q nf => ⟨o, (oth b (notT b o q nf)).trans q, rfl⟩, oe, vs, (oth e (Ne.symm Te)).trans he, hc, hdi, hd, hz, h2,
      .inr ⟨T, _, _, h1, nT, Te, Heap.get?_update_self _ gT (Obj.isFreed_of_fields dd), dd, ?_⟩⟩ fun b o q nf => ⟨o.slots, (oth b (notT b o q nf)).trans q⟩)
    rw [Array.getElem?_setIfInBounds_self_of_lt lt3]
theorem fly_leave {Q : Unit → Shared → Prop} (hfr : A.frames = some (env :: outer)) (hf : env.frame = some L) (x : FlyZ B (env :: outer) e cls fl s.heap)
    (k : ∀ h', FlyZ B outer e cls .none h' → s.heap.UpToSlots h' → Q () { s with heap := h' }) : wpAny M A (leaving env (.ref e)) Q E s := by
  unfold leaving
  refine wpAny_bind (fly_note hfr hf x fun h1 y u1 => fly_flight (s := { s with heap := h1 }) y fun h2 z u2 => ?_)
  obtain ⟨a, b, ⟨_, _, c⟩, d⟩ := z
  exact k h2 ⟨a, b, c, d⟩ (u1.trans u2)
end

/-! ### how an exception lies behind a call -/
def CXW (P : Program) (w : World) : CXT := fun outer H s E e s' => ∃ (ea C : Addr) (B : Heap) (H' : Hp) (sI : Shared), e = .ref ea ∧ FlyZ B outer ea (.ref C) .none s'.heap ∧ Un (frs outer) [] H H' s.heap sI.heap ∧ HOk P w H' sI.heap ∧
  sI.os = s.os ∧ AllBare sI.gens ∧ s'.os = s.os ∧ AllBare s'.gens ∧ (∀ b o, sI.heap.get? b = some o → b ∉ frs outer → B.get? b = some o) ∧ sI.heap.UpToSlots s'.heap ∧ E (.ref C) none H'
/-- the context takes an exception of which Ex holds -/
def Throws (X : Cx) (Ex : Addr → St → Hp → Prop) : Prop := ∀ (pins : List (Addr × Obj)) (σ : St) (H : Hp) (sI : Shared) (ea C : Addr) (B : Heap) (fl : Value) (s' : Shared), Inv X pins σ H sI → FlyZ B X.stack ea (.ref C) fl s'.heap → s'.os = sI.os → AllBare s'.gens →
  (∀ b o, sI.heap.get? b = some o → b ∉ frs X.stack → B.get? b = some o) → sI.heap.UpToSlots s'.heap → Ex C σ H → X.xe (.ref ea) s'
theorem throws_none {X : Cx} : Throws X (fun _ _ _ => False) := fun _ _ _ _ _ _ _ _ _ _ _ _ _ _ _ h => h.elim
/-- a def's body -/
theorem throws_def {cm : Bool} {P : Program} {w : World} {K : PySem.W.Frag} {mg : Str → Option Value} {base : Heap} {N : List Str} {qual : Str} {scope : Scope} {f : Addr} {cd : Value} {A : Around} {outer : List Env} {s : Shared} {H : Hp} {E : XK} :
    Throws (cxOf (CXW P w) cm P w K mg base N qual scope f cd A outer s H E) (fun C _ H' => E (.ref C) none H') := by
  intro pins σ H' sI ea C B fl s' I x os bare hB up q
  have ff : A.frames = some outer := by
    have := I.ok.frames
    cases h : A.frames with
    | none =>
      have z : (A.deeper (envOfC qual scope s.heap.objs.size f cd)).frames = none := by
        first | (show (A.frames.map _) = none; rw [h]; rfl) | simp [Around.deeper, Around.under, h]
      rw [show (cxOf (CXW P w) cm P w K mg base N qual scope f cd A outer s H E).A = A.deeper (envOfC qual scope s.heap.objs.size f cd) from rfl, z] at this
      cases this
    | some l =>
      have z := Around.frames_deeper (env := envOfC qual scope s.heap.objs.size f cd) h
      rw [show (cxOf (CXW P w) cm P w K mg base N qual scope f cd A outer s H E).A = A.deeper (envOfC qual scope s.heap.objs.size f cd) from rfl, z] at this
      have := Option.some.inj this
      exact congrArg some (List.cons.inj this).2
  show wpAny (model P w) (A.deeper (envOfC qual scope s.heap.objs.size f cd)) (leaving (envOfC qual scope s.heap.objs.size f cd) (.ref ea)) _ _ s'
  refine fly_leave (L := s.heap.objs.size) (Around.frames_deeper ff) rfl x fun h' y u => ?_
  have hid : ∀ b o, b ≠ s.heap.objs.size → sI.heap.get? b = some o → (PySem.W.hideAll sI.heap [s.heap.objs.size]).get? b = some o := fun b o hb e => PySem.W.hideAll_get _ e (by simpa using hb)
  have U := I.base
  have lt : ∀ b o, s.heap.get? b = some o → b ≠ s.heap.objs.size := fun b o e => Nat.ne_of_lt (Heap.lt_size e)
  have nl : ∀ b : Addr, b ∉ (cxOf (CXW P w) cm P w K mg base N qual scope f cd A outer s H E).ex := fun b z => absurd (show b ∈ ([] : List Addr) from z) (by simp)
  refine ⟨ea, C, B, H', { sI with heap := PySem.W.hideAll sI.heap [s.heap.objs.size] }, rfl, y, ⟨fun b o e n hb _ => hid b o (lt b o e) (U.keep b o e n hb (nl b)), fun b o e n hb _ => ?_, fun b o e n _ => U.free b o e n (nl b), fun b o e _ => ?_, U.tups, U.frzs, U.tbls⟩,
    I.hok.but (C := s.heap.objs.size) I.free hid, I.os, I.bare, os.trans I.os, bare, fun b o e hb => ?_, fun b o e nf => ?_, q⟩
  · obtain ⟨sl, z⟩ := U.slot b o e n hb (nl b)
    exact ⟨sl, hid b _ (lt b o e) z⟩
  · obtain ⟨o', z⟩ := U.there b o e (nl b)
    exact ⟨o', hid b _ (lt b o e) z⟩
  · have e' := PySem.W.of_hideAll _ e
    refine hB b o e' fun z => ?_
    have z' : b ∈ s.heap.objs.size :: frs outer := z
    rcases List.mem_cons.mp z' with r | r
    · rw [r] at e
      have z9 : (PySem.W.hideAll sI.heap [s.heap.objs.size]).get? s.heap.objs.size = none := PySem.W.hideAll_none _ (by simp)
      exact absurd (z9.symm.trans e) (by simp)
    · exact hb r
  · exact (up.trans u) b o (PySem.W.of_hideAll _ e) nf

/-! ### calls that may raise -/
def XE (Ex : Addr → St → Hp → Prop) (σ : St) : XK := fun c _ H' => ∃ C, c = .ref C ∧ Ex C σ H'
def tCallX (sp : Sp) (dvs : List V) (Ex : Addr → St → Hp → Prop) (t : TA) : TE := fun σ H Q => t σ H fun vs H1 => sp (vs ++ dvs) H1 Q (XE Ex σ)
def tMethX (C : Addr) (m : Str) (sp : Sp) (dvs : List V) (Ex : Addr → St → Hp → Prop) (ta : TE) (t : TA) : TE := fun σ H Q => ta σ H fun x H1 => ∃ a dx fs, x = .ref a ∧ H1 a = some (.ins C dx fs) ∧ fs.lookup m = none ∧
  t σ H1 fun vs H2 => sp (x :: (vs ++ dvs)) H2 Q (XE Ex σ)
def tMakeX (C : Addr) (sp : Sp) (dvs : List V) (Ex : Addr → St → Hp → Prop) (t : TA) : TE := fun σ H Q => t σ H fun vs H1 => ∀ x dx, H1 x = none → H1 dx = none → dx ≠ x →
  sp (.ref x :: (vs ++ dvs)) (upd (upd H1 dx (.own x)) x (.ins C dx [])) (fun v H2 => v = .non ∧ Q (.ref x) H2) (XE Ex σ)
section
variable {X : Cx} {cm : Bool} {k : Nat} {f C : Addr} {fd : FuncData} {ps : List Str} {sp : Sp} {dvs : List V} {ds : List Value} {Ex : Addr → St → Hp → Prop} {x m : Str} {p pos apos : Pos} {e o : Expr} {es : List Expr} {ta : TE} {t : TA}
theorem Throws.of {pins : List (Addr × Obj)} {σ : St} {H : Hp} {s s' : Shared} {v : Value} (T : Throws X Ex) (I : Inv X pins σ H s) (h : CXW X.prog X.w X.stack H s (XE Ex σ) v s') : X.xe v s' := by
  obtain ⟨ea, C, B, H', sI, rfl, y, un, hok, os, bare, os', bare', hB, up, C', ec, q⟩ := h
  cases ec
  exact T pins σ H' sI ea C B .none s' (I.call' os un hok bare fun b z => absurd z (by simp)) y (os'.trans os.symm) bare' hB up q
theorem run_fnX {pins : List (Addr × Obj)} {σ : St} {H : Hp} {s : Shared} {Q : VK} {us : List Value} {vs : List V} (T : Throws X Ex) (F : FnOk X.prog X.w X.K X.mg X.base (CXW X.prog X.w) cm k f fd ps sp) (hr : Room cm k X.A) (hb : Binds X.K fd ps ds) (hd : Vals dvs ds)
    (I : Inv X pins σ H s) (r : Vals vs us) (h : sp (vs ++ dvs) H Q (XE Ex σ)) : wpAny (model X.prog X.w) X.A (call (.ref f) us) (EP X pins σ Q) X.xe s := by
  have r2 : Vals (vs ++ dvs) (us ++ ds) := r.append hd
  have hl : (us ++ ds).length = ps.length := by rw [← r2.length]; exact F.len _ _ _ _ h
  refine wpAny_call (codeAny_mono (F.run X.A X.stack s H ⟨us, []⟩ (us ++ ds) (vs ++ dvs) Q (XE Ex σ) hr I.env0 (hb s us I.kIn hl) r2 h) fun r s' hq => ?_)
  cases r with
  | error v => exact T.of I hq
  | ok fl =>
    cases fl with
    | ret u => exact I.after hq
    | next => exact False.elim hq
    | brk => exact False.elim hq
    | cont => exact False.elim hq
theorem pe_methX {pl : Sem Bool} (he : PE X o ta) (c : Cls X.K C) (hm : Meth X.K C m f) (T : Throws X Ex) (F : FnOk X.prog X.w X.K X.mg X.base (CXW X.prog X.w) cm k f fd ps sp) (hr : Room cm k X.A) (hb : Binds X.K fd ps ds) (hd : Vals dvs ds) (ha : PA X (e :: es) t)
    (hst : starEach (e :: es) X.env = (false, eval e X.env) :: starEach es X.env := by rfl) (hpl : (backTo pos (starEach es X.env)).any (·.1) = false := by rfl)
    (ht : eval (.Call (.Attribute o m apos) (e :: es) [] pos) X.env = (do
      let ov ← eval o X.env
      standAt apos.atName
      let (f, first) ← holding [ov] (getMethod ov m pl)
      callWith pos f first (backTo pos (starEach (e :: es) X.env)) (backToKw pos (keywordEach [] X.env))) := by rfl) :
    PE X (.Call (.Attribute o m apos) (e :: es) [] pos) (tMethX C m sp dvs Ex ta t) := by
  intro pins s σ H Q I h
  refine PySem.W.methodCall_KW (pl := pl) (thn (he pins s σ H _ I h) fun u s1 ⟨x, H1, I1, rx, a, dx, fs, ex, ea, l, q⟩ => ?_) ht
  subst ex
  obtain rfl : u = Value.ref a := rx
  refine getmeth_ok I1 ea c hm l ?_
  refine PySem.W.callWith_K (first := [.ref a]) (h₀ := X.base) I.ok.mod.kin hm.kp (thn (ha pos pins s1 σ H1 _ I1 q) fun us s2 ⟨vs, H2, I2, r, q2⟩ => ⟨I2.kIn, ?_⟩) hst hpl
  exact run_fnX (us := .ref a :: us) (vs := .ref a :: vs) T F hr hb hd I2 (.cons rfl r) q2
theorem pe_methX0 {pl : Sem Bool} (he : PE X o ta) (c : Cls X.K C) (hm : Meth X.K C m f) (T : Throws X Ex) (F : FnOk X.prog X.w X.K X.mg X.base (CXW X.prog X.w) cm k f fd ps sp) (hr : Room cm k X.A) (hb : Binds X.K fd ps ds) (hd : Vals dvs ds)
    (ht : eval (.Call (.Attribute o m apos) [] [] pos) X.env = (do
      let ov ← eval o X.env
      standAt apos.atName
      let (f, first) ← holding [ov] (getMethod ov m pl)
      callWith pos f first (backTo pos (starEach [] X.env)) (backToKw pos (keywordEach [] X.env))) := by rfl) :
    PE X (.Call (.Attribute o m apos) [] [] pos) (tMethX C m sp dvs Ex ta tNil) := by
  intro pins s σ H Q I h
  refine PySem.W.methodCall_KW (pl := pl) (thn (he pins s σ H _ I h) fun u s1 ⟨x, H1, I1, rx, a, dx, fs, ex, ea, l, q⟩ => ?_) ht
  subst ex
  obtain rfl : u = Value.ref a := rx
  refine getmeth_ok I1 ea c hm l ?_
  exact PySem.W.callWith_K0 (first := [.ref a]) I1.kIn hm.kp (run_fnX (us := [.ref a]) (vs := [.ref a]) T F hr hb hd I1 (.cons rfl .nil) q)
theorem pe_makeX (M : Mk X.K C f) (T : Throws X Ex) (F : FnOk X.prog X.w X.K X.mg X.base (CXW X.prog X.w) cm k f fd ps sp) (hr : Room cm (k + 1) X.A) (hg : Gl X x) (hm : X.mg x = some (.ref C)) (hb : Binds X.K fd ps ds) (hd : Vals dvs ds)
    (ha : PA X (e :: es) t) (hdb : (x == ("__debug__" : Str)) = false := by decide) (he : starEach (e :: es) X.env = (false, eval e X.env) :: starEach es X.env := by rfl) (hpl : (backTo pos (starEach es X.env)).any (·.1) = false := by rfl) :
    PE X (.Call (.Name x p) (e :: es) [] pos) (tMakeX C sp dvs Ex t) := by
  intro pins s σ H Q I h
  refine wpAny_Call_Name_kw (ld_glob I hg hm ?_ hdb)
  refine PySem.W.callWith_K (h₀ := X.base) I.ok.mod.kin M.kp (thn (ha pos pins s σ H _ I h) fun us s1 ⟨vs, H1, I1, r, q⟩ => ⟨I1.kIn, ?_⟩) he hpl
  have hq := q (s1.heap.objs.size + 1) s1.heap.objs.size (I1.hok.fresh (Nat.le_succ _)) (I1.hok.fresh (Nat.le_refl _)) (Nat.ne_of_lt (Nat.lt_succ_self _))
  have I2 := Inv.made (C := C) I1
  have r2 : Vals (V.ref (s1.heap.objs.size + 1) :: (vs ++ dvs)) (Value.ref (s1.heap.objs.size + 1) :: (us ++ ds)) := .cons rfl (r.append hd)
  have hl : (Value.ref (s1.heap.objs.size + 1) :: us ++ ds).length = ps.length := by
    have e := r2.length
    rw [F.len _ _ _ _ hq] at e
    exact e.symm
  refine wpAny_call (make_map (f := f) I1.kIn M.makes M.init (beq_iff_eq.mp M.fn) (codeAny_mono (F.run _ X.stack _ _ ⟨Value.ref (s1.heap.objs.size + 1) :: us, []⟩ (Value.ref (s1.heap.objs.size + 1) :: (us ++ ds)) _ _ (XE Ex σ) (hr.make C us [])
    (I2.env0.make C us []) (hb _ (Value.ref (s1.heap.objs.size + 1) :: us) I2.kIn hl) r2 hq) fun r s' hq' => ?_))
  cases r with
  | error e => exact T.of I2 hq'
  | ok fl =>
    cases fl with
    | ret u =>
      obtain ⟨v, H', I3, rv, ev, q3⟩ := I2.after hq'
      subst ev
      exact ⟨rv, ⟨V.ref (s1.heap.objs.size + 1), H', I3, rfl, q3⟩⟩
    | next => exact False.elim hq'
    | brk => exact False.elim hq'
    | cont => exact False.elim hq'
end
/-- no exception leaves a statement -/
theorem PS.nox {X : Cx} {st : Stmt} {t : TS} (h : PS X.nox st t) : PS X st t := fun pins s σ H D I hw =>
  wpAny_mono (h pins s σ H D (I.wish _) hw) (fun _ _ q => q.unwish) fun _ _ z => False.elim z
/-- THE RULE for a def that may raise: its body's exceptions are E's -/
theorem Fun.okW {P : Program} {w : World} {K : PySem.W.Frag} {mg : Str → Option Value} {base : Heap} {x qual : Str} {st : Stmt} {f : Addr} {fd : FuncData} {N ps : List Str} {cm : Bool} {k : Nat} {sp : Sp} (F : Fun K x qual st f fd) (S : FnScope N ps (defScope st)) (len : ∀ vs H Q E, sp vs H Q E → vs.length = ps.length)
    (hbody : ∀ (cdv : Value) (A : Around) (outer : List Env) (s : Shared) (H : Hp) (vs : List V) (Q : VK) (E : XK), Room cm k (A.deeper (envOfC qual (defScope st) s.heap.objs.size f cdv)) → sp vs H Q E →
      ∃ t, PSs (cxOf (CXW P w) cm P w K mg base N qual (defScope st) f cdv A outer s H E) (defBody st) t ∧ t { nx := fun _ H' => Q .non H', rt := Q } (start N vs) H) : FnOk P w K mg base (CXW P w) cm (k + 1) f fd ps sp := by
  obtain ⟨oc, od, kV, doc, pm, an, cdv, ct, osl, rfl, lk, hcd⟩ := F.ex
  exact fn_of lk hcd S len fun A outer s H vs Q E hr hsp => hbody cdv A outer s H vs Q E hr hsp
end L2
set_option Elab.async false
set_option linter.all false
set_option maxRecDepth 100000
set_option maxHeartbeats 4000000
namespace L2
open PySem PySem.Spec PyProof.Rows

/-! ### own error classes under ValueError -/
def bmV : List Value := [.type "ValueError", .type "Exception", .type "BaseException", .type "object"]
/-- the class at C is an own error class whose first built-in base is ValueError -/
def ErrK (K : PySem.W.Frag) (C : Addr) : Prop := PySem.W.excIn K C bmV "ValueError.__new__" = true
structure ErrObj (h : Heap) (C : Addr) (mro : List Value) : Prop where
  ex : ∃ bm N nm q bs hdct sn sub ab col dd k0 k1 k2 k3 k5 mN, mro = .ref C :: bm ∧ h.get? C = some (excClassObj nm q C N bs bm hdct sn sub ab col dd k0 k1 k2 k3 k5 "ValueError.__new__") ∧ h.Ns N mN ∧ mN "__init__" = none ∧ OwnTail h bmV bm
theorem ErrK.obj {K : PySem.W.Frag} {C : Addr} {h : Heap} (x : ErrK K C) (X : K.In h) : ∃ cd, PySem.W.clsIn K C = some cd ∧ ErrObj h C cd.mro := by
  unfold ErrK PySem.W.excIn at x
  split at x
  · rename_i dd cd sl look
    have hc : PySem.W.clsIn K C = some cd := by
      unfold PySem.W.clsIn
      rw [look]
    refine ⟨cd, hc, ?_⟩
    split at x
    · rename_i C' bm k0 k1 k2 k3 n k5 em es
      simp only [Bool.and_eq_true, beq_iff_eq, Bool.not_eq_true'] at x
      obtain ⟨⟨⟨⟨⟨c1, c2⟩, c3⟩, c4⟩, c5⟩, c6⟩ := x
      subst c1 c2
      obtain ⟨a1, a2, a3, a4, a5, a6, a7, a8, a9, a10, a11⟩ := cd
      dsimp only at em c3 c5 c6 ⊢
      subst em c3
      obtain ⟨sl⟩ := sl
      dsimp only at es
      subst es
      exact ⟨bm, a4, a1, a5, a2, a6, a7, a8, a9, a10, dd, k0, k1, k2, k3, k5, _, rfl, X _ _ look, .of_isNs (PySem.W.isNs_of_in X c5), PySem.W.nsMap_none_of_in X c5 c6, PySem.W.tail_of_in X c4⟩
    · cases x
  · cases x

/-! ### raise C(..) -/
def tRaise (C : Addr) (Ex : Addr → St → Hp → Prop) (t : TA) : TS := fun _ σ H => t σ H fun vs H1 => vs.length ≤ sizeLine ∧ Ex C σ H1
theorem ps_raise {X : Cx} {Ex : Addr → St → Hp → Prop} {C : Addr} {x : Str} {np cpos pos : Pos} {e : Expr} {es : List Expr} {t : TA} (hc : X.calm = true) (T : Throws X Ex) (O : ErrK X.K C) (hg : Gl X x) (hm : X.mg x = some (.ref C)) (ha : PA X (e :: es) t)
    (hdb : (x == ("__debug__" : Str)) = false := by decide) (hst : starEach (e :: es) X.env = (false, eval e X.env) :: starEach es X.env := by rfl) (hpl : (backTo cpos (starEach es X.env)).any (·.1) = false := by rfl) :
    PS X (.Raise (some (.Call (.Name x np) (e :: es) [] cpos)) none pos) (tRaise C Ex t) := by
  intro pins s σ H D I h
  obtain ⟨cd, _, ⟨bm, N, nm, q, bs, hdct, sn, sub, ab, col, dd, k0, k1, k2, k3, k5, mN, em, hC, hN, hni, TL⟩⟩ := O.obj I.ok.mod.kin
  refine wpAny_Raise_call_subT (C := C) (nm := nm) (q := q) (N := N) (bs := bs) (bm := bm) (hdct := hdct) (sn := sn) (sub := sub) (ab := ab) (col := col) (dd := dd) (k0 := k0) (k1 := k1) (k2 := k2) (k3 := k3) (k5 := k5) (mN := mN) PySem.F.excBase_ValueError (TL.hasType (by decide)) (I.ok.hd hc)
    (by rw [hst]; show (false || (backTo cpos (starEach es X.env)).any (·.1)) = false; rw [hpl]; rfl) hni (ld_glob I hg hm ⟨rfl, ?_⟩ hdb)
  have hA := ha cpos pins s σ H _ I h
  rw [hst] at hA ⊢
  refine Calls.evalArgs_plain (thn hA fun us s2 ⟨vs, H2, I2, r2, hz, q2⟩ => ⟨rfl, by rw [← r2.length]; exact hz, I2.bk _ _ hC, hN.keeps I2.bk, TL.keeps I2.bk, fun h' ea hm' => ?_⟩)
  obtain ⟨tt, he, htn, _⟩ := hm'.there
  have hin : ∀ env ∈ X.stack, ∀ a, env.frame = some a → a ∈ frs X.stack := fun env hm a ha => List.mem_filterMap.mpr ⟨env, hm, ha⟩
  refine T pins σ H2 s2 ea C (PySem.W.hideAll s2.heap (frs X.stack)) .none { s2 with heap := h' } I2 ⟨fun b o e => hm'.keeps b o (PySem.W.of_hideAll _ e), ?_, ?_, ?_⟩ rfl I2.bare (fun b o e hb => PySem.W.hideAll_get _ e hb) (fun b o e _ => ⟨o.slots, hm'.keeps b o e⟩) q2
  · cases z : (PySem.W.hideAll s2.heap (frs X.stack)).get? ea with
    | none => rfl
    | some o =>
      have := PySem.W.of_hideAll _ z
      rw [hm'.new] at this
      cases this
  · exact (PySem.W.funFrames_hide I2.stack hin).of_keeps fun b o e _ => ⟨o, hm'.keeps b o e, rfl⟩
  · exact ⟨_, _, he, rfl, rfl, rfl, by simp, rfl, .inl rfl⟩

/-! ### try .. except D as n -/
section
variable {M : Model} {A : Around} {E : Value → Shared → Prop}
theorem exc_matches {h : Heap} {g : Array GenState} {d : Drawn} {t : Nat} {os : OsState} {e C D : Addr} {oe : Obj} {mC mD : List Value} {Q : Bool → Shared → Prop} (OC : ErrObj h C mC) (OD : ErrObj h D mD) (he : h.get? e = some oe) (hcls : oe.cls = .ref C)
    (hsub : mC.contains (.ref D) = true) (hq : Q true ⟨h, g, d, t, os⟩) : wpAny M A (excMatches (.ref e) (.ref D)) Q E ⟨h, g, d, t, os⟩ := by
  obtain ⟨bm, N, nm, q, bs, hdct, sn, sub, ab, col, dd, k0, k1, k2, k3, k5, mN, rfl, hC, _, _, TC⟩ := OC
  obtain ⟨bm', N', nm', q', bs', hdct', sn', sub', ab', col', dd', j0, j1, j2, j3, j5, mN', rfl, hD, _, _, TD⟩ := OD
  have b1 : (Value.ref D :: bm').contains (.type "BaseException") = true := by
    rw [List.contains_cons, TD.hasType (X := "BaseException") (b := true) (by decide), Bool.or_true]
  have b2 := tc_notTuple
  unfold excMatches
  repeat (first | (with_reducible refine wpAny_loadPart_at he ?_; rw [hcls]) | with_reducible refine wpAny_loadPart_at hD ?_ | (with_reducible refine wpAny_isSubtype_exc hD ?_; rw [b1]) | (with_reducible refine wpAny_isSubtype_exc hC ?_; rw [hsub]) | wp_step)
  exact hq
end

theorem ObjOk.ex {P : Program} {w : World} {H : Hp} {h : Heap} {a : Addr} {o : HO} (x : ObjOk P w H h a o) : ∃ ob, h.get? a = some ob := by
  cases o with
  | lst xs => obtain ⟨_, _, _, _, e⟩ := x; exact ⟨_, e⟩
  | tup xs => obtain ⟨_, _, _, o, e, _⟩ := x; exact ⟨_, e⟩
  | dK kvs => obtain ⟨_, _, _, _, o, _, _, e, _⟩ := x; exact ⟨_, e⟩
  | dT kvs => obtain ⟨_, _, _, _, o, _, _, e, _⟩ := x; exact ⟨_, e⟩
  | set S n => obtain ⟨o, _, _, _, e, _⟩ := x; exact ⟨_, e⟩
  | ins C dx fs => obtain ⟨_, _, _, e, _⟩ := x; exact ⟨_, e⟩
  | own y => exact x
  | xd fs => obtain ⟨_, ⟨_, _, _, e, _⟩, _⟩ := x; exact ⟨_, e⟩
  | rng lo hi => obtain ⟨_, _, _, e⟩ := x; exact ⟨_, e⟩
  | frz ob u => exact ⟨_, x.1⟩
  | tbl ps => exact ⟨_, x⟩
  | met f y => exact ⟨_, x⟩
  | ext φ => exact x.2.1

/-- the pins become the context's own -/
abbrev cxP (X : Cx) (pins : List (Addr × Obj)) : Cx := { X with pn := X.pn ++ pins }
theorem Cx.Ok.p {X : Cx} (ok : X.Ok) (pins : List (Addr × Obj)) : (cxP X pins).Ok :=
  ⟨ok.mod, ok.kind, ok.glob, ok.blt, ok.above, ok.inj, ok.has, ok.cab, ok.hd, ok.frames, ok.stk, ok.exf, ok.bs, ok.bsz, ok.noex, ok.exfs, ok.funs, ok.frf⟩
theorem Inv.p {X : Cx} {pins : List (Addr × Obj)} {σ : St} {H : Hp} {s : Shared} (I : Inv X pins σ H s) : Inv (cxP X pins) [] σ H s :=
  ⟨I.ok.p pins, I.os, I.bare, I.base, I.loc, I.cell, I.free, I.freeC, fun p hp => I.pin p (by have h : p ∈ (X.pn ++ pins) ++ [] := hp; simpa using h), I.hok, I.len, I.hdk⟩
theorem Inv.unp {X : Cx} {pins : List (Addr × Obj)} {σ : St} {H : Hp} {s : Shared} (ok : X.Ok) (I : Inv (cxP X pins) [] σ H s) : Inv X pins σ H s :=
  ⟨ok, I.os, I.bare, I.base, I.loc, I.cell, I.free, I.freeC, fun p hp => I.pin p (by show p ∈ (X.pn ++ pins) ++ []; simpa using hp), I.hok, I.len, I.hdk⟩
/-- the body of a try -/
abbrev cxTry (X : Cx) (pins : List (Addr × Obj)) (Ex : Addr → St → Hp → Prop) : Cx := (cxP X pins).wish fun e s' => ∃ (ea C : Addr) (B : Heap) (H' : Hp) (fl : Value) (σ : St) (sI : Shared), e = .ref ea ∧ Inv (cxP X pins) [] σ H' sI ∧ FlyZ B X.stack ea (.ref C) fl s'.heap ∧
  s'.os = sI.os ∧ AllBare s'.gens ∧ (∀ b o, sI.heap.get? b = some o → b ∉ frs X.stack → B.get? b = some o) ∧ sI.heap.UpToSlots s'.heap ∧ Ex C σ H'
theorem throws_try {X : Cx} {pins : List (Addr × Obj)} {Ex : Addr → St → Hp → Prop} : Throws (cxTry X pins Ex) Ex := fun ps σ H sI ea C B fl s' I y os bare hB up q =>
  ⟨ea, C, B, H, fl, σ, sI, rfl, (I.unwish.pins_of fun p hp => (nomatch hp)), y, os, bare, hB, up, q⟩
/-- the suite of an except -/
abbrev cxSuite (X : Cx) (pins : List (Addr × Obj)) (ea : Addr) : Cx := { X with pn := X.pn ++ pins, A := X.A.mark (some (.ref ea)), calm := false, xe := fun _ _ => False }

/-- an exception's own object -/
def ExcO (C : Addr) (o : Obj) : Prop := o.cls = .ref C ∧ o.dict = none ∧ ∃ vs, o.data = .fields vs
/-- the exception lands: the suite's ground -/
theorem land {X : Cx} {pins : List (Addr × Obj)} {σ : St} {H : Hp} {sI s' : Shared} {ea C : Addr} {B : Heap} {fl : Value} (hex : X.ex = []) (I : Inv (cxP X pins) [] σ H sI) (y : FlyZ B X.stack ea (.ref C) fl s'.heap) (os : s'.os = sI.os) (bare : AllBare s'.gens)
    (hB : ∀ b o, sI.heap.get? b = some o → b ∉ frs X.stack → B.get? b = some o) (up : sI.heap.UpToSlots s'.heap) :
    H ea = none ∧ ∃ oe, ExcO C oe ∧ s'.heap.get? ea = some oe ∧ Inv (cxSuite X pins ea) [] σ (upd H ea (.frz oe (.own 0))) s' := by
  obtain ⟨st, hn, hl, oe, vs, he, hc, hdi, hd, hz, h2, h1⟩ := y
  have nea : ea ∉ frs X.stack := fun z => by
    obtain ⟨_, o, ho, nf⟩ := hl.mem z
    rw [he] at ho
    cases ho
    exact nf vs hd
  have new : sI.heap.get? ea = none := by
    cases q : sI.heap.get? ea with
    | none => rfl
    | some o =>
      have := hB _ o q nea
      rw [hn] at this
      cases this
  have hH : H ea = none := by
    cases q : H ea with
    | none => rfl
    | some u =>
      obtain ⟨ob, z⟩ := (I.hok ea u q).ex
      rw [new] at z
      cases z
  have keep : ∀ b o, sI.heap.get? b = some o → b ∉ frs X.stack → s'.heap.get? b = some o := fun b o e hb => st b o (hB b o e hb)
  have slot : ∀ b o, sI.heap.get? b = some o → b ∈ frs X.stack → ∃ sl, s'.heap.get? b = some { o with slots := sl } := fun b o e hb => by
    obtain ⟨_, o', ho', nf⟩ := I.stack.mem (show b ∈ (cxP X pins).stack.filterMap (·.frame) from hb)
    rw [e] at ho'
    cases ho'
    exact up b o e nf
  have I1 : Inv (cxP X pins) [] σ H s' := I.call' (ch := []) os ⟨fun b o e _ hb _ => keep b o e hb, fun b o e _ hb _ => slot b o e hb, fun _ _ _ n _ => n, fun b o e _ => ?_, fun _ _ e => e, fun _ _ _ e => e, fun b ps e => ⟨#[], by rw [e]; simp⟩⟩
    (fun b u e => (I.hok b u e).stay (fun c v hc q => keep c v q fun z => ?_) (fun _ q => q) fun _ _ q => q) bare fun b z => absurd z (by simp)
  · have nel : ea ≠ X.env.locals := fun z => by
      obtain ⟨m, ⟨o, es, ep, ho, hdd, _⟩, _⟩ := I1.loc
      have ho' : s'.heap.get? ea = some o := by rw [z]; exact ho
      rw [he] at ho'
      cases ho'
      rw [hd] at hdd
      cases hdd
    refine ⟨hH, oe, ⟨hc, hdi, vs, hd⟩, he, ⟨⟨I1.ok.mod, I1.ok.kind, I1.ok.glob, I1.ok.blt, I1.ok.above, I1.ok.inj, I1.ok.has, I1.ok.cab, fun z => (nomatch z), I1.ok.frames, I1.ok.stk, I1.ok.exf, I1.ok.bs, I1.ok.bsz, I1.ok.noex, I1.ok.exfs, I1.ok.funs, I1.ok.frf⟩, I1.os, I1.bare,
      ⟨I1.base.keep, I1.base.slot, fun b o e n hx => ?_, I1.base.there, fun b xs e => ?_, fun b o u e => ?_, fun b ps e => ?_⟩, I1.loc, I1.cell, ?_, fun x c e => ?_, fun p hp => ?_, I1.hok.add hH ⟨he, oe, he⟩, I1.len, .inr ⟨ea, oe, vs, rfl, upd_same, hd, h2, C, hc⟩⟩⟩
    · obtain ⟨o', z⟩ := I.base.there b o e hx
      rw [upd_ne (fun w => by rw [w, new] at z; cases z)]
      exact I1.base.free b o e n hx
    · have z := I1.base.tups b xs e
      rw [upd_ne (ne_of_none z hH)]
      exact z
    · have z := I1.base.frzs b o u e
      rw [upd_ne (ne_of_none z hH)]
      exact z
    · obtain ⟨more, z⟩ := I1.base.tbls b ps e
      exact ⟨more, by rw [upd_ne (ne_of_none z hH)]; exact z⟩
    · rw [upd_ne (Ne.symm nel)]
      exact I1.free
    · have nc : c ≠ ea := fun w => by
        obtain ⟨v, o, ho, hdd⟩ := I1.cell x c e
        rw [w, he] at ho
        cases ho
        rw [hd] at hdd
        cases hdd
      rw [upd_ne nc]
      exact I1.freeC x c e
    · obtain ⟨a, b, c, d, f⟩ := I1.pin p hp
      refine ⟨a, ?_, c, d, f⟩
      rw [upd_ne fun w => ?_]
      · exact b
      · have := (I.pin p hp).1
        rw [w, new] at this
        cases this
  · by_cases hb : b ∈ frs X.stack
    · obtain ⟨sl, z⟩ := slot b o e hb
      exact ⟨_, z⟩
    · exact ⟨o, keep b o e hb⟩
  · have zf : H c = none := I.stkFree c z
    rcases hc with w | w
    · rw [w] at zf
      rw [zf] at e
      cases e
    · rw [zf] at w
      cases w

/-- a name is unbound -/
theorem Inv.unbound {X : Cx} {pins : List (Addr × Obj)} {σ : St} {H : Hp} {s : Shared} {i : Nat} {n : Str} {m : Str → Option Value} {v : Option Value} {h' : Heap} {tk : Nat} (I : Inv X pins σ H s) (hN : X.N.Nodup) (hi : X.N[i]? = some n)
    (hm : s.heap.Ns X.env.locals m ∧ ∀ (i : Nat) (x : Str) (v : V), X.N[i]? = some x → σ[i]? = some (some v) → Vis X.env.scope x → ∃ u, RelV v u ∧ Look X.env s.heap m x u)
    (hn' : h'.Ns X.env.locals (fun x => if x = n then v else m x)) (hs : Heap.SameBut X.env.locals s.heap h') : Inv X pins (σ.set i none) H { s with heap := h', toks := tk } := by
  obtain ⟨oL, _, _, hoL, _⟩ := id hm.1
  have hiσ : i < σ.length := by rw [I.len]; exact (List.getElem?_eq_some_iff.mp hi).1
  have ne0 : ∀ b o, X.s₀.heap.get? b = some o → b ≠ X.env.locals := fun b o e => Nat.ne_of_lt (Nat.lt_of_lt_of_le (Heap.lt_size e) I.ok.above)
  refine ⟨I.ok, I.os, I.bare, ⟨fun b o e n hb hx => (hs.2 b (ne0 b o e)).trans (I.base.keep b o e n hb hx), fun b o e n hb hx => ?_, I.base.free, fun b o e hx => ?_, I.base.tups, I.base.frzs, I.base.tbls⟩, ⟨_, hn', fun j y w e1 e2 e3 => ?_⟩, fun y c e => ?_, I.free, I.freeC, fun p hp => ?_,
    I.hok.but I.free fun b u hb e => (hs.2 b hb).trans e, by simpa using I.len, I.hdk⟩
  · obtain ⟨sl, z⟩ := I.base.slot b o e n hb hx
    exact ⟨sl, (hs.2 b (ne0 b o e)).trans z⟩
  · obtain ⟨o', z⟩ := I.base.there b o e hx
    exact ⟨o', (hs.2 b (ne0 b o e)).trans z⟩
  · by_cases hj : j = i
    · subst hj
      rw [List.getElem?_set_self hiσ] at e2
      cases e2
    · rw [List.getElem?_set_ne (Ne.symm hj)] at e2
      obtain ⟨u, r, l⟩ := hm.2 j y w e1 e2 e3
      refine ⟨u, r, ?_⟩
      have hy : y ≠ n := fun q => hj (nodup_ix hN e1 (q ▸ hi))
      rcases l with ⟨k1, k2⟩ | ⟨k1, c, e, z⟩
      · exact .inl ⟨k1, by simp [hy, k2]⟩
      · exact .inr ⟨k1, c, e, z.sameBut hs (I.cne y c e)⟩
  · obtain ⟨w, z⟩ := I.cell y c e
    exact ⟨w, z.sameBut hs (I.cne y c e)⟩
  · obtain ⟨a, b, c, d, f⟩ := I.pin p hp
    exact ⟨(hs.2 p.1 c).trans a, b, c, d, f⟩
theorem Inv.unsuite {X : Cx} {pins : List (Addr × Obj)} {σ : St} {H : Hp} {s : Shared} {ea : Addr} (ok : X.Ok) (hh : X.A.handled = none) (I : Inv (cxSuite X pins ea) [] σ H s) : Inv X pins σ H s :=
  ⟨ok, I.os, I.bare, I.base, I.loc, I.cell, I.free, I.freeC, fun p hp => I.pin p (by show p ∈ (X.pn ++ pins) ++ []; simpa using hp), I.hok, I.len, .inl hh⟩

/-- i: the slot of n; D: the class that is caught; tb: the body, by what is wanted of an exception; ts: the suite -/
def tTry (K : PySem.W.Frag) (i : Nat) (D : Addr) (tb : (Addr → St → Hp → Prop) → TS) (ts : TS) : TS := fun Z σ H =>
  tb (fun C σ' H' => ErrK K C ∧ PySem.W.mroIn K C (.ref D) = some true ∧ ∀ ea oe, H' ea = none → ExcO C oe →
    ts { nx := fun σ2 H2 => Z.nx (σ2.set i none) H2, rt := Z.rt, bk := fun σ2 H2 => Z.bk (σ2.set i none) H2, ct := fun σ2 H2 => Z.ct (σ2.set i none) H2 } (σ'.set i (some (.ref ea))) (upd H' ea (.frz oe (.own 0)))) Z σ H
theorem ps_try {X : Cx} {i : Nat} {D : Addr} {x n : Str} {np hpos pos : Pos} {body : List Stmt} {b₀ : Stmt} {suite : List Stmt} {tb : (Addr → St → Hp → Prop) → TS} {ts : TS} (hc : X.calm = true) (hex : X.ex = []) (hstk : X.stack = X.env :: X.outer ∧ X.env.frame = some X.env.locals)
    (hN : X.N.Nodup) (hi : X.N[i]? = some n) (hlo : X.env.scope.names.lookup n = some .local) (OD : ErrK X.K D) (hg : Gl X x) (hm : X.mg x = some (.ref D))
    (hb : ∀ pins Ex, PSs (cxTry X pins Ex) body (tb Ex)) (hs : ∀ pins ea, PSs (cxSuite X pins ea) (b₀ :: suite) ts) (hdb : (x == ("__debug__" : Str)) = false := by decide) :
    PS X (.Try body [.ExceptHandler (some (.Name x np)) (some n) (b₀ :: suite) hpos] [] [] pos) (tTry X.K i D tb ts) := by
  intro pins s σ H Z I h
  have hh : X.A.handled = none := I.ok.hd hc
  have hp : (X.env.scope.kind == .class || (X.env.scope.kind == .module && X.env.locals != X.env.globals)) = false := by rw [I.ok.kind]; rfl
  refine wpAny_Try_except (wpAny_mono (hb pins _ [] s σ H Z (I.p.wish _) h) (fun f s1 q => ?_) fun e s1 q => ?_)
  · cases f with
    | next =>
      obtain ⟨σ', H', J, q⟩ := q
      exact wpAny_execs_nil ⟨σ', H', Inv.unp I.ok J.unwish, q⟩
    | brk => obtain ⟨σ', H', J, q⟩ := q; exact ⟨σ', H', Inv.unp I.ok J.unwish, q⟩
    | cont => obtain ⟨σ', H', J, q⟩ := q; exact ⟨σ', H', Inv.unp I.ok J.unwish, q⟩
    | ret u => obtain ⟨v, σ', H', J, r, q⟩ := q; exact ⟨v, σ', H', Inv.unp I.ok J.unwish, r, q⟩
  · obtain ⟨ea, C, B, H', fl, σ', sI, rfl, J, y, os, bare, hB, up, OC, sub, want⟩ := q
    have fr : X.A.frames = some (X.env :: X.outer) := by rw [I.ok.frames, hstk.1]
    rw [hstk.1] at y
    refine fly_note fr hstk.2 y fun h2 y2 u2 => fly_flight (s := { s1 with heap := h2 }) y2 fun h3 y3 u3 => ?_
    have y3' : FlyZ B X.stack ea (.ref C) .none h3 := by rw [hstk.1]; exact y3
    have up3 := (up.trans u2).trans u3
    obtain ⟨_, oe3, c3, g3, J3⟩ := land (s' := { s1 with heap := h3 }) hex J y3' os bare hB up3
    obtain ⟨cdC, cC, eC⟩ := OC.obj J3.kIn
    obtain ⟨cdD, cD, eD⟩ := OD.obj J3.kIn
    have hsub : cdC.mro.contains (.ref D) = true := by
      unfold PySem.W.mroIn at sub
      rw [cC] at sub
      simp only [Option.bind_some] at sub
      split at sub
      · cases sub
      · exact Option.some.inj sub
    refine wpAny_handleBy_cons (codeAny_handlers_test (ld_glob (X := cxSuite X pins ea) J3 hg hm ?_ hdb)) (by intro q; cases q)
    refine exc_matches (h := h3) (g := s1.gens) (d := s1.drawn) (t := s1.toks) (os := s1.os) eC eD g3 c3.1 hsub ?_
    refine codeAny_handlers_suite_as ?_
    refine fly_flight (s := { s1 with heap := h3 }) y3 fun h4 y4 u4 => ?_
    have y4' : FlyZ B X.stack ea (.ref C) .none h4 := by rw [hstk.1]; exact y4
    obtain ⟨hH4, oe4, c4, g4, J4⟩ := land (s' := { s1 with heap := h4 }) hex J y4' os bare hB (up3.trans u4)
    refine store_ok (X := cxSuite X pins ea) (i := i) (v := .ref ea) J4 hN hi (.inl hlo) rfl (fun s5 J5 => ?_) (.inr hlo)
    refine wpAny_mono (hs pins ea [] s5 _ _ _ J5 (want ea oe4 hH4 c4)) (fun f s6 q6 => ?_) fun _ _ z => z.elim
    have go : ∀ {σ7 : St} {H7 : Hp}, Inv (cxSuite X pins ea) [] σ7 H7 s6 → (∀ s7, Inv X pins (σ7.set i none) H7 s7 → SP X pins Z f s7) →
        wpAny (model X.prog X.w) X.A (do bindName X.env n .none; unbindBehindTheSuite X.env n hpos) (fun _ s7 => SP X pins Z f s7) X.xe s6 := fun {σ7 H7} J7 k => by
      have J8 := Inv.unsuite I.ok hh J7
      obtain ⟨m, hns, hl⟩ := id J8.loc
      exact wpAny_nameGoes_keeps hlo hns hp fun h' v hn' hsb => k _ (J8.unbound hN hi ⟨hns, hl⟩ hn' hsb)
    cases f with
    | next => obtain ⟨σ7, H7, J7, q7⟩ := q6; exact go J7 fun s7 I7 => ⟨_, _, I7, q7⟩
    | brk => obtain ⟨σ7, H7, J7, q7⟩ := q6; exact go J7 fun s7 I7 => ⟨_, _, I7, q7⟩
    | cont => obtain ⟨σ7, H7, J7, q7⟩ := q6; exact go J7 fun s7 I7 => ⟨_, _, I7, q7⟩
    | ret u => obtain ⟨v, σ7, H7, J7, r7, q7⟩ := q6; exact go J7 fun s7 I7 => ⟨v, _, _, I7, r7, q7⟩
end L2
set_option Elab.async false
set_option linter.all false
set_option maxRecDepth 100000
set_option maxHeartbeats 4000000
namespace L2
open PySem PySem.Spec PyProof.Rows PySem.W
section
variable {prog : Program} {w : World} {A : Around} {E : Value → Shared → Prop} {K : Frag} {h : Heap} {g : Array GenState} {d : Drawn} {t : Nat} {os : OsState} {e C : Addr} {oe : Obj}
theorem exc_getattribute {tk : Tok} {Q : Fin → Shared → Prop} (X : K.In h) (I : InstAt h e oe C none) (f3 : findIn K (.ref C) "__class__" = some (some (.builtin "object.__class__"))) (hm : mroIn K C (.type "object") = some true)
    (hq : Q (.done (.ret (.ref C))) ⟨h, g, d, t, os⟩) : wpAny (model prog w) A (Builtin.«object.__getattribute__» ⟨[.ref e, .str "__class__" tk], []⟩) Q E ⟨h, g, d, t, os⟩ := by
  have L0 := I.type (M := model prog w)
  have L3 := looks_findIn (M := model prog w) X f3
  have f5 := F.typeOf_object_class
  have f6 := F.slot_gs_get.lookup
  have f7 := F.slot_gs_set.lookup
  repeat (any_goals (first | assumption | with_reducible refine L0.at ?_ | with_reducible refine L3.at ?_ | wp_step))
  exact class_get (s := ⟨h, g, d, t, os⟩) X I hm (wpAny_pure hq)
theorem exc_check {nameV : Value} {Q : Unit → Shared → Prop} (X : K.In h) (I : InstAt h e oe C none) (hb : mroIn K C (.type "BaseException") = some true) (hq : Q () ⟨h, g, d, t, os⟩) :
    wpAny (model prog w) A (checkBuiltinCall "BaseException.__getattribute__" ⟨[.ref e, nameV], []⟩) Q E ⟨h, g, d, t, os⟩ := by
  have L0 := I.type (M := model prog w)
  have L4 := looks_mroIn (M := model prog w) X hb
  have c1 : builtinKind "BaseException.__getattribute__" = some .slot := by decide +kernel
  have c2 : splitId "BaseException.__getattribute__" = some ("BaseException", "__getattribute__") := by decide +kernel
  have c3 := F.args_bexc_ga (.ref e) nameV
  simp only [checkBuiltinCall, c1, c2]
  refine wpAny_bind ?_
  unfold isInstance
  repeat (first | with_reducible refine L0.at ?_ | with_reducible refine L4.at ?_ | wp_step)
  exact hq
theorem exc_class {Q : Option Value → Shared → Prop} (X : K.In h) (I : InstAt h e oe C none) (f1 : findIn K (.ref C) "__getattribute__" = some (some (.builtin "BaseException.__getattribute__"))) (f2 : findIn K (.ref C) "__getattr__" = some none)
    (f3 : findIn K (.ref C) "__class__" = some (some (.builtin "object.__class__"))) (hm : mroIn K C (.type "object") = some true) (hb : mroIn K C (.type "BaseException") = some true) (hq : Q (some (.ref C)) ⟨h, g, d, t + 1, os⟩) :
    wpAny (model prog w) A (getAttr? (.ref e) "__class__") Q E ⟨h, g, d, t, os⟩ := by
  have L0 := I.type (M := model prog w)
  have L1 := looks_findIn (M := model prog w) X f1
  have L2 := looks_findIn (M := model prog w) X f2
  have f4 := PySem.F.attr_ValueError.ga.bind (.ref e)
  have x2 : (Value.builtin "BaseException.__getattribute__" == Value.builtin "object.__getattribute__") = false := by decide +kernel
  have x1 : (onTheHeap (Value.ref C) && Value.builtin "BaseException.__getattribute__" == Value.builtin "object.__getattribute__") = false := by rw [x2]; rfl
  have x0 : (false && onTheHeap (Value.builtin "BaseException.__getattribute__")) = false := rfl
  unfold getAttr? getAttrBy?
  refine wpAny_bind (wpAny_mkText (wpAny_bind (wpAny_attempt ?_)))
  repeat (any_goals (first | assumption | with_reducible refine L0.at ?_ | with_reducible refine L1.at ?_ | with_reducible refine L2.at ?_ | wp_step))
  refine codeAny_call_builtin PySem.F.attr_ValueError.ga.plain F.entry_bexc_ga (exc_check X I hb (exc_getattribute X I f3 hm ?_))
  repeat (any_goals (first | assumption | wp_step))
/-- what isinstance asks of an exception's class -/
structure ErrC (K : Frag) (C : Addr) : Prop where
  err : ErrK K C
  ga : findIn K (.ref C) "__getattribute__" = some (some (.builtin "BaseException.__getattribute__"))
  gr : findIn K (.ref C) "__getattr__" = some none
  cl : findIn K (.ref C) "__class__" = some (some (.builtin "object.__class__"))
  ob : mroIn K C (.type "object") = some true
  ba : mroIn K C (.type "BaseException") = some true
theorem kitx_exc (O : ErrC K C) : KitX K (.ref e) (.ref C) (fun h => InstAt h e oe C none) where
  ty := fun _ _ _ I => I.type
  it := fun M h X I => by
    obtain ⟨cd, _, ⟨bm, N, nm, q, bs, hdct, sn, sub, ab, col, dd, k0, k1, k2, k3, k5, mN, _, hC, _⟩⟩ := O.err.obj X
    intro A' Q' E' s' k q'
    unfold isType loadHead
    exact wpAny_bind (wpAny_loadPart (k _ _ hC) (wpAny_pure q'))
  ne := fun h tp dd its n sl X htp => by
    obtain ⟨cd, _, ⟨bm, N, nm, q, bs, hdct, sn, sub, ab, col, d1, k0, k1, k2, k3, k5, mN, _, hC, _⟩⟩ := O.err.obj X
    refine Bool.eq_false_iff.mpr fun z => ?_
    have ec : C = tp := Value.ref.inj (beq_iff_eq.mp z)
    subst ec
    have wd := congrArg Obj.data (Option.some.inj (hC.symm.trans htp))
    cases wd
  ca := fun {prog w A E Q s} X I k => by
    obtain ⟨h, g, d, t, os⟩ := s
    exact exc_class X I O.ga O.gr O.cl O.ob O.ba k
end
/-! ### isinstance -/
/-- a class as a value -/
def clsV : V → Option Value
  | .ref a => some (.ref a)
  | .ty n => some (.type n)
  | _ => none
inductive TyX (K : Frag) (H : Hp) : V → Value → Prop where
  | of {x : V} {t : Value} (h : TyOf K H x t) : TyX K H x t
  | exc {a C : Addr} {o : Obj} (e : H a = some (.frz o (.own 0))) (ho : ExcO C o) (O : ErrC K C) : TyX K H (.ref a) (.ref C)
def rIsi (K : Frag) : List V → Hp → VK → Prop := fun xs H Q => ∃ x c t u b, xs = [x, c] ∧ clsV c = some u ∧ TyX K H x t ∧ kitOne K t u = some b ∧ Q (.bl b) H
theorem call_isi {X : Cx} : CallR X (.builtin "isinstance") (rIsi X.K) := by
  intro pins s σ H xs us Q I r h
  obtain ⟨x, c, t, u, b, rfl, hc, ty, hk, q⟩ := h
  cases r with
  | cons r1 rr =>
    cases rr with
    | cons r2 rr =>
      cases rr
      rename_i v1 v2
      have e2 : v2 = u := by
        cases c with
        | ref a => cases hc; exact r2
        | ty n => cases hc; exact r2
        | _ => cases hc
      subst e2
      cases ty with
      | of ty => exact isinst_ok I r1 ty hk fun tk => ⟨.bl b, H, I.tok tk, rfl, q⟩
      | exc e ho O =>
        rename_i a C o
        obtain rfl : v1 = Value.ref a := r1
        obtain ⟨z, _⟩ := I.hok a _ e
        obtain ⟨c1, c2, vs, c3⟩ := ho
        have J : InstAt s.heap a o C none := ⟨z, c1, by unfold notCls; rw [c3], by rw [c2]; trivial⟩
        exact kia_one (kitx_exc O) I.kIn J hk (fun w => nomatch w) fun tk => ⟨.bl b, H, I.tok tk, rfl, q⟩
end L2
set_option Elab.async false
set_option linter.all false
set_option maxRecDepth 100000
set_option maxHeartbeats 4000000
namespace L2
open PySem PySem.Spec PyProof.Rows

/-! ### the end of a walk, while an exception is handled too -/
def Hnd (A : Around) (h : Heap) : Prop := A.handled = none ∨ ∃ (a : Addr) (o : Obj) (vs : Array Value), A.handled = some (.ref a) ∧ h.get? a = some o ∧ o.data = .fields vs ∧ vs[2]? = some .none ∧ ∃ C, o.cls = .ref C
theorem Inv.hnd {X : Cx} {pins : List (Addr × Obj)} {σ : St} {H : Hp} {s : Shared} (I : Inv X pins σ H s) : Hnd X.A s.heap := by
  rcases I.hdk with h | ⟨a, o, vs, h1, h2, h3⟩
  · exact .inl h
  · exact .inr ⟨a, o, vs, h1, (I.hok a _ h2).1, h3⟩
theorem Hnd.keeps {A : Around} {h h' : Heap} (x : Hnd A h) (k : ∀ b o, (∃ C, o.cls = .ref C) → h.get? b = some o → h'.get? b = some o) : Hnd A h' := by
  rcases x with x | ⟨a, o, vs, h1, h2, h3, h4, h5⟩
  · exact .inl x
  · exact .inr ⟨a, o, vs, h1, k a o h5 h2, h3, h4, h5⟩
theorem entry_unchain : entryFor table "proto.unchain" = some Builtin.«proto.unchain» := entryFor_of_tree (by kernel_rfl)
section
variable {prog : Program} {w : World} {A : Around} {E : Value → Shared → Prop} {s : Shared}
theorem raise_fresh {α : Type} {e : Addr} {oe : Obj} {ws : Array Value} {Q : α → Shared → Prop} (hh : Hnd A s.heap) (he : s.heap.get? e = some oe) (hd : oe.data = .fields ws) (hz : 2 < ws.size) (hc : ∀ C, oe.cls ≠ .ref C)
    (k : ∀ h', Heap.SameBut e s.heap h' → (∃ o, h'.get? e = some o ∧ o.cls = oe.cls) → E (.ref e) { s with heap := h' }) : wpAny (model prog w) A (raiseNew (.ref e) : Sem α) Q E s := by
  unfold raiseNew
  refine wpAny_bind (wpAny_handled ?_)
  rcases hh with hh | ⟨a, o, vs, h1, h2, h3, h4, C, h5⟩
  · rw [hh]
    exact wpAny_bind (wpAny_pure (wpAny_throw (k s.heap (Heap.SameBut.refl _ _) ⟨oe, he, rfl⟩)))
  · rw [h1]
    have ne : a ≠ e := fun z => by rw [z, he] at h2; cases h2; exact hc C h5
    dsimp only
    rw [if_pos (show (Value.ref a != Value.ref e) = true by simpa using ne)]
    refine wpAny_bind (wpAny_holding (wpAny_runValue (codeAny_builtin entry_unchain ?_)))
    refine wpAny_bind (m := field (.ref a) 2) (wpAny_field h2 h3 h4 ?_)
    rw [if_pos (show (Value.none == Value.none) = true by rfl)]
    refine wpAny_pure (wpAny_bind ?_)
    show wpAny _ _ (setField (.ref e) 2 (.ref a)) _ _ _
    have dd := Obj.data_mapFields hd (·.setIfInBounds 2 (Value.ref a))
    exact wpAny_setField he hd hz (wpAny_throw (k _ (Heap.SameBut.update ..) ⟨_, Heap.get?_update_self _ he (Obj.isFreed_of_fields dd), Obj.cls_mapFields _ _⟩))
theorem stop_raised {α : Type} {Q : α → Shared → Prop} (hh : Hnd A s.heap) (k : ∀ h' e, (∀ b o, s.heap.get? b = some o → h'.get? b = some o) → (∃ o, h'.get? e = some o ∧ o.cls = .type "StopIteration") → E (.ref e) { s with heap := h' }) :
    wpAny (model prog w) A (newExc (.type "StopIteration") [] >>= fun e => (raiseNew e : Sem α)) Q E s := by
  refine wpAny_bind ?_
  simp only [newExc, newTuple]
  refine wpAny_bind (wpAny_newObj_type (wpAny_bind (m := firstArgMember _ _) (wpAny_of_eq (a := Value.none) (by first | rfl | (simp only [firstArgMember]; rfl)) (wpAny_newObj_type ?_ (by size_fits)))) (by size_fits))
  have old : ∀ (o1 o2 : Obj) b o, s.heap.get? b = some o → ((s.heap.push o1).push o2).get? b = some o := fun o1 o2 b o q => Heap.get?_push_of_some _ (Heap.get?_push_of_some _ q)
  refine raise_fresh (hh.keeps fun b o _ q => old _ _ b o q) (Heap.get?_push_size _ rfl) rfl (by simp; omega) (fun C z => by cases z) fun h' sb ⟨o, g, c⟩ => k h' _ (fun b o q => ?_) ⟨o, g, c⟩
  refine (sb.2 b (fun z => ?_)).trans (old _ _ b o q)
  have := Heap.lt_size q
  rw [z, Heap.size_push] at this
  exact absurd (Nat.lt_of_succ_lt this) (Nat.lt_irrefl _)
theorem list_last {it l : Addr} {i : Nat} {items : Array Value} {Q : Value → Shared → Prop} (hh : Hnd A s.heap) (hit : s.heap.IsListIter it l i) (hl : s.heap.IsList l items) (hx : items[i]? = none)
    (k : ∀ h' e, Heap.ExtBut it s.heap h' → (∃ o, h'.get? e = some o ∧ o.cls = .type "StopIteration") → E (.ref e) { s with heap := h' }) : wpAny (model prog w) A (Builtin.SmallTypes.nextOf (.ref it)) Q E s := by
  obtain ⟨o, ho, hc, hd⟩ := id hit
  obtain ⟨ol, hol, _, nl, hdl⟩ := hl
  unfold Builtin.SmallTypes.nextOf
  refine wpAny_bind (wpAny_callSpecial?_slot (name := Str.ofString "__next__") hit.typeIs slot_listiter_next (wpAny_call_entry slot_listiter_next hit.typeIs entry_listiter_next ?_ (args_listiter_next _)))
  refine wpAny_bind (m := field (.ref it) 0) (wpAny_field ho hd (x := .ref l) rfl ?_)
  rw [if_neg (show ¬ ((Value.ref l == Value.none) = true) by simp)]
  refine wpAny_bind (m := field (.ref it) 1) (wpAny_field ho hd (x := .int i 0) rfl (wpAny_bind (m := seqItems? (.ref l)) (wpAny_seqItems hol hdl ?_)))
  simp only [Int.toNat_natCast, hx]
  refine wpAny_bind (wpAny_rule (wpAny_bind (wpAny_setField ho hd (by simp) ?_)))
  refine stop_raised (hh.keeps fun b q hq e => (Heap.get?_update_other _ _ fun z => ?_).trans e) fun h' e up st => k h' e (fun b q hb z => up b q ((Heap.get?_update_other _ _ (Ne.symm hb)).trans z)) st
  obtain ⟨C, hC⟩ := hq
  rw [← z, ho] at e
  cases e
  rw [hc] at hC
  cases hC
theorem tup_last {it t : Addr} {i : Nat} {items : Array Value} {Q : Option Value → Shared → Prop} (hh : Hnd A s.heap) (hit : s.heap.IsTupleIter it t i) (ht : s.heap.IsTuple t items) (hx : items[i]? = none)
    (k : ∀ h', Heap.ExtBut it s.heap h' → Q none { s with heap := h' }) : wpAny (model prog w) A (pyNext (.ref it)) Q E s := by
  obtain ⟨o, ho, hc, hd⟩ := id hit
  obtain ⟨ol, hol, _, nl, hdl⟩ := ht
  unfold pyNext
  refine wpAny_bind (wpAny_attempt (wpAny_callSpecial?_slot (name := Str.ofString "__next__") hit.typeIs F.slot_tuple_iterator_next (wpAny_call_entry F.slot_tuple_iterator_next hit.typeIs F.entry_tuple_iterator_next ?_ (F.args_tuple_iterator_next_1 _))))
  refine wpAny_bind (m := field (.ref it) 0) (wpAny_field ho hd (x := .ref t) rfl ?_)
  rw [if_neg (show ¬ ((Value.ref t == Value.none) = true) by simp)]
  refine wpAny_bind (m := field (.ref it) 1) (wpAny_field ho hd (x := .int i 0) rfl (wpAny_bind (m := seqItems? (.ref t)) (wpAny_seqItems hol hdl ?_)))
  simp only [Int.toNat_natCast, hx]
  refine wpAny_bind (wpAny_rule (wpAny_bind (wpAny_setField ho hd (by simp) ?_)))
  refine stop_raised (hh.keeps fun b q hq e => (Heap.get?_update_other _ _ fun z => ?_).trans e) fun h' e up ⟨o', g', c'⟩ =>
    wpAny_bind (wpAny_isInstance (T := "StopIteration") (b := true) ⟨o', g', c'⟩ isSubtype_stop (wpAny_pure (k h' fun b q hb z => up b q ((Heap.get?_update_other _ _ (Ne.symm hb)).trans z))))
  obtain ⟨C, hC⟩ := hq
  rw [← z, ho] at e
  cases e
  rw [hc] at hC
  cases hC
/-- a, b = t -/
theorem unpack_tup {env : Env} {elts : List Expr} {x1} {pos : Pos} {t : Addr} {items : Array Value} {Q : Unit → Shared → Prop} (hh : Hnd A s.heap) (ht : IsTup s.heap t items) (hn : (assignEach elts env).length = items.size) (hstar : (assignEach elts env).findIdx? (·.1) = none)
    (h : ∀ h', Heap.ExtBut s.heap.objs.size s.heap h' → wpAny (model prog w) A (assignInOrder ((assignEach elts env).map (·.2)) items.toList) Q E { s with heap := h' }) : wpAny (model prog w) A (assign (.Tuple elts x1 pos) env (.ref t)) Q E s := by
  have lt : t ≠ s.heap.objs.size := by obtain ⟨o, ho, _⟩ := ht; exact Nat.ne_of_lt (Heap.lt_size ho)
  have all : List.take items.size (List.drop 0 items.toList) = items.toList := by rw [List.drop_zero]; exact List.take_of_length_le (by simp)
  have core : wpAny (model prog w) A (unpackItems (.ref t) items.size none) (fun vs s' => ∃ h', vs = items.toList ∧ s' = { s with heap := h' } ∧ Heap.ExtBut s.heap.objs.size s.heap h') E s := by
    unfold unpackItems
    refine wpAny_bind ?_
    unfold notIterableAtAll
    refine wpAny_bind (wpAny_specialOf ht.typeIs slot_tuple_iter.lookup (wpAny_pure ?_))
    simp only [Bool.false_eq_true, if_false]
    refine wpAny_bind (wpAny_holding (iter_tuple ht (wpAny_bind (wpAny_holding (draw_tuple lt items.size 0 _ _ ⟨_, Heap.get?_push_size _ rfl, rfl, rfl⟩ (ht.push _) (by omega) fun h1 it1 s1 => ?_)))))
    rw [all, if_neg (by simp)]
    have t1 : IsTup h1 t items := (ht.push _).extBut s1.extBut lt
    have up1 : ∀ b o, b ≠ s.heap.objs.size → s.heap.get? b = some o → h1.get? b = some o := fun b o hb e => s1.extBut b o hb (Heap.get?_push_of_some _ e)
    refine wpAny_bind (wpAny_holding (tup_last (s := { s with heap := h1 }) (hh.keeps fun b o _ e => up1 b o (Nat.ne_of_lt (Heap.lt_size e)) e) it1 t1 (by simp) fun h2 e2 => ?_))
    simp only [Option.isSome_none, Bool.false_eq_true, if_false]
    exact wpAny_pure ⟨h2, rfl, rfl, fun b o hb e => e2 b o hb (up1 b o hb e)⟩
  rw [assign_Tuple]
  refine wpAny_bind (wpAny_standAt ?_)
  unfold unpack
  rw [hstar, hn]
  refine wpAny_bind (wpAny_holding (wpAny_mono core (fun vs s' ⟨h', e1, e2, x⟩ => ?_) fun _ _ z => z))
  subst e1 e2
  exact h h' x
end
end L2
set_option Elab.async false
set_option linter.all false
set_option maxRecDepth 100000
set_option maxHeartbeats 4000000
namespace L2
open PySem PySem.Spec PyProof.Rows

/-! ### a, b = t, in any context -/
theorem pg_tupA {X : Cx} {pos : Pos} {es : List Expr} {k : Nat} {t : TGs} {n : Nat} (h : PGs X es t) (hl : (assignEach es X.env).length = n := by rfl) (hst : (assignEach es X.env).findIdx? (·.1) = none := by rfl) : PG X (.Tuple es k pos) (gTup X.K n t) := by
  intro pins s σ H v u Q I r q
  obtain ⟨a, xs, rfl, hx, hn, q⟩ := q
  obtain rfl : u = Value.ref a := r
  obtain ⟨its, rv, ht, hz⟩ := I.tuple hx
  refine unpack_tup I.hnd ht (by rw [hl, ← hn, rv.length]; simp) hst fun h' ex => ?_
  have I1 : Inv X pins σ H { s with heap := h' } := I.kept (t' := s.toks) fun b o e => ex b o (Nat.ne_of_lt (Heap.lt_size e)) e
  have := h pins { s with heap := h' } σ H xs its Q I1 rv q
  simpa using this

/-! ### zip of two lists of which the first is not the longer one -/
section
variable {prog : Program} {w : World} {A : Around} {E : Value → Shared → Prop} {s : Shared}
theorem zip_last {z TI TO i1 i2 l1 l2 : Addr} {k1 : Nat} {xs : Array Value} {a b : Value} {Q : Option Value → Shared → Prop} (hh : Hnd A s.heap) (D : ZipApart z TI TO i1 i2 l1 l2) (hz : IsZip s.heap z TI TO .none) (hTI : IsPair s.heap TI (.ref i1) (.ref i2)) (hTO : IsPair s.heap TO a b)
    (h1 : s.heap.IsListIter i1 l1 k1) (hl1 : s.heap.IsList l1 xs) (hx : xs[k1]? = none)
    (k : ∀ h', (∀ c o, c ≠ z → c ≠ i1 → s.heap.get? c = some o → h'.get? c = some o) → Q none { s with heap := h' }) : wpAny (model prog w) A (pyNext (.ref z)) Q E s := by
  have hT : s.TypeIs (.ref z) "zip" := ⟨_, hz, rfl⟩
  have core : ∀ (Q' : Fin → Shared → Prop) (E' : Value → Shared → Prop), (∀ h' e, (∀ c o, c ≠ z → c ≠ i1 → s.heap.get? c = some o → h'.get? c = some o) → (∃ o, h'.get? e = some o ∧ o.cls = .type "StopIteration") → E' (.ref e) { s with heap := h' }) →
      wpAny (model prog w) A.in1 (Builtin.«zip.__next__» ⟨[.ref z], []⟩) Q' E' s := by
    intro Q' E' kE
    refine wpAny_bind (m := field (.ref z) 2) (wpAny_field hz rfl (x := .bool false) rfl (wpAny_bind (m := field (.ref z) 3) (wpAny_field hz rfl (x := .ref TI) rfl (wpAny_bind (wpAny_seqItems hTI rfl (wpAny_bind (m := Builtin.SmallTypes.ownedTupleIsFree (.ref z)) ?_))))))
    unfold Builtin.SmallTypes.ownedTupleIsFree
    refine wpAny_bind (wpAny_field hz rfl (x := .none) rfl (wpAny_pure ?_))
    simp only [if_true]
    refine wpAny_bind (wpAny_rule (wpAny_bind (wpAny_field hz rfl (x := .ref TO) rfl (wpAny_bind (wpAny_setField_rec hz (by simp) fun g1 z1 s1 => ?_)))))
    refine wpAny_bind ?_
    simp only [List.zipIdx_cons, List.zipIdx_nil, List.forIn_cons, List.forIn_nil]
    refine wpAny_bind (wpAny_bind (wpAny_onRaise (wpAny_bind (m := Builtin.SmallTypes.nextOf (.ref i1)) ?_)))
    have hh1 : Hnd A.in1 g1 := Hnd.keeps (h := s.heap) hh fun c o ⟨C, hC⟩ e => s1.extBut c o (fun q => by rw [q, hz] at e; cases e; cases hC) e
    refine list_last (s := { s with heap := g1 }) hh1 (h1.extBut s1.extBut D.i1z) (hl1.extBut s1.extBut D.l1z) hx fun g2 e s2 st => ?_
    obtain ⟨oe, ge, ce⟩ := st
    have z2 : IsZip g2 z TI TO .ellipsis := s2 _ _ D.i1z.symm z1
    have ez : e ≠ z := fun q => by rw [q, z2] at ge; cases ge; simp at ce
    exact wpAny_setField_rec z2 (by simp) fun g3 _ s3 => kE g3 e (fun c o c1 c2 q => s3.extBut _ _ c1 (s2 _ _ c2 (s1.extBut _ _ c1 q))) ⟨oe, s3.extBut _ _ ez ge, ce⟩
  unfold pyNext
  refine wpAny_bind (wpAny_attempt (wpAny_callSpecial?_slot (name := Str.ofString "__next__") hT F.slot_zip_next (wpAny_call_entry F.slot_zip_next hT F.entry_zip_next (core _ _ fun h' e up st => ?_) (F.args_zip_next_1 _))))
  obtain ⟨o, g, c⟩ := st
  exact wpAny_bind (wpAny_isInstance (T := "StopIteration") (b := true) ⟨o, g, c⟩ isSubtype_stop (wpAny_pure (k h' up)))
end

/-- the pairs of the lists at a, b -/
def Itz (K : PySem.W.Frag) (a b : Addr) : It :=
  ⟨fun i H => ∃ xs ys x y, SqL K H a xs ∧ SqL K H b ys ∧ xs[i]? = some x ∧ ys[i]? = some y, fun i H v H' => ∃ T x y, H T = none ∧ v = .ref T ∧ H' = upd H T (.tup [x, y]) ∧ (∀ xs, SqL K H a xs → xs[i]? = some x) ∧ ∀ ys, SqL K H b ys → ys[i]? = some y,
    fun i H => ∃ xs ys, SqL K H a xs ∧ SqL K H b ys ∧ xs.length ≤ i⟩
structure ZipSt (z TI TO i1 i2 l1 l2 : Addr) (i : Nat) (h : Heap) : Prop where
  z : IsZip h z TI TO .none
  ti : IsPair h TI (.ref i1) (.ref i2)
  to : ∃ a b, IsPair h TO a b
  a : h.IsListIter i1 l1 i
  b : h.IsListIter i2 l2 i
theorem ZipSt.keep {z TI TO i1 i2 l1 l2 : Addr} {i : Nat} {h h' : Heap} (x : ZipSt z TI TO i1 i2 l1 l2 i h) (k : ∀ b ∈ [z, TI, TO, i1, i2], ∀ o, h.get? b = some o → h'.get? b = some o) : ZipSt z TI TO i1 i2 l1 l2 i h' := by
  obtain ⟨a1, a2, ⟨u, v, a3⟩, a4, a5⟩ := x
  exact ⟨k _ (by simp) _ a1, k _ (by simp) _ a2, ⟨u, v, k _ (by simp) _ a3⟩, a4.at fun o e => k _ (by simp) o e, a5.at fun o e => k _ (by simp) o e⟩
theorem turn_zip {P : Program} {w : World} {K : PySem.W.Frag} {elts : List Expr} {kk : Nat} {tp : Pos} {l1 l2 z TI TO i1 i2 : Addr} (D : ZipApart z TI TO i1 i2 l1 l2) :
    Turn false P w K (.Tuple elts kk tp) (Itz K l1 l2) [z, TI, TO, i1, i2] z (ZipSt z TI TO i1 i2 l1 l2) where
  mem := by simp
  obj := fun i h st b hb => by
    obtain ⟨a1, a2, ⟨u, v, a3⟩, ⟨o4, a4, _, d4⟩, ⟨o5, a5, _, d5⟩⟩ := st
    simp only [List.mem_cons, List.not_mem_nil, or_false] at hb
    rcases hb with rfl | rfl | rfl | rfl | rfl
    · exact ⟨_, a1, fun v q => nomatch q⟩
    · exact ⟨_, a2, fun v q => nomatch q⟩
    · exact ⟨_, a3, fun v q => nomatch q⟩
    · exact ⟨_, a4, fun v q => by rw [d4] at q; cases q⟩
    · exact ⟨_, a5, fun v q => by rw [d5] at q; cases q⟩
  keep := fun i h h' st k => st.keep k
  item := by
    intro X hP hw hK hc i pins s σ H E I hf st hg
    subst hP hw hK
    obtain ⟨xs, ys, x, y, hq1, hq2, hx, hy⟩ := hg
    obtain ⟨is1, rv1, p1, hz1⟩ := I.list hq1
    obtain ⟨is2, rv2, p2, hz2⟩ := I.list hq2
    obtain ⟨u1, hu1, ru1⟩ := rv1.get hx
    obtain ⟨u2, hu2, ru2⟩ := rv2.get hy
    obtain ⟨a1, a2, ⟨u, v, a3⟩, a4, a5⟩ := st
    refine wpAny_pyNext_zip_item D a1 a2 a3 a4 a5 p1.isList p2.isList (x := u1) (y := u2) (by simpa using hu1) (by simpa using hu2) fun h' b1 b2 b3 b4 b5 b6 b7 => ?_
    refine ⟨_, rfl, wpAny_letOwnedTupleGo_zip (s := { s with heap := h' }) b1 fun h2 c1 c2 => ?_⟩
    have zlt : z < s.heap.objs.size := Heap.lt_size a1
    have nz : s.heap.objs.size ≠ z := Nat.ne_of_gt zlt
    have all : ∀ c o, c ≠ z → c ≠ TO → c ≠ i1 → c ≠ i2 → s.heap.get? c = some o → h2.get? c = some o := fun c o n1 n2 n3 n4 e => c2.extBut c o n1 (b7 c o n1 n2 n3 n4 e)
    have tT : h2.get? s.heap.objs.size = some { cls := .type "tuple", data := .seq #[u1, u2] } := c2.extBut _ _ nz b5
    have hfr : H s.heap.objs.size = none := I.hok.fresh (Nat.le_refl _)
    have hok0 : HOk X.prog X.w H h2 := fun b u e => by
      refine (I.hok b u e).stay (fun c v hc q => ?_) (fun _ q => q) fun _ _ q => q
      have hne : ∀ d ∈ [z, TI, TO, i1, i2], c ≠ d := fun d hd w => by
        have fd := (hf d hd).1
        rcases hc with k | k
        · rw [k] at w; rw [w, fd] at e; cases e
        · rw [w, fd] at k; cases k
      exact all c v (hne z (by simp)) (hne TO (by simp)) (hne i1 (by simp)) (hne i2 (by simp)) q
    have lt0 : ∀ b o, s.heap.get? b = some o → b ≠ s.heap.objs.size := fun b o e => Nat.ne_of_lt (Heap.lt_size e)
    have I2 : Inv X pins σ (upd H s.heap.objs.size (.tup [x, y])) { s with heap := h2 } := by
      refine I.step (g' := s.gens) (d' := s.drawn) (t' := s.toks) (ch := [z, TO, i1, i2]) (fun b hb => ?_) (fun b o _ _ hb e _ => ?_) (fun b o _ _ hb e _ => ?_) (fun b o _ e n => ?_) (fun b o hb e => ?_) (fun b ps e => ?_) (fun b o u e => ?_) (fun b ps e => ?_) (fun m hm => ?_) (hok0.add hfr ?_) I.bare
      · have hb' : b ∈ [z, TI, TO, i1, i2] := by simp only [List.mem_cons, List.not_mem_nil, or_false] at hb ⊢; rcases hb with h | h | h | h <;> simp [h]
        obtain ⟨f0, f1, f2, f3, f4, f5⟩ := hf b hb'
        exact ⟨f3, f1, f4, f5⟩
      · simp only [List.mem_cons, List.not_mem_nil, or_false, not_or] at hb
        exact all b o hb.1 hb.2.1 hb.2.2.1 hb.2.2.2 e
      · simp only [List.mem_cons, List.not_mem_nil, or_false, not_or] at hb
        exact ⟨o.slots, all b o hb.1 hb.2.1 hb.2.2.1 hb.2.2.2 e⟩
      · rw [upd_ne (lt0 b o e)]; exact n
      · simp only [List.mem_cons, List.not_mem_nil, or_false, not_or] at hb
        exact ⟨o, all b o hb.1 hb.2.1 hb.2.2.1 hb.2.2.2 e⟩
      · rw [upd_ne (ne_of_none e hfr)]; exact e
      · rw [upd_ne (ne_of_none e hfr)]; exact e
      · exact ⟨#[], by rw [upd_ne (ne_of_none e hfr), e]; simp⟩
      · obtain ⟨o, es, ep, ho, r⟩ := hm
        exact ⟨o, es, ep, all _ o (Ne.symm (hf z (by simp)).2.1) (Ne.symm (hf TO (by simp)).2.1) (Ne.symm (hf i1 (by simp)).2.1) (Ne.symm (hf i2 (by simp)).2.1) ho, r⟩
      · exact ⟨by show 2 ≤ sizeLine; decide, [u1, u2], .cons ru1 (.cons ru2 .nil), ⟨_, tT, rfl, _, rfl⟩⟩
    refine ⟨.ref s.heap.objs.size, _, I2, rfl, ⟨_, x, y, hfr, rfl, rfl, fun zs hz => by rw [I.list_inj hz hq1]; exact hx, fun zs hz => by rw [I.list_inj hz hq2]; exact hy⟩, ?_, fun b hb => ?_⟩
    · exact ⟨c1, c2.extBut _ _ D.TIz (b7 _ _ D.TIz D.TITO D.TIi1 D.TIi2 a2), ⟨u1, u2, c2.extBut _ _ D.TOz b2⟩, b3.extBut c2.extBut D.i1z, b4.extBut c2.extBut D.i2z⟩
    · have ne : b ≠ s.heap.objs.size := fun q => by
        have : b < s.heap.objs.size := by
          simp only [List.mem_cons, List.not_mem_nil, or_false] at hb
          obtain ⟨o4, a4, _⟩ := a4
          obtain ⟨o5, a5, _⟩ := a5
          rcases hb with rfl | rfl | rfl | rfl | rfl
          · exact zlt
          · exact Heap.lt_size a2
          · exact Heap.lt_size a3
          · exact Heap.lt_size a4
          · exact Heap.lt_size a5
        exact absurd (q ▸ this) (Nat.lt_irrefl _)
      rw [upd_ne ne]
      exact (hf b hb).1
  done := by
    intro X hP hw hK hc i pins s σ H E I hf st hg
    subst hP hw hK
    obtain ⟨xs, ys, hq1, hq2, hx⟩ := hg
    obtain ⟨is1, rv1, p1, hz1⟩ := I.list hq1
    have hl := rv1.length
    obtain ⟨a1, a2, ⟨u, v, a3⟩, a4, a5⟩ := st
    refine zip_last I.hnd D a1 a2 a3 a4 p1.isList (by simp; omega) fun h' up => ⟨rfl, ?_⟩
    refine I.step (g' := s.gens) (d' := s.drawn) (t' := s.toks) (ch := [z, i1]) (fun b hb => ?_) (fun b o _ _ hb e _ => ?_) (fun b o _ _ hb e _ => ?_) (fun _ _ _ _ n => n) (fun b o hb e => ?_) (fun _ _ e => e) (fun _ _ _ e => e) (fun b ps e => ⟨#[], by rw [e]; simp⟩) (fun m hm => ?_) (fun b u e => ?_) I.bare
    · have hb' : b ∈ [z, TI, TO, i1, i2] := by simp only [List.mem_cons, List.not_mem_nil, or_false] at hb ⊢; rcases hb with h | h <;> simp [h]
      obtain ⟨f0, f1, f2, f3, f4, f5⟩ := hf b hb'
      exact ⟨f3, f1, f4, f5⟩
    · simp only [List.mem_cons, List.not_mem_nil, or_false, not_or] at hb
      exact up b o hb.1 hb.2 e
    · simp only [List.mem_cons, List.not_mem_nil, or_false, not_or] at hb
      exact ⟨o.slots, up b o hb.1 hb.2 e⟩
    · simp only [List.mem_cons, List.not_mem_nil, or_false, not_or] at hb
      exact ⟨o, up b o hb.1 hb.2 e⟩
    · obtain ⟨o, es, ep, ho, r⟩ := hm
      exact ⟨o, es, ep, up _ o (Ne.symm (hf z (by simp)).2.1) (Ne.symm (hf i1 (by simp)).2.1) ho, r⟩
    · refine (I.hok b u e).stay (fun c v hc q => ?_) (fun _ q => q) fun _ _ q => q
      have hne : ∀ d ∈ [z, TI, TO, i1, i2], c ≠ d := fun d hd w => by
        have fd := (hf d hd).1
        rcases hc with k | k
        · rw [k] at w; rw [w, fd] at e; cases e
        · rw [w, fd] at k; cases k
      exact up c v (hne z (by simp)) (hne i1 (by simp)) q
  self := fun _ _ _ _ _ st h => wpAny_pyIter_zip st.z h
end L2
set_option Elab.async false
set_option linter.all false
set_option maxRecDepth 100000
set_option maxHeartbeats 4000000
namespace L2
open PySem PySem.Spec PyProof.Rows

/-! ### == and != of two lists of flat things -/
def eqL (xs ys : List V) : Bool := xs.length == ys.length && (List.range xs.length).all fun i => eqV (xs.getD i .non) (ys.getD i .non)
theorem eqL_self : ∀ {xs : List V}, xs.all flatV = true → (∀ x ∈ xs, ∀ b, x ≠ .byt b) → eqL xs xs = true := by
  intro xs h _
  unfold eqL
  rw [beq_self_eq_true, Bool.true_and, List.all_eq_true]
  intro i hi
  have hlt := List.mem_range.mp hi
  have hm : xs[i] ∈ xs := List.getElem_mem hlt
  have := List.all_eq_true.mp h _ hm
  rw [List.getD_eq_getElem?_getD, List.getElem?_eq_getElem hlt, Option.getD_some]
  cases e : xs[i] with
  | non => rfl
  | bl b => simp [eqV]
  | int j => simp [eqV]
  | str x => simp [eqV]
  | _ => rw [e] at this; cases this
section
variable {X : Cx}
def rEqL (K : PySem.W.Frag) (neg : Bool) : R2 := fun x y H Q => ∃ a b xs ys, x = .ref a ∧ y = .ref b ∧ SqL K H a xs ∧ SqL K H b ys ∧ xs.all flatV = true ∧ ys.all flatV = true ∧ Q (.bl (if neg then !eqL xs ys else eqL xs ys)) H
theorem lists_at {pins : List (Addr × Obj)} {σ : St} {H : Hp} {s : Shared} {a b : Addr} {xs ys : List V} (I : Inv X pins σ H s) (ha : SqL X.K H a xs) (hb : SqL X.K H b ys) (fx : xs.all flatV = true) (fy : ys.all flatV = true) :
    ∃ is js : List Value, s.heap.IsList a is.toArray ∧ s.heap.IsList b js.toArray ∧ xs.length = is.length ∧ ys.length = js.length ∧ ∀ (A : Around) (j : Nat) (h1 : j < is.toArray.size) (h2 : j < js.toArray.size), SeqAt.EqAt A s is.toArray[j] js.toArray[j] (eqV (xs.getD j .non) (ys.getD j .non)) := by
  obtain ⟨is, r1, p1, _⟩ := I.list ha
  obtain ⟨js, r2, p2, _⟩ := I.list hb
  refine ⟨is, js, p1.isList, p2.isList, r1.length, r2.length, fun A j h1 h2 => ?_⟩
  have l1 := r1.length
  have l2 := r2.length
  simp only [List.size_toArray] at h1 h2
  have e1 : xs[j]? = some (xs.getD j .non) := by rw [List.getD_eq_getElem?_getD, List.getElem?_eq_getElem (by omega)]; rfl
  have e2 : ys[j]? = some (ys.getD j .non) := by rw [List.getD_eq_getElem?_getD, List.getElem?_eq_getElem (by omega)]; rfl
  obtain ⟨u, g1, q1⟩ := r1.get e1
  obtain ⟨v, g2, q2⟩ := r2.get e2
  rw [List.getElem?_eq_getElem h1] at g1
  rw [List.getElem?_eq_getElem h2] at g2
  have f1 := List.all_eq_true.mp fx _ (List.mem_of_getElem? e1)
  have f2 := List.all_eq_true.mp fy _ (List.mem_of_getElem? e2)
  have z := eqAt_V (A := A) (s := s) q1 q2 f1 f2
  have w1 : is.toArray[j] = u := by simpa using Option.some.inj g1
  have w2 : js.toArray[j] = v := by simpa using Option.some.inj g2
  rw [w1, w2]
  exact z
theorem op_eqL (hu : X.A.units < cLine) : OpR X (compareOp .Eq) (rEqL X.K false) := by
  intro pins s σ H x y v u Q I rx ry h
  obtain ⟨a, b, xs, ys, rfl, rfl, ha, hb, fx, fy, q⟩ := h
  cases rx
  cases ry
  obtain ⟨is, js, p1, p2, l1, l2, eq⟩ := lists_at I ha hb fx fy
  by_cases hz : is.toArray.size = js.toArray.size
  · refine SeqAt.eq_listAt p1 p2 hz hu (fun j h1 h2 => eq _ j h1 h2) ⟨.bl _, H, I, rfl, ?_⟩
    have e : eqL xs ys = (List.range is.toArray.size).all fun j => eqV (xs.getD j .non) (ys.getD j .non) := by
      unfold eqL
      simp only [List.size_toArray] at hz ⊢
      rw [l1, l2, hz]
      simp
    rw [← e]
    exact q
  · refine SeqAt.eq_list_lengthsAt p1 p2 (by simpa using hz) hu ⟨.bl false, H, I, rfl, ?_⟩
    have e : eqL xs ys = false := by
      unfold eqL
      have : (xs.length == ys.length) = false := by simp only [List.size_toArray] at hz; rw [l1, l2]; simpa using hz
      rw [this, Bool.false_and]
    have q' : Q (.bl (eqL xs ys)) H := q
    rw [e] at q'
    exact q'
theorem op_neL (hu : X.A.units < cLine) : OpR X (compareOp .NotEq) (rEqL X.K true) := by
  intro pins s σ H x y v u Q I rx ry h
  obtain ⟨a, b, xs, ys, rfl, rfl, ha, hb, fx, fy, q⟩ := h
  cases rx
  cases ry
  obtain ⟨is, js, p1, p2, l1, l2, eq⟩ := lists_at I ha hb fx fy
  have q' : Q (.bl (!eqL xs ys)) H := q
  by_cases hz : is.toArray.size = js.toArray.size
  · refine SeqAt.RcNeAt.lists p1 p2 hz hu (fun j h1 h2 => eq _ j h1 h2) _ _ _ _ ⟨.bl _, H, I, rfl, ?_⟩
    have e : eqL xs ys = (List.range is.toArray.size).all fun j => eqV (xs.getD j .non) (ys.getD j .non) := by
      unfold eqL
      simp only [List.size_toArray] at hz ⊢
      rw [l1, l2, hz]
      simp
    rw [← e]
    exact q'
  · refine SeqAt.RcNeAt.lists_lengths p1 p2 (by simpa using hz) hu _ _ _ _ ⟨.bl true, H, I, rfl, ?_⟩
    have e : eqL xs ys = false := by
      unfold eqL
      have : (xs.length == ys.length) = false := by simp only [List.size_toArray] at hz; rw [l1, l2]; simpa using hz
      rw [this, Bool.false_and]
    rw [e] at q'
    exact q'

/-! ### repr of a display -/
theorem Inv.big {pins : List (Addr × Obj)} {σ : St} {H : Hp} {s : Shared} (I : Inv X pins σ H s) : sysModules < s.heap.objs.size := by
  have h : mainGlobals < s.heap.objs.size := (I.mod.glob.keeps I.bk).lt
  exact Nat.lt_trans (by decide) h
/-! ### a, b = xs (a list), where nothing is handled -/
def gLst (K : PySem.W.Frag) (n : Nat) (t : TGs) : TG := fun v σ H Q => ∃ a xs, v = .ref a ∧ SqL K H a xs ∧ xs.length = n ∧ t xs σ H Q
theorem pg_lst {pos : Pos} {es : List Expr} {k : Nat} {t : TGs} {n : Nat} (hc : X.calm = true) (h : PGs X es t) (hl : (assignEach es X.env).length = n := by rfl) (hst : (assignEach es X.env).findIdx? (·.1) = none := by rfl) : PG X (.Tuple es k pos) (gLst X.K n t) := by
  intro pins s σ H v u Q I r q
  obtain ⟨a, xs, rfl, hx, hn, q⟩ := q
  obtain rfl : u = Value.ref a := r
  obtain ⟨its, rv, hp, hz⟩ := I.list hx
  rw [assign_Tuple]
  refine wpAny_bind (wpAny_standAt ?_)
  unfold unpack
  have hs : n = its.toArray.size := by rw [← hn, rv.length]; simp
  rw [hl, hst, hs]
  refine wpAny_bind (wpAny_holding (PySem.W.kun_itemsOf (I.ok.hd hc) hp.isList fun h' ex => ?_))
  have I1 : Inv X pins σ H { s with heap := h' } := I.kept (t' := s.toks) fun b o e => ex b o (Nat.ne_of_lt (Heap.lt_size e)) e
  have := h pins { s with heap := h' } σ H xs its Q I1 rv q
  simpa using this
/-! ### for a, b in zip(xs, ys) -/
def iZip (K : PySem.W.Frag) (ta : TA) : TI := fun σ H R => ta σ H fun vs H1 => ∃ a b, vs = [.ref a, .ref b] ∧ (∃ xs, SqL K H1 a xs) ∧ (∃ ys, SqL K H1 b ys) ∧ R (Itz K a b) H1
theorem pi_zip {elts : List Expr} {kk : Nat} {tp p pos : Pos} {a b : Expr} {ta : TA} (hg : Gl X "zip") (hm : X.mg "zip" = none) (ha : PA X [a, b] ta) (hs : starEach [a, b] X.env = [(false, eval a X.env), (false, eval b X.env)] := by rfl) (hs2 : starEach [b] X.env = [(false, eval b X.env)] := by rfl) :
    PIc false X (.Tuple elts kk tp) (.Call (.Name "zip" p) [a, b] [] pos) (iZip X.K ta) := by
  intro pins s σ H R I h
  refine Call_ (ld_blt I hg hm boot_zip (PyProof.Rows.callWith_type1 (thn (ha pos pins s σ H _ I h) fun us s1 ⟨vs, H1, I1, r1, q1⟩ => ?_) (by rw [hs, hs2]) (by rw [hs2]; rfl)))
  obtain ⟨l1, l2, e, ⟨xs, h1⟩, ⟨ys, h2⟩, q⟩ := q1
  subst e
  cases r1 with
  | cons r rr =>
    cases rr with
    | cons r' rr =>
      cases rr
      cases (show _ = Value.ref l1 from r)
      cases (show _ = Value.ref l2 from r')
      obtain ⟨is1, rv1, p1, _⟩ := I1.list h1
      obtain ⟨is2, rv2, p2, _⟩ := I1.list h2
      have lt1 : l1 < s1.heap.objs.size := by obtain ⟨o, e, _⟩ := p1.isList; exact Heap.lt_size e
      have lt2 : l2 < s1.heap.objs.size := by obtain ⟨o, e, _⟩ := p2.isList; exact Heap.lt_size e
      refine call_zip_2 p1.isList p2.isList fun h' a1 a2 a3 a4 a5 a6 a7 => wpAny_pyIter_zip (s := { s1 with heap := h' }) a1 ?_
      refine ⟨_, _, _, _, H1, rfl, I1.kept (t' := s1.toks) a7, turn_zip (zipApart_new lt1 lt2), ⟨a1, a2, ⟨_, _, a3⟩, a4, a5⟩, fun b hb => ?_, q⟩
      have le : s1.heap.objs.size ≤ b := by
        simp only [List.mem_cons, List.not_mem_nil, or_false] at hb
        rcases hb with rfl | rfl | rfl | rfl | rfl <;> omega
      exact I1.fpOk le (I1.hok.fresh le)
end
end L2
set_option Elab.async false
set_option linter.all false
set_option maxRecDepth 100000
set_option maxHeartbeats 4000000
namespace L2
open PySem PySem.Spec PyProof.Rows

theorem Room.mark {c : Bool} {k : Nat} {A : Around} {v : Option Value} (r : Room c k A) : Room false k (A.mark v) := ⟨fun h => (nomatch h), r.dp, r.un, r.gd⟩
/-! ### arguments without a star -/
def plainE : Expr → Bool
  | .Starred _ _ => false
  | _ => true
theorem starEach_plain {e : Expr} {es : List Expr} {env : Env} (h : plainE e = true) : starEach (e :: es) env = (false, eval e env) :: starEach es env := by
  cases e <;> first | rfl | (exact absurd (show false = true from h) Bool.false_ne_true)
def plainEs (es : List Expr) : Bool := es.all plainE
theorem starEach_any {env : Env} : ∀ {es : List Expr} (h : plainEs es = true), (starEach es env).any (·.1) = false
  | [], _ => rfl
  | e :: es, h => by
    unfold plainEs at h
    rw [List.all_cons, Bool.and_eq_true] at h
    rw [starEach_plain h.1, List.any_cons, starEach_any h.2]
    rfl
theorem backTo_any {pos : Pos} {env : Env} {es : List Expr} (h : plainEs es = true) : (backTo pos (starEach es env)).any (·.1) = false := by
  have q := starEach_any (env := env) h
  unfold backTo
  rw [List.any_map]
  exact q
theorem star1 {e : Expr} {env : Env} (h : plainE e = true) : starEach [e] env = [(false, eval e env)] := (starEach_plain h).trans rfl
theorem star2 {e e' : Expr} {env : Env} (h : plainE e = true) (h' : plainE e' = true) : starEach [e, e'] env = [(false, eval e env), (false, eval e' env)] := by rw [starEach_plain h, star1 h']
section
variable {X : Cx}
theorem pa_p {e : Expr} {es : List Expr} {te : TE} {t : TA} (ha : PE X e te) (hr : PA X es t) (hp : plainE e = true := by rfl) : PA X (e :: es) (tCons te t) := pa_cons ha hr (starEach_plain hp)
theorem pe_callBp {id : String} {r : List V → Hp → VK → Prop} {x : Str} {e : Expr} {es : List Expr} {t : TA} {p pos : Pos} (hc : CallR X (.builtin id) r) (hg : Gl X x) (hm : X.mg x = none) (hv : bootBuiltins x = some (.builtin id)) (ha : PA X (e :: es) t) (hp : plainE e = true := by rfl) (hps : plainEs es = true := by rfl) (hn : x ≠ "__name__" := by decide) (hdb : (x == ("__debug__" : Str)) = false := by decide) : PE X (.Call (.Name x p) (e :: es) [] pos) (tCB r t) :=
  pe_callB hc hg hm hv ha hn hdb (starEach_plain hp) (backTo_any hps)
theorem pe_callTyp {T : String} {r : List V → Hp → VK → Prop} {x : Str} {e : Expr} {es : List Expr} {t : TA} {p pos : Pos} (hc : CallR X (.type T) r) (hg : Gl X x) (hm : X.mg x = none) (hv : bootBuiltins x = some (.type T)) (ha : PA X (e :: es) t) (hp : plainE e = true := by rfl) (hps : plainEs es = true := by rfl) (hn : x ≠ "__name__" := by decide) (hdb : (x == ("__debug__" : Str)) = false := by decide) : PE X (.Call (.Name x p) (e :: es) [] pos) (tCB r t) :=
  pe_callTy hc hg hm hv ha hn hdb (starEach_plain hp) (backTo_any hps)
theorem pi_range1p {tg a : Expr} {ta : TA} {p pos : Pos} (hg : Gl X "range") (hm : X.mg "range" = none) (ha : PA X [a] ta) (hp : plainE a = true := by rfl) : PIc true X tg (.Call (.Name "range" p) [a] [] pos) (iRng1 ta) := pi_range1 hg hm ha (star1 hp)
theorem pi_range2p {tg a b : Expr} {ta : TA} {p pos : Pos} (hg : Gl X "range") (hm : X.mg "range" = none) (ha : PA X [a, b] ta) (hp : plainE a = true := by rfl) (hp' : plainE b = true := by rfl) : PIc true X tg (.Call (.Name "range" p) [a, b] [] pos) (iRng2 ta) := pi_range2 hg hm ha (star2 hp hp') (star1 hp')
theorem pi_zipp {elts : List Expr} {kk : Nat} {tp p pos : Pos} {a b : Expr} {ta : TA} (hg : Gl X "zip") (hm : X.mg "zip" = none) (ha : PA X [a, b] ta) (hp : plainE a = true := by rfl) (hp' : plainE b = true := by rfl) : PIc false X (.Tuple elts kk tp) (.Call (.Name "zip" p) [a, b] [] pos) (iZip X.K ta) := pi_zip hg hm ha (star2 hp hp') (star1 hp')
theorem ps_raisep {Ex : Addr → St → Hp → Prop} {C : Addr} {x : Str} {np cpos pos : Pos} {e : Expr} {es : List Expr} {t : TA} (hc : X.calm = true) (T : Throws X Ex) (O : ErrK X.K C) (hg : Gl X x) (hm : X.mg x = some (.ref C)) (ha : PA X (e :: es) t) (hp : plainE e = true := by rfl) (hps : plainEs es = true := by rfl)
    (hdb : (x == ("__debug__" : Str)) = false := by decide) : PS X (.Raise (some (.Call (.Name x np) (e :: es) [] cpos)) none pos) (tRaise C Ex t) := ps_raise hc T O hg hm ha hdb (starEach_plain hp) (backTo_any hps)
end
/-! ### a new object -/
structure New (H : Hp) (p : Addr) (o : HO) (H' : Hp) : Prop where
  no : H p = none
  at_ : H' p = some o
  same : Same H H'
theorem New.mk' {H : Hp} {p : Addr} {o : HO} (h : H p = none) : New H p o (upd H p o) := ⟨h, upd_same, fun b u e => by rw [upd_ne (ne_of_none e h)]; exact e⟩
section
variable {X : Cx}
def tLstA (t : TA) : TE := fun σ H Q => t σ H fun xs H1 => xs.length ≤ sizeLine ∧ ∀ p H2, New H1 p (.lst xs) H2 → p ≠ sysModules → Q (.ref p) H2
theorem pe_lstA {es : List Expr} {t : TA} {pos : Pos} (h : PA X es t) : PE X (.List es pos) (tLstA t) := by
  intro pins s σ H Q I hq
  refine wpAny_List_spliced (thn (h pos pins s σ H _ I hq) fun us s1 ⟨xs, H1, I1, r, z, q⟩ => ⟨by rw [← r.length]; exact z, ?_⟩)
  have hf : H1 s1.heap.objs.size = none := I1.hok.fresh (Nat.le_refl _)
  refine ⟨.ref s1.heap.objs.size, upd H1 s1.heap.objs.size (.lst xs), I1.laid (t' := s1.toks) (fun b u e => Heap.get?_push_of_some _ e) (Nat.le_refl _) ?_, rfl, q _ _ (.mk' hf) (Nat.ne_of_gt I1.big)⟩
  exact ⟨z, us, 0, r, Heap.get?_push_size _ rfl⟩
def tTupA (t : TA) : TE := fun σ H Q => t σ H fun xs H1 => xs.length ≤ sizeLine ∧ ∀ p H2, New H1 p (.tup xs) H2 → Q (.ref p) H2
theorem thenA {es : List Expr} {t : TA} {R R' : List V → Hp → Prop} (hw : ∀ xs H, R xs H → R' xs H) (h : PA X es t) (pos : Pos) (pins : List (Addr × Obj)) (s : Shared) (σ : St) (H : Hp) (I : Inv X pins σ H s) (q : t σ H R) :
    wpAny (model X.prog X.w) X.A (spliced (backTo pos (starEach es X.env))) (AP X pins σ R') X.xe s :=
  thn (h pos pins s σ H R I q) fun _ _ ⟨vs, H', a, b, c⟩ => ⟨vs, H', a, b, hw _ _ c⟩
theorem pe_tupA {es : List Expr} {t : TA} {x1} {pos : Pos} (h : PA X es t) : PE X (.Tuple es x1 pos) (tTupA t) := by
  have h' : PA X es (fun σ H Q => ∃ R : List V → Hp → Prop, t σ H R ∧ ∀ xs H, R xs H → Q xs H) := fun pos pins s σ H Q I ⟨R, q, hw⟩ => thenA hw h pos pins s σ H I q
  intro pins s σ H Q I hq
  exact pe_tup h' pins s σ H Q I ⟨_, hq, fun xs H1 ⟨z, q⟩ => ⟨z, fun p hp => q p _ (.mk' hp)⟩⟩
def tDNewA : TE := fun _ H Q => ∀ p H2, New H p (.dK []) H2 → Q (.ref p) H2
end
/-! ### rules that take whatever kind comes: read by simp -/
/-- a value that is an address -/
def uR (v : V) (q : Addr → Prop) : Prop := ∃ a, v = .ref a ∧ q a
/-- xs.append(e) -/
def uApp (to te : TE) : TE := fun σ H Q => to σ H fun x H1 => uR x fun l => (∃ xs, H1 l = some (.lst xs)) ∧ te σ H1 fun y H2 => ∃ xs, H2 l = some (.lst xs) ∧ xs.length < sizeLine ∧ Q .non (upd H2 l (.lst (xs ++ [y])))
section
variable {X : Cx}
theorem OpR.weak {f : Value → Value → Sem Value} {r r' : R2} (h : OpR X f r) (hw : ∀ x y H Q, r' x y H Q → r x y H Q) : OpR X f r' :=
  fun pins s σ H x y v u Q I rx ry q => h pins s σ H x y v u Q I rx ry (hw x y H Q q)
theorem CallR.weak {f : Value} {r r' : List V → Hp → VK → Prop} (h : CallR X f r) (hw : ∀ xs H Q, r' xs H Q → r xs H Q) : CallR X f r' :=
  fun pins s σ H xs us Q I rs q => h pins s σ H xs us Q I rs (hw xs H Q q)
theorem IxR.weak {r r' : R2} (h : IxR X r) (hw : ∀ x y H Q, r' x y H Q → r x y H Q) : IxR X r' :=
  fun value slice pins s σ H x y v u Q I rx ry q hs => h value slice pins s σ H x y v u Q I rx ry (hw x y H Q q) hs

def uAdd : R2 := fun x y H Q => (∃ i j, x = .int i ∧ y = .int j ∧ Q (.int (i + j)) H) ∨ (∃ i j, x = .str i ∧ y = .str j ∧ i.length + j.length ≤ sizeLine ∧ Q (.str (i ++ j)) H) ∨
  (∃ l b xs zs, x = .ref l ∧ y = .ref b ∧ H l = some (.lst xs) ∧ H b = some (.lst zs) ∧ xs.length + zs.length ≤ sizeLine ∧ ∀ p H2, New H p (.lst (xs ++ zs)) H2 → Q (.ref p) H2)
theorem op_addU : OpR X (binaryOp .Add) uAdd := op_add.or (op_add_str.or (op_cat.weak fun x y H Q h => by
  obtain ⟨l, b, xs, zs, e1, e2, h1, h2, h3, h4⟩ := h
  exact ⟨l, b, xs, zs, e1, e2, h1, h2, h3, fun p hp => h4 p _ (.mk' hp)⟩))
def uMul : R2 := fun x y H Q => (∃ i j, x = .int i ∧ y = .int j ∧ CMul i j ∧ Q (.int (i * j)) H) ∨
  (∃ l k xs, x = .ref l ∧ y = .int k ∧ H l = some (.lst xs) ∧ -(2 ^ 63) ≤ k ∧ k < 2 ^ 63 ∧ xs.length * k.toNat ≤ sizeLine ∧ ∀ p H2, New H p (.lst (List.replicate k.toNat xs).flatten) H2 → Q (.ref p) H2)
theorem op_mulU : OpR X (binaryOp .Mult) uMul := op_mul.or (op_rep.weak fun x y H Q h => by
  obtain ⟨l, k, xs, e1, e2, h1, h2, h3, h5, h4⟩ := h
  exact ⟨l, k, xs, e1, e2, h1, h2, h3, h5, fun p hp => h4 p _ (.mk' hp)⟩)
/-- xs[i] -/
def uIx : R2 := fun x y H Q => (∃ p xs i v, x = .ref p ∧ y = .int i ∧ H p = some (.lst xs) ∧ atI xs i = some v ∧ Q v H) ∨
  (∃ p xs i v, x = .ref p ∧ y = .int i ∧ H p = some (.tup xs) ∧ atI xs i = some v ∧ Q v H) ∨ (∃ z i c, x = .str z ∧ y = .int i ∧ z.length ≤ sizeLine ∧ atI z.cps.toList i = some c ∧ Q (.str ⟨#[c]⟩) H)
theorem ix_U : IxR X uIx := ix_seq.weak fun x y H Q h => by
  rcases h with ⟨p, xs, i, v, e1, e2, h, r⟩ | ⟨p, xs, i, v, e1, e2, h, r⟩ | h
  · exact .inl ⟨p, xs, i, v, e1, e2, SqL.of h, r⟩
  · exact .inr (.inl ⟨p, xs, i, v, e1, e2, SqT.of h, r⟩)
  · exact .inr (.inr h)
/-- len -/
def uLen : List V → Hp → VK → Prop := fun xs H Q => (∃ p ys, xs = [.ref p] ∧ H p = some (.lst ys) ∧ Q (.int ys.length) H) ∨ (∃ p ys, xs = [.ref p] ∧ H p = some (.tup ys) ∧ Q (.int ys.length) H) ∨
  (∃ z, xs = [.str z] ∧ z.length ≤ sizeLine ∧ Q (.int z.length) H)
theorem call_lenU : CallR X (.builtin "len") uLen := (call_len_seq.or call_len_str).weak fun xs H Q h => by
  rcases h with ⟨p, ys, e, h, q⟩ | ⟨p, ys, e, h, q⟩ | h
  · exact .inl ⟨p, ys, e, .inl (SqL.of h), q⟩
  · exact .inl ⟨p, ys, e, .inr (SqT.of h), q⟩
  · exact .inr h
def uEq (neg : Bool) : R2 := fun x y H Q => (scal x y = true ∧ Q (.bl (if neg then !decide (x = y) else decide (x = y))) H) ∨
  (∃ a b xs ys, x = .ref a ∧ y = .ref b ∧ H a = some (.lst xs) ∧ H b = some (.lst ys) ∧ xs.all flatV = true ∧ ys.all flatV = true ∧ Q (.bl (if neg then !eqL xs ys else eqL xs ys)) H)
theorem op_eqU (hu : X.A.units < cLine) : OpR X (compareOp .Eq) (uEq false) := (op_eq.or (op_eqL hu)).weak fun x y H Q h => by
  rcases h with h | ⟨a, b, xs, ys, e1, e2, h1, h2, r⟩
  · exact .inl ⟨h.1, by simpa using h.2⟩
  · exact .inr ⟨a, b, xs, ys, e1, e2, SqL.of h1, SqL.of h2, r⟩
theorem op_neU (hu : X.A.units < cLine) : OpR X (compareOp .NotEq) (uEq true) := (op_ne.or (op_neL hu)).weak fun x y H Q h => by
  rcases h with h | ⟨a, b, xs, ys, e1, e2, h1, h2, r⟩
  · exact .inl ⟨h.1, by simpa using h.2⟩
  · exact .inr ⟨a, b, xs, ys, e1, e2, SqL.of h1, SqL.of h2, r⟩
/-- the truth of a value -/
def tTru (K : PySem.W.Frag) (ta : TE) : TT := fun σ H Q => ta σ H fun x H' => ∃ k, TruV K x H' k ∧ Q k H'
theorem pt_tru {a : Expr} {ta : TE} (ha : PE X a ta) (he : ∀ whole, isTrue a X.env whole = (do let v ← whole; standAt a.pos; holding [v] (truthy v)) := by intro _; rfl) : PT X a (tTru X.K ta) := pt_truth ha he
/-- o.f where the class is known -/
def uFld (C : Addr) (ta : TE) (f : Str) : TE := fun σ H Q => ta σ H fun x H1 => ∃ a dx fs v, x = .ref a ∧ H1 a = some (.ins C dx fs) ∧ fs.lookup f = some v ∧ Q v H1
theorem pe_fldU {C : Addr} {e : Expr} {ta : TE} {f : Str} {pos : Pos} (c : Cls X.K C) (n : NoAttr X.K C f) (he : PE X e ta) (hb : attributeBase e f X.env (eval e X.env) = eval e X.env := by rfl) : PE X (.Attribute e f pos) (uFld C ta f) := by
  intro pins s σ H Q I h
  refine attr_of hb (thn (he pins s σ H _ I h) fun u s1 ⟨x, H1, I1, rx, a, dx, fs, v, ex, ea, l, q⟩ => ?_)
  subst ex
  obtain rfl : u = Value.ref a := rx
  exact getattr_ok I1 ea c n l fun u' s2 I2 ru => ⟨v, H1, I2, ru, q⟩
def uSetF (C : Addr) (ta tv : TE) (f : Str) : TS := fun D σ H => tv σ H fun y H1 => ta σ H1 fun x H2 => ∃ a dx fs, x = .ref a ∧ H2 a = some (.ins C dx fs) ∧ fs.length < 1000 ∧ D.nx σ (upd H2 a (.ins C dx (putF f y fs)))
theorem ps_fldU {C : Addr} {o value : Expr} {ta tv : TE} {f : Str} {pos pos' : Pos} (c : Cls X.K C) (n : NoAttr X.K C f) (ha : PE X o ta) (hv : PE X value tv) (hs : swapsWith value (some (.Attribute o f pos')) pos.line X.env = pure false := by rfl) : PS X (.Assign [.Attribute o f pos'] value pos) (uSetF C ta tv f) := by
  intro pins s σ H D I h
  refine plainObj_wpAny_Assign_Attribute (thn (hv pins s σ H _ I h) fun u s1 ⟨y, H1, I1, ry, q⟩ => thn (ha pins s1 σ H1 _ I1 q) fun ov s2 ⟨x, H2, I2, rx, a, dx, fs, ex, ea, l, q2⟩ => ?_) hs
  subst ex
  obtain rfl : ov = Value.ref a := rx
  exact setattr_ok I2 ea c n l ry fun s3 I3 => ⟨σ, _, I3, q2⟩
/-- f(..) of the text's own -/
structure GF (P : Program) (w : World) (K : PySem.W.Frag) (mg : Str → Option Value) (base : Heap) (cm : Bool) (k : Nat) (x : Str) (ps : List Str) (sp : Sp) : Prop where
  ex : ∃ (f : Addr) (fd : FuncData), FnOk P w K mg base CX0 cm k f fd ps sp ∧ mg x = some (.ref f) ∧ PySem.W.keepIn K (.ref f) = true ∧ Binds K fd ps []
/-- a method of the class at C -/
structure GM (P : Program) (w : World) (K : PySem.W.Frag) (mg : Str → Option Value) (base : Heap) (cm : Bool) (k : Nat) (C : Addr) (m : Str) (ps : List Str) (sp : Sp) : Prop where
  ex : ∃ (f : Addr) (fd : FuncData), FnOk P w K mg base CX0 cm k f fd ps sp ∧ Meth K C m f ∧ Binds K fd ps []
structure GMX (P : Program) (w : World) (K : PySem.W.Frag) (mg : Str → Option Value) (base : Heap) (cm : Bool) (k : Nat) (C : Addr) (m : Str) (ps : List Str) (sp : Sp) : Prop where
  ex : ∃ (f : Addr) (fd : FuncData), FnOk P w K mg base (CXW P w) cm k f fd ps sp ∧ Meth K C m f ∧ Binds K fd ps []
structure GCX (P : Program) (w : World) (K : PySem.W.Frag) (mg : Str → Option Value) (base : Heap) (cm : Bool) (k : Nat) (x : Str) (C : Addr) (ps : List Str) (sp : Sp) : Prop where
  ex : ∃ (f : Addr) (fd : FuncData), FnOk P w K mg base (CXW P w) cm k f fd ps sp ∧ mg x = some (.ref C) ∧ Mk K C f ∧ Binds K fd ps []
variable {cm : Bool} {k j : Nat} {x m : Str} {C : Addr} {ps : List Str} {sp : Sp} {e o : Expr} {es : List Expr} {t : TA} {ta : TE} {p pos apos : Pos} {Ex : Addr → St → Hp → Prop}
theorem pe_g (G : GF X.prog X.w X.K X.mg X.base cm j x ps sp) (hr : Room cm k X.A) (hg : Gl X x) (ha : PA X (e :: es) t) (hj : j ≤ k := by decide) (hdb : (x == ("__debug__" : Str)) = false := by decide) (hp : plainE e = true := by rfl) (hps : plainEs es = true := by rfl) :
    PE X (.Call (.Name x p) (e :: es) [] pos) (tCall sp [] E0 t) := by
  obtain ⟨f, fd, F, hm, hk, hb⟩ := G.ex
  exact pe_call F (hr.mono hj) hg hm hk hb .nil pass0 ha hdb (starEach_plain hp) (backTo_any hps)
theorem pe_m {pl : Sem Bool} (he : PE X o ta) (c : Cls X.K C) (G : GM X.prog X.w X.K X.mg X.base cm j C m ps sp) (hr : Room cm k X.A) (ha : PA X (e :: es) t) (hj : j ≤ k := by decide)
    (hp : plainE e = true := by rfl) (hps : plainEs es = true := by rfl)
    (ht : eval (.Call (.Attribute o m apos) (e :: es) [] pos) X.env = (do
      let ov ← eval o X.env
      standAt apos.atName
      let (f, first) ← holding [ov] (getMethod ov m pl)
      callWith pos f first (backTo pos (starEach (e :: es) X.env)) (backToKw pos (keywordEach [] X.env))) := by rfl) :
    PE X (.Call (.Attribute o m apos) (e :: es) [] pos) (tMeth C m sp [] E0 ta t) := by
  obtain ⟨f, fd, F, hm, hb⟩ := G.ex
  exact pe_meth he c hm F (hr.mono hj) hb .nil pass0 ha (starEach_plain hp) (backTo_any hps) ht
theorem pe_m0 {pl : Sem Bool} (he : PE X o ta) (c : Cls X.K C) (G : GM X.prog X.w X.K X.mg X.base cm j C m ps sp) (hr : Room cm k X.A) (hj : j ≤ k := by decide)
    (ht : eval (.Call (.Attribute o m apos) [] [] pos) X.env = (do
      let ov ← eval o X.env
      standAt apos.atName
      let (f, first) ← holding [ov] (getMethod ov m pl)
      callWith pos f first (backTo pos (starEach [] X.env)) (backToKw pos (keywordEach [] X.env))) := by rfl) :
    PE X (.Call (.Attribute o m apos) [] [] pos) (tMeth C m sp [] E0 ta tNil) := by
  obtain ⟨f, fd, F, hm, hb⟩ := G.ex
  exact pe_meth0 he c hm F (hr.mono hj) hb .nil pass0 ht
theorem pe_mX {pl : Sem Bool} (he : PE X o ta) (c : Cls X.K C) (T : Throws X Ex) (G : GMX X.prog X.w X.K X.mg X.base cm j C m ps sp) (hr : Room cm k X.A) (ha : PA X (e :: es) t) (hj : j ≤ k := by decide)
    (hp : plainE e = true := by rfl) (hps : plainEs es = true := by rfl)
    (ht : eval (.Call (.Attribute o m apos) (e :: es) [] pos) X.env = (do
      let ov ← eval o X.env
      standAt apos.atName
      let (f, first) ← holding [ov] (getMethod ov m pl)
      callWith pos f first (backTo pos (starEach (e :: es) X.env)) (backToKw pos (keywordEach [] X.env))) := by rfl) :
    PE X (.Call (.Attribute o m apos) (e :: es) [] pos) (tMethX C m sp [] Ex ta t) := by
  obtain ⟨f, fd, F, hm, hb⟩ := G.ex
  exact pe_methX he c hm T F (hr.mono hj) hb .nil ha (starEach_plain hp) (backTo_any hps) ht
theorem pe_mX0 {pl : Sem Bool} (he : PE X o ta) (c : Cls X.K C) (T : Throws X Ex) (G : GMX X.prog X.w X.K X.mg X.base cm j C m ps sp) (hr : Room cm k X.A) (hj : j ≤ k := by decide)
    (ht : eval (.Call (.Attribute o m apos) [] [] pos) X.env = (do
      let ov ← eval o X.env
      standAt apos.atName
      let (f, first) ← holding [ov] (getMethod ov m pl)
      callWith pos f first (backTo pos (starEach [] X.env)) (backToKw pos (keywordEach [] X.env))) := by rfl) :
    PE X (.Call (.Attribute o m apos) [] [] pos) (tMethX C m sp [] Ex ta tNil) := by
  obtain ⟨f, fd, F, hm, hb⟩ := G.ex
  exact pe_methX0 he c hm T F (hr.mono hj) hb .nil ht
/-- a new instance, its dict -/
structure NewI (H : Hp) (C x dx : Addr) (H' : Hp) : Prop where
  no : H x = none
  nod : H dx = none
  ne : dx ≠ x
  at_ : H' x = some (.ins C dx [])
  own : H' dx = some (.own x)
  same : Same H H'
theorem NewI.mk' {H : Hp} {C x dx : Addr} (h : H x = none) (hd : H dx = none) (ne : dx ≠ x) : NewI H C x dx (upd (upd H dx (.own x)) x (.ins C dx [])) :=
  ⟨h, hd, ne, upd_same, by rw [upd_ne ne, upd_same], fun b u e => by rw [upd_ne (ne_of_none e h), upd_ne (ne_of_none e hd)]; exact e⟩
def tMakeA (C : Addr) (sp : Sp) (t : TA) : TE := fun σ H Q => t σ H fun vs H1 => ∀ x dx H2, NewI H1 C x dx H2 → sp (.ref x :: vs) H2 (fun v H3 => v = .non ∧ Q (.ref x) H3) E0
def tMakeXA (C : Addr) (sp : Sp) (Ex : Addr → St → Hp → Prop) (t : TA) : TE := fun σ H Q => t σ H fun vs H1 => ∀ x dx H2, NewI H1 C x dx H2 → sp (.ref x :: vs) H2 (fun v H3 => v = .non ∧ Q (.ref x) H3) (XE Ex σ)
theorem PA.any {es : List Expr} {t : TA} (h : PA X es t) : PA X es (fun σ H Q => ∃ R : List V → Hp → Prop, t σ H R ∧ ∀ xs H, R xs H → Q xs H) := fun pos pins s σ H Q I ⟨R, q, hw⟩ => thenA hw h pos pins s σ H I q
theorem pe_cX (T : Throws X Ex) (G : GCX X.prog X.w X.K X.mg X.base cm j x C ps sp) (hr : Room cm k X.A) (hg : Gl X x) (ha : PA X (e :: es) t) (hj : j + 1 ≤ k := by decide) (hdb : (x == ("__debug__" : Str)) = false := by decide) (hp : plainE e = true := by rfl) (hps : plainEs es = true := by rfl) :
    PE X (.Call (.Name x p) (e :: es) [] pos) (tMakeXA C sp Ex t) := by
  obtain ⟨f, fd, F, hm, M, hb⟩ := G.ex
  intro pins s σ H Q I h
  exact pe_makeX M T F (hr.mono hj) hg hm hb .nil ha.any hdb (starEach_plain hp) (backTo_any hps) pins s σ H Q I ⟨_, h, fun vs H1 q x dx hx hd ne => by rw [List.append_nil]; exact q x dx _ (.mk' hx hd ne)⟩
/-- a name of the module: a constant, a class -/
theorem pe_gv {v : V} {pos : Pos} (hg : Gl X x) (hm : ∃ u, X.mg x = some u ∧ RelV v u) (hd : (x == ("__debug__" : Str)) = false := by decide) : PE X (.Name x pos) (tC v) := by
  obtain ⟨u, hm, r⟩ := hm
  exact pe_glob hg hm r hd
/-- xs.append(e), whatever xs is -/
theorem pe_append {o e : Expr} {to te : TE} {apos cpos : Pos} (ho : PE X o to) (he : PE X e te)
    (hbase : attributeBase o "append" X.env (eval o X.env) = eval o X.env := by rfl)
    (hline : (apos.endLine == cpos.line) = true := by rfl) (hp : plainE e = true := by rfl) : PE X (.Call (.Attribute o "append" apos) [e] [] cpos) (uApp to te) := by
  intro pins s σ H Q I h
  have hs : starEach [e] X.env = [(false, eval e X.env)] := star1 hp
  refine wpAny_Call_method_late hbase (by rw [hs]; rfl) hline rfl (thn (ho pins s σ H _ I h) fun v s1 ⟨x, H1, I1, r1, l, ex, ⟨xs, hx⟩, q1⟩ => ?_)
  subst ex
  obtain ⟨h1, h2⟩ := tyV_is (T := "list") I1 r1 (.inl ⟨rfl, xs, SqL.of hx⟩)
  refine ⟨"list", "list.append", PySem.F.plainAttrs_list, PySem.F.slot_list_append, PySem.F.type_list_append, h1, h2, ?_⟩
  rw [hs]
  refine Calls.callWith_builtin rfl (Calls.evalArgs_plain ?_)
  have hA := pa_cons he pa_nil (hs := hs) cpos pins s1 σ H1 (fun ys H2 => match ys with | [y] => ∃ xs, H2 l = some (.lst xs) ∧ xs.length < sizeLine ∧ Q .non (upd H2 l (.lst (xs ++ [y]))) | _ => False) I1 q1
  rw [hs] at hA
  refine thn hA fun us s2 ⟨vs, H2, I2, r2, q2⟩ => ?_
  match vs, q2, r2 with
  | [y], ⟨xs2, hx2, hl2, q2⟩, r2 => exact mt_append pins s2 σ H2 (.ref l) [y] v us Q I2 r1 r2 ⟨l, xs2, y, rfl, rfl, hx2, hl2, q2⟩
end
section
variable {X : Cx}
def uInt : List V → Hp → VK → Prop := fun xs H Q => (∃ i, xs = [.int i] ∧ Q (.int i) H) ∨ ∃ k, xs = [.bl k] ∧ Q (.int (if k then 1 else 0)) H
theorem call_intU : CallR X (.type "int") uInt := call_int1
def uStr : List V → Hp → VK → Prop := fun xs H Q => ∃ i, xs = [.int i] ∧ i.natAbs.log2 < 1920 ∧ Q (.str (toString i)) H
theorem uInt_i {i : Int} {H : Hp} {Q : VK} : uInt [.int i] H Q = Q (.int i) H := by simp [uInt]
theorem uInt_b {k : Bool} {H : Hp} {Q : VK} : uInt [.bl k] H Q = Q (.int (if k then 1 else 0)) H := by simp [uInt]
theorem uStr_i {i : Int} {H : Hp} {Q : VK} : uStr [.int i] H Q = (i.natAbs.log2 < 1920 ∧ Q (.str (toString i)) H) := by simp [uStr]
/-- max, min of two ints -/
def uMax : List V → Hp → VK → Prop := fun xs H Q => ∃ i j, xs = [.int i, .int j] ∧ Q (.int (if j > i then j else i)) H
def uMin : List V → Hp → VK → Prop := fun xs H Q => ∃ i j, xs = [.int i, .int j] ∧ Q (.int (if j < i then j else i)) H
theorem call_maxU (hc : X.calm = true) : CallR X (.builtin "max") uMax := call_max2 hc
theorem call_minU (hc : X.calm = true) : CallR X (.builtin "min") uMin := call_min2 hc
theorem uMax_ii {i j : Int} {H : Hp} {Q : VK} : uMax [.int i, .int j] H Q = Q (.int (if j > i then j else i)) H := by
  apply propext; constructor
  · rintro ⟨a, b, e, q⟩; cases e; exact q
  · exact fun q => ⟨i, j, rfl, q⟩
theorem uMin_ii {i j : Int} {H : Hp} {Q : VK} : uMin [.int i, .int j] H Q = Q (.int (if j < i then j else i)) H := by
  apply propext; constructor
  · rintro ⟨a, b, e, q⟩; cases e; exact q
  · exact fun q => ⟨i, j, rfl, q⟩
end
/-! ### within a comprehension's block -/
section
variable {Y : Cx} {sc : Scope} {N' : List Str} {pins : List (Addr × Obj)} {D : Addr} {fp : List Addr} {s : Shared} {H : Hp}
theorem pt_truL {a : Expr} {ta : TE} (ha : PE (cxLC Y sc N' pins D fp s H) a ta) (he : ∀ whole, isTrue a (cxLC Y sc N' pins D fp s H).env whole = (do let v ← whole; standAt a.pos; holding [v] (truthy v)) := by intro _; rfl) : PT (cxLC Y sc N' pins D fp s H) a (tTru Y.K ta) := pt_tru ha he
theorem pg_tupL {pos : Pos} {es : List Expr} {k : Nat} {t : TGs} {n : Nat} (h : PGs (cxLC Y sc N' pins D fp s H) es t) (hl : (assignEach es (cxLC Y sc N' pins D fp s H).env).length = n := by rfl) (hst : (assignEach es (cxLC Y sc N' pins D fp s H).env).findIdx? (·.1) = none := by rfl) : PG (cxLC Y sc N' pins D fp s H) (.Tuple es k pos) (gTup Y.K n t) := pg_tupA h hl hst
end
theorem gCons_c {t : TG} {u : TGs} {v : V} {r : List V} {σ : St} {H : Hp} {Q : St → Hp → Prop} : gCons t u (v :: r) σ H Q = t v σ H fun σ' H' => u r σ' H' Q := by
  apply propext; constructor
  · rintro ⟨v, r, e, h⟩; cases e; exact h
  · exact fun h => ⟨v, r, rfl, h⟩
theorem gNil_n {σ : St} {H : Hp} {Q : St → Hp → Prop} : gNil [] σ H Q = Q σ H := by
  apply propext; constructor
  · exact fun h => h.2
  · exact fun h => ⟨rfl, h⟩
/-! ### the readings, by what comes -/
section
variable {H : Hp} {Q : VK} {i j : Int} {x y : Str} {a b : Addr} {K : PySem.W.Frag} {g : Int → Int → V} {C : Int → Int → Prop} {k c : Bool} {QB : Bool → Hp → Prop}
theorem uAdd_ii : uAdd (.int i) (.int j) H Q = Q (.int (i + j)) H := by simp [uAdd]
theorem uAdd_ss : uAdd (.str x) (.str y) H Q = (x.length + y.length ≤ sizeLine ∧ Q (.str (x ++ y)) H) := by simp [uAdd]
theorem uAdd_rr : uAdd (.ref a) (.ref b) H Q = ∃ xs zs, H a = some (.lst xs) ∧ H b = some (.lst zs) ∧ xs.length + zs.length ≤ sizeLine ∧ ∀ p H2, New H p (.lst (xs ++ zs)) H2 → Q (.ref p) H2 := by simp [uAdd]
theorem uMul_ii : uMul (.int i) (.int j) H Q = (CMul i j ∧ Q (.int (i * j)) H) := by simp [uMul]
theorem uMul_ri : uMul (.ref a) (.int i) H Q = ∃ xs, H a = some (.lst xs) ∧ -(2 ^ 63) ≤ i ∧ i < 2 ^ 63 ∧ xs.length * i.toNat ≤ sizeLine ∧ ∀ p H2, New H p (.lst (List.replicate i.toNat xs).flatten) H2 → Q (.ref p) H2 := by simp [uMul]
theorem uIx_r : uIx (.ref a) (.int i) H Q = ∃ xs, (H a = some (.lst xs) ∨ H a = some (.tup xs)) ∧ ∃ v, atI xs i = some v ∧ Q v H := by
  apply propext; constructor
  · rintro (⟨p, xs, i, v, e1, e2, h, r⟩ | ⟨p, xs, i, v, e1, e2, h, r⟩ | ⟨z, i, c, e, _⟩)
    · cases e1; cases e2; exact ⟨xs, .inl h, v, r⟩
    · cases e1; cases e2; exact ⟨xs, .inr h, v, r⟩
    · cases e
  · rintro ⟨xs, h | h, v, r⟩
    · exact .inl ⟨_, xs, _, v, rfl, rfl, h, r⟩
    · exact .inr (.inl ⟨_, xs, _, v, rfl, rfl, h, r⟩)
theorem uIx_s : uIx (.str x) (.int i) H Q = (x.length ≤ sizeLine ∧ ∃ c, atI x.cps.toList i = some c ∧ Q (.str ⟨#[c]⟩) H) := by simp [uIx]
theorem uLen_r : uLen [.ref a] H Q = ∃ ys, (H a = some (.lst ys) ∨ H a = some (.tup ys)) ∧ Q (.int ys.length) H := by
  apply propext; constructor
  · rintro (⟨p, xs, e1, h, r⟩ | ⟨p, xs, e1, h, r⟩ | ⟨z, e, _⟩)
    · cases e1; exact ⟨xs, .inl h, r⟩
    · cases e1; exact ⟨xs, .inr h, r⟩
    · cases e
  · rintro ⟨xs, h | h, r⟩
    · exact .inl ⟨_, xs, rfl, h, r⟩
    · exact .inr (.inl ⟨_, xs, rfl, h, r⟩)
theorem uLen_s : uLen [.str x] H Q = (x.length ≤ sizeLine ∧ Q (.int x.length) H) := by simp [uLen]
theorem rI_ii : rI C g (.int i) (.int j) H Q = (C i j ∧ Q (g i j) H) := by simp [rI]
theorem rI0_ii : rI0 g (.int i) (.int j) H Q = Q (g i j) H := by simp [rI0]
theorem rU_i {g : Int → V} : rU g (.int i) H Q = Q (g i) H := by simp [rU]
theorem uEq_ii : uEq c (.int i) (.int j) H Q = Q (.bl (if c then !decide (i = j) else decide (i = j))) H := by simp [uEq, scal]
theorem uEq_ss : uEq c (.str x) (.str y) H Q = Q (.bl (if c then !decide (x = y) else decide (x = y))) H := by simp [uEq, scal]
theorem uEq_bb : uEq c (.bl k) (.bl k') H Q = Q (.bl (if c then !decide (k = k') else decide (k = k'))) H := by simp [uEq, scal]
theorem uEq_rr : uEq c (.ref a) (.ref b) H Q = ∃ xs ys, H a = some (.lst xs) ∧ H b = some (.lst ys) ∧ xs.all flatV = true ∧ ys.all flatV = true ∧ Q (.bl (if c then !eqL xs ys else eqL xs ys)) H := by simp [uEq, scal]
/-- the truth of a value, as a reading -/
def uTru (K : PySem.W.Frag) (v : V) (H : Hp) (Q : Bool → Hp → Prop) : Prop := ∃ k, TruV K v H k ∧ Q k H
theorem uTru_b : uTru K (.bl k) H QB = QB k H := by simp [uTru, TruV]
theorem uTru_n : uTru K .non H QB = QB false H := by simp [uTru, TruV]
theorem uTru_i : uTru K (.int i) H QB = QB (i != 0) H := by simp [uTru, TruV]
theorem tTru_eq {ta : TE} {σ : St} : tTru K ta σ H QB = ta σ H fun x H' => uTru K x H' QB := rfl
/-- a value that is a truth -/
def uB (v : V) (q : Bool → Prop) : Prop := ∃ c, v = .bl c ∧ q c
theorem uB_b {q : Bool → Prop} : uB (.bl k) q = q k := by simp [uB]
theorem tB_eq {t : TE} {σ : St} : tB t σ H QB = t σ H fun x H1 => uB x fun c => QB c H1 := rfl
theorem tTest_eq {t : TE} {σ : St} : tTest t σ H QB = t σ H fun x H1 => uB x fun c => QB c H1 := rfl
theorem tAndV_eq {t u : TE} {σ : St} : tAndV t u σ H Q = t σ H fun x H1 => uB x fun c => if c = true then u σ H1 Q else Q (.bl false) H1 := rfl
theorem tOrV_eq {t u : TE} {σ : St} : tOrV t u σ H Q = t σ H fun x H1 => uB x fun c => if c = true then Q (.bl true) H1 else u σ H1 Q := rfl
theorem tNotV_eq {t : TE} {σ : St} : tNotV t σ H Q = t σ H fun x H1 => uB x fun c => Q (.bl (!c)) H1 := rfl
theorem tChain_eq {r r' : R2} {ta tb tc : TE} {σ : St} : tChain r r' ta tb tc σ H Q = ta σ H fun x H1 => tb σ H1 fun y H2 => r x y H2 fun z H3 => uB z fun k => if k = true then tc σ H3 fun w' H4 => r' y w' H4 Q else Q (.bl false) H3 := rfl
theorem uR_r {q : Addr → Prop} : uR (.ref a) q = q a := by simp [uR]
theorem uFld_eq {C : Addr} {ta : TE} {f : Str} {σ : St} : uFld C ta f σ H Q = ta σ H fun x H1 => uR x fun a => ∃ dx fs v, H1 a = some (.ins C dx fs) ∧ fs.lookup f = some v ∧ Q v H1 := by
  unfold uFld uR
  congr; funext x H1
  apply propext
  constructor
  · rintro ⟨a, dx, fs, v, h1, h2, h3, h4⟩; exact ⟨a, h1, dx, fs, v, h2, h3, h4⟩
  · rintro ⟨a, h1, dx, fs, v, h2, h3, h4⟩; exact ⟨a, dx, fs, v, h1, h2, h3, h4⟩
theorem uSetF_eq {C : Addr} {ta tv : TE} {f : Str} {σ : St} {D : Ends} : uSetF C ta tv f D σ H = tv σ H fun y H1 => ta σ H1 fun x H2 => uR x fun a => ∃ dx fs, H2 a = some (.ins C dx fs) ∧ fs.length < 1000 ∧ D.nx σ (upd H2 a (.ins C dx (putF f y fs))) := by
  unfold uSetF uR
  congr; funext x H1; congr; funext x2 H2
  apply propext
  constructor
  · rintro ⟨a, dx, fs, h1, h2, h3, h4⟩; exact ⟨a, h1, dx, fs, h2, h3, h4⟩
  · rintro ⟨a, h1, dx, fs, h2, h3, h4⟩; exact ⟨a, dx, fs, h1, h2, h3, h4⟩
theorem tMeth_eq {C : Addr} {m : Str} {sp : Sp} {dvs : List V} {E : XK} {ta : TE} {t : TA} {σ : St} : tMeth C m sp dvs E ta t σ H Q = ta σ H fun x H1 => uR x fun a => ∃ dx fs, H1 a = some (.ins C dx fs) ∧ fs.lookup m = none ∧ t σ H1 fun vs H2 => sp (.ref a :: (vs ++ dvs)) H2 Q E := by
  unfold tMeth uR
  congr; funext x H1
  apply propext
  constructor
  · rintro ⟨a, dx, fs, rfl, h2, h3, h4⟩; exact ⟨a, rfl, dx, fs, h2, h3, h4⟩
  · rintro ⟨a, rfl, dx, fs, h2, h3, h4⟩; exact ⟨a, dx, fs, rfl, h2, h3, h4⟩
theorem tMethX_eq {C : Addr} {m : Str} {sp : Sp} {dvs : List V} {Ex : Addr → St → Hp → Prop} {ta : TE} {t : TA} {σ : St} : tMethX C m sp dvs Ex ta t σ H Q = ta σ H fun x H1 => uR x fun a => ∃ dx fs, H1 a = some (.ins C dx fs) ∧ fs.lookup m = none ∧ t σ H1 fun vs H2 => sp (.ref a :: (vs ++ dvs)) H2 Q (XE Ex σ) := by
  unfold tMethX uR
  congr; funext x H1
  apply propext
  constructor
  · rintro ⟨a, dx, fs, rfl, h2, h3, h4⟩; exact ⟨a, rfl, dx, fs, h2, h3, h4⟩
  · rintro ⟨a, rfl, dx, fs, h2, h3, h4⟩; exact ⟨a, dx, fs, rfl, h2, h3, h4⟩
end
/-! ### loops, comprehensions: by what is walked -/
section
variable {K : PySem.W.Frag} {g : TG} {tb : TS} {D : Ends} {σ : St} {H : Hp} {ta : TA} {tl : TE} {wi : TI} {R : It → Hp → Prop} {j : Int} {tt : TT} {te : TE} {ix : List (Option Nat)} {Q : VK}
def ForJ (J : It) (g : TG) (tb : TS) (D : Ends) (σ : St) (H : Hp) : Prop := ∃ W : Nat → Nat → St → Hp → Prop, (∃ m, W 0 m σ H) ∧ ∀ i m σ H, W i m σ H →
  (J.stop i H ∧ D.nx σ H) ∨ (J.go i H ∧ ∃ N : St → Hp → Prop, (∀ σ' H', N σ' H' → ∃ m', m' < m ∧ W (i + 1) m' σ' H') ∧ ∀ x H', J.yld i H x H' → g x σ H' fun σ2 H2 => tb { D with nx := N, ct := N, bk := D.nx } σ2 H2)
theorem tFor_eq : tFor wi g tb D σ H = wi σ H fun J H1 => ForJ J g tb D σ H1 := rfl
def uI1 (vs : List V) (q : Int → Prop) : Prop := ∃ j, vs = [.int j] ∧ q j
theorem uI1_i {q : Int → Prop} : uI1 [.int j] q = q j := by simp [uI1]
theorem iRng1_eq : iRng1 ta σ H R = ta σ H fun vs H1 => uI1 vs fun j => -(2 ^ 62) ≤ j ∧ j < 2 ^ 62 ∧ R (Itr 0 j.toNat) H1 := rfl
theorem iList_eq : iList K tl σ H R = tl σ H fun x H1 => uR x fun a => (∃ xs, SqL K H1 a xs) ∧ R (Itl K a) H1 := rfl
theorem iTup_eq : iTup K tl σ H R = tl σ H fun x H1 => uR x fun a => (∃ xs, SqT K H1 a xs) ∧ R (Itt K a) H1 := rfl
def uR2 (vs : List V) (q : Addr → Addr → Prop) : Prop := ∃ a b, vs = [.ref a, .ref b] ∧ q a b
theorem uR2_r {q : Addr → Addr → Prop} {a b : Addr} : uR2 [.ref a, .ref b] q = q a b := by
  apply propext
  constructor
  · rintro ⟨c, d, e, h⟩; cases e; exact h
  · exact fun h => ⟨a, b, rfl, h⟩
theorem iZip_eq : iZip K ta σ H R = ta σ H fun vs H1 => uR2 vs fun a b => (∃ xs, SqL K H1 a xs) ∧ (∃ ys, SqL K H1 b ys) ∧ R (Itz K a b) H1 := by
  unfold iZip uR2
  rfl
def CompJ (J : It) (g : TG) (tt : TT) (te : TE) (τ : St) (H : Hp) (Q : VK) : Prop := ∃ W : Nat → Nat → St → List V → Hp → Prop, (∃ m, W 0 m τ [] H) ∧ ∀ i m τ ys H2, W i m τ ys H2 → ys.length < sizeLine ∧
  ((J.stop i H2 ∧ ∀ D, H2 D = none → Q (.ref D) (upd H2 D (.lst ys))) ∨
   (J.go i H2 ∧ ∀ x H3, J.yld i H2 x H3 → g x τ H3 fun τ1 H4 => tt τ1 H4 fun ok H5 => if ok = true then te τ1 H5 fun y H6 => ∃ m', m' < m ∧ W (i + 1) m' τ1 (ys ++ [y]) H6 else ∃ m', m' < m ∧ W (i + 1) m' τ1 ys H5))
theorem tLC_eq : tLC ix wi g tt te σ H Q = wi σ H fun J H1 => CompJ J g tt te (pick ix σ) H1 Q := rfl
theorem ForJ.rng {lo : Int} {n : Nat} (Pv : Nat → St → Hp → Prop) (h0 : Pv 0 σ H)
    (hs : ∀ i σ H, i < n → Pv i σ H → g (.int (lo + i)) σ H fun σ2 H2 => tb { D with nx := Pv (i + 1), ct := Pv (i + 1), bk := D.nx } σ2 H2) (hd : ∀ σ H, Pv n σ H → D.nx σ H) : ForJ (Itr lo n) g tb D σ H := for_range Pv h0 hs hd
theorem ForJ.lst {a : Addr} {xs : List V} (Pv : Nat → St → Hp → Prop) (h0 : Pv 0 σ H) (hl : ∀ i σ H, i ≤ xs.length → Pv i σ H → SqL K H a xs)
    (hs : ∀ i x σ H, xs[i]? = some x → Pv i σ H → g x σ H fun σ2 H2 => tb { D with nx := Pv (i + 1), ct := Pv (i + 1), bk := D.nx } σ2 H2) (hd : ∀ σ H, Pv xs.length σ H → D.nx σ H) : ForJ (Itl K a) g tb D σ H := for_list Pv h0 hl hs hd
/-- what a turn of a comprehension is to reach -/
def CompN (N : St → List V → Hp → Prop) (ys : List V) (τ1 : St) (te : TE) (ok : Bool) (H5 : Hp) : Prop := if ok = true then te τ1 H5 fun y H6 => N τ1 (ys ++ [y]) H6 else N τ1 ys H5
theorem CompN_t {N : St → List V → Hp → Prop} {ys : List V} {τ : St} : CompN N ys τ te true H = te τ H fun y H6 => N τ (ys ++ [y]) H6 := rfl
theorem CompN_f {N : St → List V → Hp → Prop} {ys : List V} {τ : St} : CompN N ys τ te false H = N τ ys H := rfl
theorem CompJ.rng {lo : Int} {n : Nat} {τ : St} (Pv : Nat → St → List V → Hp → Prop) (hz : ∀ i τ ys H, Pv i τ ys H → ys.length < sizeLine) (h0 : Pv 0 τ [] H)
    (hs : ∀ (N : St → List V → Hp → Prop) i τ ys H, i < n → Pv i τ ys H → (∀ τ ys H, Pv (i + 1) τ ys H → N τ ys H) → g (.int (lo + i)) τ H fun τ1 H4 => tt τ1 H4 fun ok H5 => CompN N ys τ1 te ok H5) (hd : ∀ τ ys H, Pv n τ ys H → ∀ D H', New H D (.lst ys) H' → Q (.ref D) H') : CompJ (Itr lo n) g tt te τ H Q := by
  refine ⟨fun i m τ ys H => m = n - i ∧ i ≤ n ∧ Pv i τ ys H, ⟨n, by simp, Nat.zero_le _, h0⟩, ?_⟩
  rintro i m τ ys H2 ⟨rfl, hi, p⟩
  refine ⟨hz i τ ys H2 p, ?_⟩
  by_cases hlt : i < n
  · refine .inr ⟨hlt, fun x H' y => ?_⟩
    obtain ⟨e, y⟩ := y
    subst e y
    exact hs (fun τ1 ys H => ∃ m', m' < n - i ∧ m' = n - (i + 1) ∧ i + 1 ≤ n ∧ Pv (i + 1) τ1 ys H) i τ ys _ hlt p fun τ1 zs H q => ⟨n - (i + 1), by omega, rfl, hlt, q⟩
  · have e : i = n := by omega
    subst e
    exact .inl ⟨Nat.le_refl _, fun D hD => hd τ ys H2 p D _ (.mk' hD)⟩
/-- a comprehension over two lists -/
theorem CompJ.zip {a b : Addr} {xs ys : List V} {τ : St} (hlen : xs.length = ys.length) (Pv : Nat → St → List V → Hp → Prop) (hz : ∀ i τ zs H, Pv i τ zs H → zs.length < sizeLine) (ha : ∀ i τ zs H, Pv i τ zs H → SqL K H a xs ∧ SqL K H b ys) (h0 : Pv 0 τ [] H)
    (hs : ∀ (N : St → List V → Hp → Prop) i x y p τ zs H, xs[i]? = some x → ys[i]? = some y → Pv i τ zs H → H p = none → (∀ τ zs H, Pv (i + 1) τ zs H → N τ zs H) → g (.ref p) τ (upd H p (.tup [x, y])) fun τ1 H4 => tt τ1 H4 fun ok H5 => CompN N zs τ1 te ok H5) (hd : ∀ τ zs H, Pv xs.length τ zs H → ∀ D H', New H D (.lst zs) H' → Q (.ref D) H') : CompJ (Itz K a b) g tt te τ H Q := by
  refine ⟨fun i m τ zs H => m = xs.length - i ∧ i ≤ xs.length ∧ Pv i τ zs H, ⟨xs.length, by simp, Nat.zero_le _, h0⟩, ?_⟩
  rintro i m τ zs H2 ⟨rfl, hi, p⟩
  refine ⟨hz i τ zs H2 p, ?_⟩
  obtain ⟨qa, qb⟩ := ha i τ zs H2 p
  by_cases hlt : i < xs.length
  · refine .inr ⟨⟨xs, ys, xs[i], ys[i]'(by omega), qa, qb, List.getElem?_eq_getElem hlt, List.getElem?_eq_getElem _⟩, fun v H' y => ?_⟩
    obtain ⟨T, x, y, hT, rfl, rfl, hx, hy⟩ := y
    exact hs (fun τ1 ys H => ∃ m', m' < xs.length - i ∧ m' = xs.length - (i + 1) ∧ i + 1 ≤ xs.length ∧ Pv (i + 1) τ1 ys H) i x y T τ zs _ (hx _ qa) (hy _ qb) p hT fun τ1 zs H q => ⟨xs.length - (i + 1), by omega, rfl, hlt, q⟩
  · have e : i = xs.length := by omega
    subst e
    exact .inl ⟨⟨xs, ys, qa, qb, Nat.le_refl _⟩, fun D hD => hd τ zs H2 p D _ (.mk' hD)⟩
end
end L2
set_option Elab.async false
set_option linter.all false
set_option maxRecDepth 100000
set_option maxHeartbeats 4000000
namespace L2
open PySem PySem.Spec PyProof.Rows
section
variable {X : Cx}
/-! ### texts: slices, join, repeated -/
def rSlS : V → Option Int → Option Int → Hp → VK → Prop := fun x lo hi H Q => ∃ z, x = .str z ∧ z.length ≤ sizeLine ∧ Q (.str (Txt.slice z lo hi)) H
theorem isSlice_of {h : Heap} {sl : Addr} {vl vu : Value} {lo hi : Option Int} (hs : h.IsSliceOf sl vl vu .none) (pl : IsPart vl lo) (pu : IsPart vu hi) : ∃ l u : Option (Int × Tok), h.IsSlice sl l u none ∧ l.map (·.1) = lo ∧ u.map (·.1) = hi := by
  obtain ⟨o, h1, h2, h3⟩ := hs
  cases pl with
  | none =>
    cases pu with
    | none => exact ⟨none, none, ⟨o, h1, h2, h3⟩, rfl, rfl⟩
    | int j t => exact ⟨none, some (j, t), ⟨o, h1, h2, h3⟩, rfl, rfl⟩
  | int i t' =>
    cases pu with
    | none => exact ⟨some (i, t'), none, ⟨o, h1, h2, h3⟩, rfl, rfl⟩
    | int j t => exact ⟨some (i, t'), some (j, t), ⟨o, h1, h2, h3⟩, rfl, rfl⟩
theorem sl_str : SlR X rSlS := by
  intro pins s σ H x v vl vu lo hi sl Q I rx hs pl pu h
  obtain ⟨z, rfl, hz, q⟩ := h
  obtain ⟨t, rfl⟩ := rx
  obtain ⟨l, u, hS, e1, e2⟩ := isSlice_of hs pl pu
  subst e1 e2
  exact ⟨"str", _, F.slot_str_getitem.lookup, typeIs_str _ _ _, wpAny_getItem_str_slice (l := l) (u := u) (st := none) hS rfl
    (post_val_or_str ⟨Nat.le_trans (Txt.slice_le z _ _) hz, fun t' k => ⟨.str _, H, I.tok k, ⟨_, rfl⟩, q⟩⟩)⟩
def uSl : V → Option Int → Option Int → Hp → VK → Prop := fun x lo hi H Q => (∃ a xs, x = .ref a ∧ H a = some (.lst xs) ∧ ∀ p H2, New H p (.lst (cutV xs lo hi)) H2 → Q (.ref p) H2) ∨ rSlS x lo hi H Q
theorem SlR.weak {r r' : V → Option Int → Option Int → Hp → VK → Prop} (h : SlR X r) (hw : ∀ x l u H Q, r' x l u H Q → r x l u H Q) : SlR X r' :=
  fun pins s σ H x v vl vu lo hi sl Q I rx hs pl pu q => h pins s σ H x v vl vu lo hi sl Q I rx hs pl pu (hw _ _ _ _ _ q)
theorem sl_U : SlR X uSl := ((sl_list (X := X)).or sl_str).weak fun x l u H Q h => by
  rcases h with ⟨a, xs, e, h, q⟩ | h
  · exact .inl ⟨a, xs, e, SqL.of h, fun p hp => q p _ (.mk' hp)⟩
  · exact .inr h
/-- a slice's part as a reading -/
def uPart (v : V) (q : Int → Prop) : Prop := ∃ i, v = .int i ∧ q i
theorem uPart_i {i : Int} {q : Int → Prop} : uPart (.int i) q = q i := by simp [uPart]
theorem tPart_eq {t : TE} {σ : St} {H : Hp} {Q : Option Int → Hp → Prop} : tPart t σ H Q = t σ H fun x H1 => uPart x fun i => Q (some i) H1 := rfl
theorem uSl_s {z : Str} {lo hi : Option Int} {H : Hp} {Q : VK} : uSl (.str z) lo hi H Q = (z.length ≤ sizeLine ∧ Q (.str (Txt.slice z lo hi)) H) := by simp [uSl, rSlS]
theorem uSl_r {a : Addr} {lo hi : Option Int} {H : Hp} {Q : VK} : uSl (.ref a) lo hi H Q = ∃ xs, H a = some (.lst xs) ∧ ∀ p H2, New H p (.lst (cutV xs lo hi)) H2 → Q (.ref p) H2 := by simp [uSl, rSlS]
/-- x.join(list of texts) -/
theorem strsAre_of {ys : List Str} : ∀ {us : List Value}, Vals (ys.map V.str) us → StrsAre us ys := by
  induction ys with
  | nil => intro us r; rw [List.map_nil] at r; cases r; exact .nil
  | cons n ns ih =>
    intro us r
    rw [List.map_cons] at r
    cases r with
    | cons r1 r2 =>
      obtain ⟨t, e⟩ := r1
      subst e
      exact .cons n t (ih r2)
def rJoin : V → List V → Hp → VK → Prop := fun x vs H Q => ∃ z p ys, x = .str z ∧ vs = [.ref p] ∧ H p = some (.lst (ys.map V.str)) ∧ (ys.map (·.length)).sum + ys.length * z.length ≤ 16777216 ∧ Q (.str (Txt.join z ys)) H
theorem mt_join : MtR X "str.join" rJoin := by
  intro pins s σ H x xs v us Q I rx rs h
  obtain ⟨z, p, ys, rfl, rfl, hp, hz, q⟩ := h
  obtain ⟨t, rfl⟩ := rx
  cases rs with
  | cons r1 rr =>
    cases rr
    cases (show _ = Value.ref p from r1)
    obtain ⟨its, r, ht, _⟩ := I.list (SqL.of (K := X.K) hp)
    exact join_list ht.isList (by simpa using strsAre_of r) hz fun t' k => ⟨.str _, H, I.tok k, ⟨_, rfl⟩, q⟩
/-- text * n -/
def repS (z : Str) (n : Nat) : Str := ⟨((List.replicate n z.cps.toList).flatten).toArray⟩
theorem foldl_repN {α : Type} (l : List α) : ∀ (n : Nat) (acc : List α), List.foldl (fun x1 x2 : Array α => x1 ++ x2) acc.toArray (List.replicate n l.toArray) = (acc ++ (List.replicate n l).flatten).toArray
  | 0, acc => by simp
  | n + 1, acc => by
    rw [List.replicate_succ, List.foldl_cons, List.append_toArray, foldl_repN l n (acc ++ l)]
    simp [List.replicate_succ]
theorem repS_eq (z : Str) (n : Nat) : (⟨(List.replicate n z.cps).foldl (· ++ ·) #[]⟩ : Str) = repS z n := by
  have h := foldl_repN z.cps.toList n []
  unfold repS
  congr 1
theorem flat_len {α : Type} (l : List α) : ∀ n : Nat, ((List.replicate n l).flatten).length = l.length * n
  | 0 => by simp
  | n + 1 => by rw [List.replicate_succ, List.flatten_cons, List.length_append, flat_len l n, Nat.mul_succ]; omega
theorem repS_len (z : Str) (n : Nat) : (repS z n).length = z.length * n := by
  show (((List.replicate n z.cps.toList).flatten).toArray).size = _
  rw [List.size_toArray, flat_len]
  rfl
def rRepS : R2 := fun x y H Q => ∃ z n, x = .str z ∧ y = .int n ∧ 1 < n ∧ n < 2 ^ 31 ∧ z.length ≠ 0 ∧ z.length * n.toNat ≤ sizeLine ∧ Q (.str (repS z n.toNat)) H
theorem op_repS : OpR X (binaryOp .Mult) rRepS := by
  intro pins s σ H x y v u Q I rx ry h
  obtain ⟨z, n, rfl, rfl, h1, h2, h3, h4, q⟩ := h
  obtain ⟨t, rfl⟩ := rx
  obtain ⟨t', rfl⟩ := ry
  have hs : sizeLine = 16777216 := sizeLine_eq
  have hc : (n == 1 || z.length == 0) = false := by
    rw [Bool.or_eq_false_iff]
    exact ⟨beq_eq_false_iff_ne.mpr (by omega), beq_eq_false_iff_ne.mpr h3⟩
  have hz : z.length ≤ 16777216 := by
    have : z.length * 1 ≤ z.length * n.toNat := Nat.mul_le_mul_left _ (by omega)
    omega
  refine PySem.P.mul_str ?_ ?_ ?_ ?_
  · rw [decide_eq_false (show ¬ n < -(2 ^ 63 : Int) by omega), decide_eq_false (show ¬ n ≥ 2 ^ 63 by omega)]; rfl
  · intro _ _ hgt
    have : (16777216 : Int) ≤ (2 ^ 63 - 1) / n := Int.le_ediv_of_mul_le (by omega) (by omega)
    omega
  · intro _ _
    exact decide_eq_false (by omega)
  · rw [if_neg (show ¬ n < 1 by omega), if_neg (by rw [hc]; exact Bool.false_ne_true), repS_eq]
    exact ⟨by rw [repS_len]; omega, ⟨.str _, H, I.tok _, ⟨_, rfl⟩, q⟩⟩
/-! ### lists: clear, list(..), items set -/
theorem rSetL_r {p : Addr} {k : Int} {v : V} {H : Hp} {Q : Hp → Prop} : rSetL (.ref p) (.int k) v H Q = ∃ xs j, H p = some (.lst xs) ∧ ixN xs.length k = some j ∧ Q (upd H p (.lst (xs.set j v))) := by
  apply propext; constructor
  · rintro ⟨p', xs, k', j, e1, e2, h⟩; cases e1; cases e2; exact ⟨xs, j, h⟩
  · rintro ⟨xs, j, h⟩; exact ⟨p, xs, k, j, rfl, rfl, h⟩
def uListOf : List V → Hp → VK → Prop := fun xs H Q => ∃ p ys, xs = [.ref p] ∧ (H p = some (.lst ys) ∨ H p = some (.tup ys)) ∧ ∀ l H2, New H l (.lst ys) H2 → Q (.ref l) H2
theorem call_listU : CallR X (.type "list") uListOf := call_list_of.weak fun xs H Q h => by
  obtain ⟨p, ys, e, h1, q⟩ := h
  exact ⟨p, ys, e, h1.elim (fun h => .inl (SqL.of h)) (fun h => .inr (SqT.of h)), fun l hl => q l _ (.mk' hl)⟩
theorem uListOf_r {a : Addr} {H : Hp} {Q : VK} : uListOf [.ref a] H Q = ∃ ys, (H a = some (.lst ys) ∨ H a = some (.tup ys)) ∧ ∀ l H2, New H l (.lst ys) H2 → Q (.ref l) H2 := by
  apply propext; constructor
  · rintro ⟨p, ys, e, h⟩; cases e; exact ⟨ys, h⟩
  · rintro ⟨ys, h⟩; exact ⟨a, ys, rfl, h⟩
/-- xs.clear() -/
def uClear (to : TE) : TE := fun σ H Q => to σ H fun x H1 => uR x fun l => ∃ xs, H1 l = some (.lst xs) ∧ Q .non (upd H1 l (.lst []))
theorem pe_clear {o : Expr} {to : TE} {apos cpos : Pos} (ho : PE X o to) (hbase : attributeBase o "clear" X.env (eval o X.env) = eval o X.env := by rfl) (hline : (apos.endLine == cpos.line) = true := by rfl) : PE X (.Call (.Attribute o "clear" apos) [] [] cpos) (uClear to) := by
  intro pins s σ H Q I h
  refine wpAny_Call_method0_late hbase hline (thn (ho pins s σ H _ I h) fun v s1 ⟨x, H1, I1, r1, l, ex, xs, hx, q1⟩ => ?_)
  subst ex
  obtain ⟨h1, h2⟩ := tyV_is (T := "list") I1 r1 (.inl ⟨rfl, xs, SqL.of hx⟩)
  exact ⟨"list", "list.clear", PySem.F.plainAttrs_list, PySem.F.slot_list_clear, PySem.F.type_list_clear, h1, h2, Calls.callWith_builtin rfl (PySem.evalArgs_none (mt_clear pins s1 σ H1 (.ref l) [] v [] Q I1 r1 .nil ⟨l, xs, rfl, rfl, hx, q1⟩))⟩
theorem rJoin_sr {z : Str} {p : Addr} {H : Hp} {Q : VK} : rJoin (.str z) [.ref p] H Q = ∃ ys : List Str, H p = some (.lst (ys.map V.str)) ∧ (ys.map (·.length)).sum + ys.length * z.length ≤ 16777216 ∧ Q (.str (Txt.join z ys)) H := by
  apply propext; constructor
  · rintro ⟨z', p', ys, e1, e2, h⟩; cases e1; cases e2; exact ⟨ys, h⟩
  · rintro ⟨ys, h⟩; exact ⟨z, p, ys, rfl, rfl, h⟩
end
end L2
set_option Elab.async false
set_option linter.all false
set_option maxRecDepth 100000
set_option maxHeartbeats 4000000
namespace L2
open PySem PySem.Spec PyProof.Rows
/-! ### for i, x in enumerate(list) -/
def Ite (K : PySem.W.Frag) (a : Addr) : It :=
  ⟨fun i H => ∃ xs x, SqL K H a xs ∧ xs[i]? = some x, fun i H v H' => ∃ T x, H T = none ∧ v = .ref T ∧ H' = upd H T (.tup [.int i, x]) ∧ ∀ xs, SqL K H a xs → xs[i]? = some x, fun i H => ∃ xs, SqL K H a xs ∧ xs.length ≤ i⟩
structure EnumSt (e it l : Addr) (i : Nat) (h : Heap) : Prop where
  z : ∃ old, IsEnum h e it i old
  a : h.IsListIter it l i
theorem turn_enum {P : Program} {w : World} {K : PySem.W.Frag} {elts : List Expr} {kk : Nat} {tp : Pos} {l e it : Addr} (hne : e ≠ it) :
    Turn true P w K (.Tuple elts kk tp) (Ite K l) [e, it] e (EnumSt e it l) where
  mem := by simp
  obj := fun i h st b hb => by
    obtain ⟨⟨old, a1⟩, ⟨o4, a4, _, d4⟩⟩ := st
    simp only [List.mem_cons, List.not_mem_nil, or_false] at hb
    rcases hb with rfl | rfl
    · exact ⟨_, a1, fun v q => nomatch q⟩
    · exact ⟨_, a4, fun v q => by rw [d4] at q; cases q⟩
  keep := fun i h h' st k => by
    obtain ⟨⟨old, a1⟩, a4⟩ := st
    exact ⟨⟨old, k _ (by simp) _ a1⟩, a4.at fun o e => k _ (by simp) o e⟩
  item := by
    intro X hP hw hK hc i pins s σ H E I hf st hg
    subst hP hw hK
    obtain ⟨xs, x, hq1, hx⟩ := hg
    obtain ⟨is1, rv1, p1, hz1⟩ := I.list hq1
    obtain ⟨u1, hu1, ru1⟩ := rv1.get hx
    obtain ⟨⟨old, a1⟩, a4⟩ := st
    refine wpAny_pyNext_enum_item a1 a4 p1.isList (x := u1) (by simpa using hu1) hne fun h' b1 b2 b3 b4 b5 => ?_
    refine ⟨_, rfl, wpAny_letOwnedTupleGo_enum (s := { s with heap := h', toks := s.toks + 1 }) b1 fun h2 c1 c2 => ?_⟩
    have zlt : e < s.heap.objs.size := Heap.lt_size a1
    have nz : s.heap.objs.size ≠ e := Nat.ne_of_gt zlt
    have all : ∀ c o, c ≠ e → c ≠ it → s.heap.get? c = some o → h2.get? c = some o := fun c o n1 n2 q => c2.extBut c o n1 (b5 c o n1 n2 q)
    have tT : h2.get? s.heap.objs.size = some { cls := .type "tuple", data := .seq #[.int i s.toks, u1] } := c2.extBut _ _ nz b3
    have hfr : H s.heap.objs.size = none := I.hok.fresh (Nat.le_refl _)
    have hok0 : HOk X.prog X.w H h2 := fun b u q0 => by
      refine (I.hok b u q0).stay (fun c v hc q => ?_) (fun _ q => q) fun _ _ q => q
      have hnn : ∀ d ∈ [e, it], c ≠ d := fun d hd w => by
        have fd := (hf d hd).1
        rcases hc with k | k
        · rw [k] at w; rw [w, fd] at q0; cases q0
        · rw [w, fd] at k; cases k
      exact all c v (hnn e (by simp)) (hnn it (by simp)) q
    have lt0 : ∀ b o, s.heap.get? b = some o → b ≠ s.heap.objs.size := fun b o e => Nat.ne_of_lt (Heap.lt_size e)
    have I2 : Inv X pins σ (upd H s.heap.objs.size (.tup [.int i, x])) { s with heap := h2, toks := s.toks + 1 } := by
      refine I.step (g' := s.gens) (d' := s.drawn) (t' := s.toks + 1) (ch := [e, it]) (fun b hb => ?_) (fun b o _ _ hb q _ => ?_) (fun b o _ _ hb q _ => ?_) (fun b o _ q n => ?_) (fun b o hb q => ?_) (fun b ps q => ?_) (fun b o u q => ?_) (fun b ps q => ?_) (fun m hm => ?_) (hok0.add hfr ?_) I.bare
      · obtain ⟨f0, f1, f2, f3, f4, f5⟩ := hf b hb
        exact ⟨f3, f1, f4, f5⟩
      · simp only [List.mem_cons, List.not_mem_nil, or_false, not_or] at hb
        exact all b o hb.1 hb.2 q
      · simp only [List.mem_cons, List.not_mem_nil, or_false, not_or] at hb
        exact ⟨o.slots, all b o hb.1 hb.2 q⟩
      · rw [upd_ne (lt0 b o q)]; exact n
      · simp only [List.mem_cons, List.not_mem_nil, or_false, not_or] at hb
        exact ⟨o, all b o hb.1 hb.2 q⟩
      · rw [upd_ne (ne_of_none q hfr)]; exact q
      · rw [upd_ne (ne_of_none q hfr)]; exact q
      · exact ⟨#[], by rw [upd_ne (ne_of_none q hfr), q]; simp⟩
      · obtain ⟨o, es, ep, ho, r⟩ := hm
        exact ⟨o, es, ep, all _ o (Ne.symm (hf e (by simp)).2.1) (Ne.symm (hf it (by simp)).2.1) ho, r⟩
      · exact ⟨by show 2 ≤ sizeLine; decide, [.int i s.toks, u1], .cons ⟨_, rfl⟩ (.cons ru1 .nil), ⟨_, tT, rfl, _, rfl⟩⟩
    refine ⟨.ref s.heap.objs.size, _, I2, rfl, ⟨_, x, hfr, rfl, rfl, fun zs hz => by rw [I.list_inj hz hq1]; exact hx⟩, ?_, fun b hb => ?_⟩
    · exact ⟨⟨_, c1⟩, b2.extBut c2.extBut (Ne.symm hne)⟩
    · have ne : b ≠ s.heap.objs.size := fun q => by
        have : b < s.heap.objs.size := by
          simp only [List.mem_cons, List.not_mem_nil, or_false] at hb
          obtain ⟨o4, a4, _⟩ := a4
          rcases hb with rfl | rfl
          · exact zlt
          · exact Heap.lt_size a4
        exact absurd (q ▸ this) (Nat.lt_irrefl _)
      rw [upd_ne ne]
      exact (hf b hb).1
  done := by
    intro X hP hw hK hc i pins s σ H E I hf st hg
    subst hP hw hK
    obtain ⟨xs, hq1, hx⟩ := hg
    obtain ⟨is1, rv1, p1, hz1⟩ := I.list hq1
    have hl := rv1.length
    obtain ⟨⟨old, a1⟩, a4⟩ := st
    refine wpAny_pyNext_enum_end (I.ok.hd (hc rfl)) a1 a4 p1.isList (by simp; omega) fun h' up => ⟨rfl, ?_⟩
    refine I.step (g' := s.gens) (d' := s.drawn) (t' := s.toks) (ch := [it]) (fun b hb => ?_) (fun b o _ _ hb q _ => ?_) (fun b o _ _ hb q _ => ?_) (fun _ _ _ _ n => n) (fun b o hb q => ?_) (fun _ _ q => q) (fun _ _ _ q => q) (fun b ps q => ⟨#[], by rw [q]; simp⟩) (fun m hm => ?_) (fun b u q0 => ?_) I.bare
    · have hb' : b ∈ [e, it] := by simp only [List.mem_cons, List.not_mem_nil, or_false] at hb ⊢; exact .inr hb
      obtain ⟨f0, f1, f2, f3, f4, f5⟩ := hf b hb'
      exact ⟨f3, f1, f4, f5⟩
    · simp only [List.mem_cons, List.not_mem_nil, or_false] at hb
      exact up b o hb q
    · simp only [List.mem_cons, List.not_mem_nil, or_false] at hb
      exact ⟨o.slots, up b o hb q⟩
    · simp only [List.mem_cons, List.not_mem_nil, or_false] at hb
      exact ⟨o, up b o hb q⟩
    · obtain ⟨o, es, ep, ho, r⟩ := hm
      exact ⟨o, es, ep, up _ o (Ne.symm (hf it (by simp)).2.1) ho, r⟩
    · refine (I.hok b u q0).stay (fun c v hc q => ?_) (fun _ q => q) fun _ _ q => q
      have hnn : c ≠ it := fun w => by
        have fd := (hf it (by simp)).1
        rcases hc with k | k
        · rw [k] at w; rw [w, fd] at q0; cases q0
        · rw [w, fd] at k; cases k
      exact up c v hnn q
  self := fun _ _ _ _ _ st h => by
    obtain ⟨old, a1⟩ := st.z
    exact wpAny_pyIter_enum a1 h
section
variable {X : Cx}
def iEnum (K : PySem.W.Frag) (ta : TA) : TI := fun σ H R => ta σ H fun vs H1 => ∃ a, vs = [.ref a] ∧ (∃ xs, SqL K H1 a xs) ∧ R (Ite K a) H1
theorem pi_enumL {elts : List Expr} {kk : Nat} {tp p pos : Pos} {a : Expr} {ta : TA} (hg : Gl X "enumerate") (hm : X.mg "enumerate" = none) (ha : PA X [a] ta) (hp : plainE a = true := by rfl) :
    PIc true X (.Tuple elts kk tp) (.Call (.Name "enumerate" p) [a] [] pos) (iEnum X.K ta) := by
  intro pins s σ H R I h
  have hs : starEach [a] X.env = [(false, eval a X.env)] := star1 hp
  refine Call_ (ld_blt I hg hm boot_enumerate (PyProof.Rows.callWith_type1 (thn (ha pos pins s σ H _ I h) fun us s1 ⟨vs, H1, I1, r1, q1⟩ => ?_) hs rfl))
  obtain ⟨l1, e, ⟨xs, h1⟩, q⟩ := q1
  subst e
  cases r1 with
  | cons r rr =>
    cases rr
    cases (show _ = Value.ref l1 from r)
    obtain ⟨is1, rv1, p1, _⟩ := I1.list h1
    refine call_enumerate_list p1.isList fun h' a1 a4 a6 a7 => wpAny_pyIter_enum (s := { s1 with heap := h' }) a1 ?_
    refine ⟨_, _, _, _, H1, rfl, I1.kept (t' := s1.toks) a7, turn_enum (Nat.succ_ne_self _), ⟨⟨_, a1⟩, a4⟩, fun b hb => ?_, q⟩
    have le : s1.heap.objs.size ≤ b := by
      simp only [List.mem_cons, List.not_mem_nil, or_false] at hb
      rcases hb with rfl | rfl <;> omega
    exact I1.fpOk le (I1.hok.fresh le)
end
section
variable {K : PySem.W.Frag} {g : TG} {tb : TS} {D : Ends} {σ : St} {H : Hp} {ta : TA} {R : It → Hp → Prop}
def uR1 (vs : List V) (q : Addr → Prop) : Prop := ∃ a, vs = [.ref a] ∧ q a
theorem uR1_r {q : Addr → Prop} {a : Addr} : uR1 [.ref a] q = q a := by
  apply propext; constructor
  · rintro ⟨c, e, h⟩; cases e; exact h
  · exact fun h => ⟨a, rfl, h⟩
theorem iEnum_eq : iEnum K ta σ H R = ta σ H fun vs H1 => uR1 vs fun a => (∃ xs, SqL K H1 a xs) ∧ R (Ite K a) H1 := rfl
/-- for i, x in enumerate(a list that stays) -/
theorem ForJ.enum {a : Addr} {xs : List V} (Pv : Nat → St → Hp → Prop) (h0 : Pv 0 σ H) (hl : ∀ i σ H, i ≤ xs.length → Pv i σ H → SqL K H a xs)
    (hs : ∀ i x p σ H, xs[i]? = some x → Pv i σ H → H p = none → g (.ref p) σ (upd H p (.tup [.int i, x])) fun σ2 H2 => tb { D with nx := Pv (i + 1), ct := Pv (i + 1), bk := D.nx } σ2 H2) (hd : ∀ σ H, Pv xs.length σ H → D.nx σ H) : ForJ (Ite K a) g tb D σ H := by
  refine ⟨fun i m σ H => m = xs.length - i ∧ i ≤ xs.length ∧ Pv i σ H, ⟨xs.length, by simp, Nat.zero_le _, h0⟩, ?_⟩
  rintro i m σ H ⟨rfl, hi, p⟩
  have q := hl i σ H hi p
  by_cases hlt : i < xs.length
  · refine .inr ⟨⟨xs, xs[i], q, by simp [hlt]⟩, Pv (i + 1), fun σ' H' p' => ⟨xs.length - (i + 1), by omega, rfl, hlt, p'⟩, fun x H' y => ?_⟩
    obtain ⟨T, z, hT, rfl, rfl, hz⟩ := y
    exact hs i z T σ _ (hz xs q) p hT
  · have e : i = xs.length := by omega
    subst e
    exact .inl ⟨⟨xs, q, Nat.le_refl _⟩, hd σ H p⟩
end
end L2
set_option Elab.async false
set_option linter.all false
set_option maxRecDepth 100000
set_option maxHeartbeats 4000000
namespace L2
open PySem PySem.Spec PyProof.Rows
section
variable {X : Cx}
/-- o.f op= value where the class is known -/
def uAugF (C : Addr) (ta tv : TE) (rd : V → V → Hp → VK → Prop) (f : Str) : TS := fun D σ H => ta σ H fun x H1 => uR x fun a => ∃ dx fs v, H1 a = some (.ins C dx fs) ∧ fs.lookup f = some v ∧
  tv σ H1 fun y H2 => rd v y H2 fun z H3 => ∃ dx' fs', H3 a = some (.ins C dx' fs') ∧ fs'.length < 1000 ∧ D.nx σ (upd H3 a (.ins C dx' (putF f z fs')))
theorem ps_augFU {C : Addr} {o value : Expr} {f : Str} {tpos pos : Pos} {ta tv : TE} {op : Operator} {rd : V → V → Hp → VK → Prop} (c : Cls X.K C) (n : NoAttr X.K C f) (ha : PE X o ta) (hv : PE X value tv) (hop : InOp X op rd) : PS X (.AugAssign (.Attribute o f tpos) op value pos) (uAugF C ta tv rd f) := by
  intro pins s σ H D I h
  refine wpAny_AugAssign_AttributeAny (thn (ha pins s σ H _ I h) fun ov s1 ⟨x, H1, I1, rx, a, ex, dx, fs, v, ea, l, q⟩ => ?_)
  subst ex
  obtain rfl : ov = Value.ref a := rx
  refine getattr_ok I1 ea c n l fun u s2 I2 ru => thn (hv pins s2 σ H1 _ I2 q) fun w3 s3 ⟨y, H2, I3, ry, q3⟩ => thn (hop pins s3 σ H2 v y u w3 _ I3 ru ry q3) fun w4 s4 ⟨z, H3, I4, rz, dx', fs', ea', l', q4⟩ => ?_
  exact setattr_ok I4 ea' c n l' rz fun s5 I5 => ⟨σ, _, I5, q4⟩
theorem rAdd_ii {i j : Int} {H : Hp} {Q : VK} : rAdd (.int i) (.int j) H Q = Q (.int (i + j)) H := by simp [rAdd]
theorem rSub_ii {i j : Int} {H : Hp} {Q : VK} : rSub (.int i) (.int j) H Q = Q (.int (i - j)) H := by simp [rSub]
theorem pe_g0 {cm : Bool} {k j : Nat} {x : Str} {ps : List Str} {sp : Sp} {p pos : Pos} (G : GF X.prog X.w X.K X.mg X.base cm j x ps sp) (hr : Room cm k X.A) (hg : Gl X x) (hj : j ≤ k := by decide) (hdb : (x == ("__debug__" : Str)) = false := by decide) : PE X (.Call (.Name x p) [] [] pos) (tCall sp [] E0 tNil) := by
  obtain ⟨f, fd, F, hm, hk, hb⟩ := G.ex
  exact pe_call0 F (hr.mono hj) hg hm hk hb .nil pass0 hdb
/-- is, is not None -/
def uIsN (neg : Bool) : R2 := fun x y H Q => y = .non ∧ Q (.bl (if neg then !decide (x = .non) else decide (x = .non))) H
theorem op_isnU : OpR X (compareOp .IsNot) (uIsN true) := op_notN.weak fun x y H Q h => ⟨h.1, by simpa using h.2⟩
theorem uIsN_n {c : Bool} {H : Hp} {Q : VK} : uIsN c .non .non H Q = Q (.bl (if c then false else true)) H := by simp [uIsN]
theorem uIsN_i {c : Bool} {i : Int} {H : Hp} {Q : VK} : uIsN c (.int i) .non H Q = Q (.bl (if c then true else false)) H := by simp [uIsN]
/-- == of two values that are one -/
theorem uEq_same {c : Bool} {v : V} {H : Hp} {Q : VK} (hv : scal v v = true) : uEq c v v H Q = Q (.bl (if c then false else true)) H := by
  apply propext; constructor
  · rintro (⟨_, q⟩ | ⟨a, b, xs, ys, e, _⟩)
    · simpa using q
    · subst e; cases hv
  · exact fun q => .inl ⟨hv, by simpa using q⟩
/-- text * n beside the rest -/
def uMulS : R2 := fun x y H Q => uMul x y H Q ∨ rRepS x y H Q
theorem op_mulS : OpR X (binaryOp .Mult) uMulS := op_mulU.or op_repS
theorem uMulS_ii {i j : Int} {H : Hp} {Q : VK} : uMulS (.int i) (.int j) H Q = (CMul i j ∧ Q (.int (i * j)) H) := by simp [uMulS, uMul_ii, rRepS]
theorem uMulS_ri {a : Addr} {i : Int} {H : Hp} {Q : VK} : uMulS (.ref a) (.int i) H Q = uMul (.ref a) (.int i) H Q := by simp [uMulS, rRepS]
theorem uMulS_si {z : Str} {i : Int} {H : Hp} {Q : VK} : uMulS (.str z) (.int i) H Q = (1 < i ∧ i < 2 ^ 31 ∧ z.length ≠ 0 ∧ z.length * i.toNat ≤ sizeLine ∧ Q (.str (repS z i.toNat)) H) := by
  simp [uMulS, uMul, rRepS]
/-- x.join(e) -/
def uS (v : V) (q : Str → Prop) : Prop := ∃ z, v = .str z ∧ q z
theorem uS_s {z : Str} {q : Str → Prop} : uS (.str z) q = q z := by simp [uS]
def uJoinE (to te : TE) : TE := fun σ H Q => to σ H fun x H1 => uS x fun z => te σ H1 fun y H2 => rJoin (.str z) [y] H2 Q
theorem pe_b_join {o e : Expr} {to te : TE} {apos cpos : Pos} (ho : PE X o to) (he : PE X e te) (hbase : attributeBase o "join" X.env (eval o X.env) = eval o X.env := by rfl) (hline : (apos.endLine == cpos.line) = true := by rfl) (hp : plainE e = true := by rfl) :
    PE X (.Call (.Attribute o "join" apos) [e] [] cpos) (uJoinE to te) := by
  intro pins s σ H Q I h
  have hs : starEach [e] X.env = [(false, eval e X.env)] := star1 hp
  refine wpAny_Call_method_late hbase (by rw [hs]; rfl) hline rfl (thn (ho pins s σ H _ I h) fun v s1 ⟨x, H1, I1, r1, z, ex, q1⟩ => ?_)
  subst ex
  obtain ⟨h1, h2⟩ := tyV_is (T := "str") I1 r1 rfl
  refine ⟨"str", "str.join", PySem.F.plainAttrs_str, PySem.F.slot_str_join, PySem.F.type_str_join, h1, h2, ?_⟩
  rw [hs]
  refine Calls.callWith_builtin rfl (Calls.evalArgs_plain ?_)
  have hA := pa_cons he pa_nil (hs := hs) cpos pins s1 σ H1 (fun ys H2 => match ys with | [y] => rJoin (.str z) [y] H2 Q | _ => False) I1 q1
  rw [hs] at hA
  refine thn hA fun us s2 ⟨vs, H2, I2, r2, q2⟩ => ?_
  match vs, q2, r2 with
  | [y], q2, r2 => exact mt_join pins s2 σ H2 (.str z) [y] v us Q I2 r1 r2 q2
/-- xs[::-1]: some list of items of xs -/
def uRev (te : TE) : TE := fun σ H Q => te σ H fun x H1 => uR x fun a => ∃ xs, H1 a = some (.lst xs) ∧ ∀ ys : List V, (∀ y ∈ ys, y ∈ xs) → ys.length ≤ xs.length → ∀ p H2, New H1 p (.lst ys) H2 → Q (.ref p) H2
theorem vals_pick {xs : List V} {us : List Value} (r : Vals xs us) : ∀ is : List Nat, Vals (is.filterMap (xs[·]?)) (is.filterMap (us.toArray[·]?))
  | [] => .nil
  | i :: is => by
    have ih := vals_pick r is
    rw [List.filterMap_cons, List.filterMap_cons]
    cases e : xs[i]? with
    | none =>
      have e2 : us.toArray[i]? = none := by simpa using r.none_of e
      rw [e2]; exact ih
    | some x =>
      obtain ⟨u, e2, ru⟩ := r.get e
      have e3 : us.toArray[i]? = some u := by simpa using e2
      rw [e3]; exact .cons ru ih
theorem pe_rev {e : Expr} {te : TE} {pos p1 p2 p3 : Pos} {j : Nat} (he : PE X e te) : PE X (.Subscript e (.Slice none none (some (.UnaryOp .USub (.Constant (.int 1) j p1) p3)) p2) pos) (uRev te) := by
  intro pins s σ H Q I h
  refine Subscript_ (thn (he pins s σ H _ I h) fun v s1 ⟨x, H1, I1, r1, a, ex, xs, hx, q1⟩ => ?_)
  subst ex
  cases r1
  refine wpAny_Slice ?_
  rw [evalPart_none]
  refine wpAny_pure (wpAny_pure ?_)
  rw [evalPart_some]
  refine thn (pe_un un_neg pe_int pins s1 σ H1 (fun v H => v = .int (-1) ∧ H = H1) I1 ⟨1, rfl, rfl, rfl⟩) fun vs s3 ⟨y, H3, I3, ry, ey, eH⟩ => ?_
  subst ey eH
  obtain ⟨t, rfl⟩ := ry
  have I4 : Inv X pins σ H3 { s3 with heap := s3.heap.push { cls := .type "slice", data := .fields #[.none, .none, .int (-1) t] } } := I3.kept (t' := s3.toks) fun b ob q => Heap.get?_push_of_some _ q
  obtain ⟨its, r, ht, hz⟩ := I4.list (SqL.of (K := X.K) hx)
  refine tail_any (ops := [.ref a, .ref s3.heap.objs.size]) ht.isList.typeIs slot_list_getitem.lookup ?_ (by with_unfolding_all rfl)
  refine wpAny_getItem_list_slice ht.isList (Heap.IsSliceOf.new ..) .none .none (.int (-1) t) (by simp) ?_ (by rw [List.size_toArray, ← r.length]; exact hz)
  generalize hp : (s3.heap.push { cls := .type "slice", data := .fields #[.none, .none, .int (-1) t] }) = G at I4 ht ⊢
  have hlen := slicePick_size_le its.toArray none none (some (-1))
  have hv := vals_pick r (sliceRange (sliceBounds none none (some (-1)) its.toArray.size).1 (sliceBounds none none (some (-1)) its.toArray.size).2.1 (sliceBounds none none (some (-1)) its.toArray.size).2.2)
  have hl2 := hv.length
  unfold slicePick at hlen ⊢
  rw [List.size_toArray] at hlen
  have hl3 := r.length
  have hl4 : its.toArray.size = its.length := List.size_toArray ..
  refine ⟨.ref G.objs.size, _, I4.laid (t' := s3.toks) (o := .lst _) (fun b ob q => Heap.get?_push_of_some _ q) (Nat.le_refl _) ⟨?_, _, 0, hv, Heap.get?_push_size _ rfl⟩, rfl, q1 _ (fun y hy => ?_) ?_ _ _ (.mk' (I4.hok.fresh (Nat.le_refl _)))⟩
  · omega
  · obtain ⟨i, _, hi⟩ := List.mem_filterMap.mp hy
    exact List.mem_of_getElem? hi
  · omega
end
section
variable {K : PySem.W.Frag} {g : TG} {tb : TS} {D : Ends} {σ : St} {H : Hp} {ta : TA} {tl : TE} {wi : TI} {R : It → Hp → Prop} {j : Int} {tt : TT} {te : TE} {ix : List (Option Nat)} {Q : VK}
def uI2 (vs : List V) (q : Int → Int → Prop) : Prop := ∃ i j, vs = [.int i, .int j] ∧ q i j
theorem uI2_i {i : Int} {q : Int → Int → Prop} : uI2 [.int i, .int j] q = q i j := by
  apply propext; constructor
  · rintro ⟨a, b, e, h⟩; cases e; exact h
  · exact fun h => ⟨i, j, rfl, h⟩
theorem iRng2_eq : iRng2 ta σ H R = ta σ H fun vs H1 => uI2 vs fun i j => (-(2 ^ 62) ≤ i ∧ i < 2 ^ 62 ∧ -(2 ^ 62) ≤ j ∧ j < 2 ^ 62) ∧ R (Itr i (j - i).toNat) H1 := rfl
theorem ForJ.tup {a : Addr} {xs : List V} (Pv : Nat → St → Hp → Prop) (h0 : Pv 0 σ H) (hl : ∀ i σ H, i ≤ xs.length → Pv i σ H → SqT K H a xs)
    (hs : ∀ i x σ H, xs[i]? = some x → Pv i σ H → g x σ H fun σ2 H2 => tb { D with nx := Pv (i + 1), ct := Pv (i + 1), bk := D.nx } σ2 H2) (hd : ∀ σ H, Pv xs.length σ H → D.nx σ H) : ForJ (Itt K a) g tb D σ H := for_tup Pv h0 hl hs hd
/-- a comprehension over a list -/
theorem CompJ.lst {a : Addr} {xs : List V} {τ : St} (Pv : Nat → St → List V → Hp → Prop) (hz : ∀ i τ ys H, Pv i τ ys H → ys.length < sizeLine) (ha : ∀ i τ ys H, Pv i τ ys H → SqL K H a xs) (h0 : Pv 0 τ [] H)
    (hs : ∀ (N : St → List V → Hp → Prop) i x τ ys H, xs[i]? = some x → Pv i τ ys H → (∀ τ ys H, Pv (i + 1) τ ys H → N τ ys H) → g x τ H fun τ1 H4 => tt τ1 H4 fun ok H5 => CompN N ys τ1 te ok H5) (hd : ∀ τ ys H, Pv xs.length τ ys H → ∀ D H', New H D (.lst ys) H' → Q (.ref D) H') : CompJ (Itl K a) g tt te τ H Q := by
  refine ⟨fun i m τ ys H => m = xs.length - i ∧ i ≤ xs.length ∧ Pv i τ ys H, ⟨xs.length, by simp, Nat.zero_le _, h0⟩, ?_⟩
  rintro i m τ ys H2 ⟨rfl, hi, p⟩
  refine ⟨hz i τ ys H2 p, ?_⟩
  have q := ha i τ ys H2 p
  by_cases hlt : i < xs.length
  · refine .inr ⟨⟨xs, xs[i], q, by simp [hlt]⟩, fun x H' y => ?_⟩
    obtain ⟨e, y⟩ := y
    subst e
    exact hs (fun τ1 ys H => ∃ m', m' < xs.length - i ∧ m' = xs.length - (i + 1) ∧ i + 1 ≤ xs.length ∧ Pv (i + 1) τ1 ys H) i x τ ys _ (y xs q) p fun τ1 zs H q => ⟨xs.length - (i + 1), by omega, rfl, hlt, q⟩
  · have e : i = xs.length := by omega
    subst e
    exact .inl ⟨⟨xs, q, Nat.le_refl _⟩, fun D hD => hd τ ys H2 p D _ (.mk' hD)⟩
end
end L2
set_option Elab.async false
set_option linter.all false
set_option maxRecDepth 100000
set_option maxHeartbeats 4000000
namespace L2
open PySem PySem.Spec PyProof.Rows
/-- a judgement as one thing (a term of rules is elaborated once, not twice a level) -/
structure W (p : Prop) : Prop where
  h : p
section
variable {X : Cx}
theorem w_pss_nil  : W (PSs X [] tNext) := ⟨pss_nil ⟩
theorem w_pss_cons {st : Stmt} {rest : List Stmt} {t : TS} {u : TS} (h1 : W (PS X st t)) (h2 : W (PSs X rest u)) : W (PSs X (st :: rest) (tSeq t u)) := ⟨pss_cons (h1 := h1.h) (h2 := h2.h)⟩
theorem w_pss_one {st : Stmt} {t : TS} (h1 : W (PS X st t)) : W (PSs X [st] t) := ⟨pss_one (h1 := h1.h)⟩
theorem w_ps_ret {e : Expr} {te : TE} {pos : Pos} (he : W (PE X e te)) : W (PS X (.Return (some e) pos) (tRet te)) := ⟨ps_ret (he := he.h)⟩
theorem w_ps_expr {e : Expr} {te : TE} {pos : Pos} (he : W (PE X e te)) (hs : swapsWith e none pos.line X.env = pure false := by rfl) : W (PS X (.Expr e pos) (tDrop te)) := ⟨ps_expr (he := he.h) (hs := hs)⟩
theorem w_ps_set {pos : Pos} {i : Nat} {x : Str} {e : Expr} {te : TE} {pos' : Pos} (hN : X.N.Nodup) (hi : X.N[i]? = some x) (hx : Loc X.env.scope x) (he : W (PE X e te)) (hs : swapsWith e (some (.Name x pos')) pos.line X.env = pure false := by rfl) (hf : X.fn x = true ∨ X.env.scope.names.lookup x = some .local := by first | exact .inl rfl | exact .inr rfl | assumption) : W (PS X (.Assign [.Name x pos'] e pos) (tAsg te (gName i))) := ⟨ps_set (hN := hN) (hi := hi) (hx := hx) (he := he.h) (hs := hs) (hf := hf)⟩
theorem w_ps_fldU {C : Addr} {o value : Expr} {ta tv : TE} {f : Str} {pos pos' : Pos} (c : Cls X.K C) (n : NoAttr X.K C f) (ha : W (PE X o ta)) (hv : W (PE X value tv)) (hs : swapsWith value (some (.Attribute o f pos')) pos.line X.env = pure false := by rfl) : W (PS X (.Assign [.Attribute o f pos'] value pos) (uSetF C ta tv f)) := ⟨ps_fldU (c := c) (n := n) (ha := ha.h) (hv := hv.h) (hs := hs)⟩
theorem w_ps_asg {pos : Pos} {tg e : Expr} {te : TE} {g : TG} (he : W (PE X e te)) (hg : W (PG X tg g)) (hs : swapsWithSole [tg] e pos.line X.env = pure false := by rfl) (hw : swappedStores [tg] e X.env = pure none := by rfl) (h1 : (assignEach [tg] X.env).map (·.2) = [assign tg X.env] := by rfl) : W (PS X (.Assign [tg] e pos) (tAsg te g)) := ⟨ps_asg (he := he.h) (hg := hg.h) (hs := hs) (hw := hw) (h1 := h1)⟩
theorem w_ps_if {t : TS} {u : TS} {pos : Pos} {c : Expr} {a b : List Stmt} {tc : TT} (hc : W (PT X c tc)) (ha : W (PSs X a t)) (hb : W (PSs X b u)) : W (PS X (.If c a b pos) (tIfS tc t u)) := ⟨ps_if (hc := hc.h) (ha := ha.h) (hb := hb.h)⟩
theorem w_ps_for {tg : Expr} {c : Bool} {iter : Expr} {body : List Stmt} {wi : TI} {g : TG} {tb : TS} {pos : Pos} (hp : PassesOwn (model X.prog X.w) X.A X.env X.xe) (hc : c = true → X.calm = true) (hi : W (PIc c X tg iter wi)) (hg : W (PG X tg g)) (hb : W (PSs X body tb)) (hs : ∀ x, foldedSetIterable iter X.env x = pure x := by intro _; rfl) : W (PS X (.For tg iter body [] pos) (tFor wi g tb)) := ⟨ps_for (hp := hp) (hc := hc) (hi := hi.h) (hg := hg.h) (hb := hb.h) (hs := hs)⟩
theorem w_ps_raisep {Ex : Addr → St → Hp → Prop} {C : Addr} {x : Str} {np cpos pos : Pos} {e : Expr} {es : List Expr} {t : TA} (hc : X.calm = true) (T : Throws X Ex) (O : ErrK X.K C) (hg : Gl X x) (hm : X.mg x = some (.ref C)) (ha : W (PA X (e :: es) t)) (hp : plainE e = true := by rfl) (hps : plainEs es = true := by rfl) (hdb : (x == ("__debug__" : Str)) = false := by decide) : W (PS X (.Raise (some (.Call (.Name x np) (e :: es) [] cpos)) none pos) (tRaise C Ex t)) := ⟨ps_raisep (hc := hc) (T := T) (O := O) (hg := hg) (hm := hm) (ha := ha.h) (hp := hp) (hps := hps) (hdb := hdb)⟩
theorem w_pi_range1p {tg a : Expr} {ta : TA} {p pos : Pos} (hg : Gl X "range") (hm : X.mg "range" = none) (ha : W (PA X [a] ta)) (hp : plainE a = true := by rfl) : W (PIc true X tg (.Call (.Name "range" p) [a] [] pos) (iRng1 ta)) := ⟨pi_range1p (hg := hg) (hm := hm) (ha := ha.h) (hp := hp)⟩
theorem w_pi_range2p {tg a b : Expr} {ta : TA} {p pos : Pos} (hg : Gl X "range") (hm : X.mg "range" = none) (ha : W (PA X [a, b] ta)) (hp : plainE a = true := by rfl) (hp' : plainE b = true := by rfl) : W (PIc true X tg (.Call (.Name "range" p) [a, b] [] pos) (iRng2 ta)) := ⟨pi_range2p (hg := hg) (hm := hm) (ha := ha.h) (hp := hp) (hp' := hp')⟩
theorem w_pi_zipp {elts : List Expr} {kk : Nat} {tp p pos : Pos} {a b : Expr} {ta : TA} (hg : Gl X "zip") (hm : X.mg "zip" = none) (ha : W (PA X [a, b] ta)) (hp : plainE a = true := by rfl) (hp' : plainE b = true := by rfl) : W (PIc false X (.Tuple elts kk tp) (.Call (.Name "zip" p) [a, b] [] pos) (iZip X.K ta)) := ⟨pi_zipp (hg := hg) (hm := hm) (ha := ha.h) (hp := hp) (hp' := hp')⟩
theorem w_pi_list {tg : Expr} {l : Expr} {tl : TE} (hl : W (PE X l tl)) : W (PI X tg l (iList X.K tl)) := ⟨pi_list (hl := hl.h)⟩
theorem w_pa_nil  : W (PA X [] tNil) := ⟨pa_nil ⟩
theorem w_pa_p {e : Expr} {es : List Expr} {te : TE} {t : TA} (ha : W (PE X e te)) (hr : W (PA X es t)) (hp : plainE e = true := by rfl) : W (PA X (e :: es) (tCons te t)) := ⟨pa_p (ha := ha.h) (hr := hr.h) (hp := hp)⟩
theorem w_pt_not {a : Expr} {pos : Pos} {tA : TT} (ha : W (PT X a tA)) : W (PT X (.UnaryOp .Not a pos) (tNot tA)) := ⟨pt_not (ha := ha.h)⟩
theorem w_pw_and1 {a : Expr} {pos : Pos} {tA : TT} (ha : W (PT X a tA)) : W (PW X (.BoolOp .And [a] pos) tA) := ⟨pw_and1 (ha := ha.h)⟩
theorem w_pw_or1 {a : Expr} {pos : Pos} {tA : TT} (ha : W (PT X a tA)) : W (PW X (.BoolOp .Or [a] pos) tA) := ⟨pw_or1 (ha := ha.h)⟩
theorem w_pw_and {a : Expr} {b : Expr} {pos : Pos} {tA : TT} {tB' : TT} {rest : List Expr} (ha : W (PT X a tA)) (hb : W (PW X (.BoolOp .And (b :: rest) pos) tB')) : W (PW X (.BoolOp .And (a :: b :: rest) pos) (tAnd tA tB')) := ⟨pw_and (ha := ha.h) (hb := hb.h)⟩
theorem w_pw_or {a : Expr} {b : Expr} {pos : Pos} {tA : TT} {tB' : TT} {rest : List Expr} (ha : W (PT X a tA)) (hb : W (PW X (.BoolOp .Or (b :: rest) pos) tB')) : W (PW X (.BoolOp .Or (a :: b :: rest) pos) (tOr tA tB')) := ⟨pw_or (ha := ha.h) (hb := hb.h)⟩
theorem w_pt_cmpR {a : Expr} {b : Expr} {ta : TE} {tb : TE} {pos : Pos} {op : CmpOp} {r : R2} (ho : OpR X (compareOp op) r) (ha : W (PE X a ta)) (hb : W (PE X b tb)) (hm : behindInMarks op b = false) : W (PT X (.Compare a [op] [b] pos) (tTest (tOp r ta tb))) := ⟨pt_cmpR (ho := ho) (ha := ha.h) (hb := hb.h) (hm := hm)⟩
theorem w_pt_tru {a : Expr} {ta : TE} (ha : W (PE X a ta)) (he : ∀ whole, isTrue a X.env whole = (do let v ← whole; standAt a.pos; holding [v] (truthy v)) := by intro _; rfl) : W (PT X a (tTru X.K ta)) := ⟨pt_tru (ha := ha.h) (he := he)⟩
theorem w_pv (i : Nat) {x : Str} {pos : Pos} (hN : X.N[i]? = some x := by rfl) (hv : Vis X.env.scope x := by first | exact Or.inl rfl | exact Or.inr (Or.inl rfl) | exact Or.inr (Or.inr rfl)) (hd : (x == ("__debug__" : Str)) = false := by decide) (hcd : (x == ("__classdict__" : Str)) = false := by decide) : W (PE X (.Name x pos) (tVar i)) := ⟨pv (i := i) (hN := hN) (hv := hv) (hd := hd) (hcd := hcd)⟩
theorem w_pe_gv {x : Str} {v : V} {pos : Pos} (hg : Gl X x) (hm : ∃ u, X.mg x = some u ∧ RelV v u) (hd : (x == ("__debug__" : Str)) = false := by decide) : W (PE X (.Name x pos) (tC v)) := ⟨pe_gv (hg := hg) (hm := hm) (hd := hd)⟩
theorem w_pe_bltn {x : Str} {v : V} {u : Value} {pos : Pos} (hg : Gl X x) (hm : X.mg x = none) (hv : bootBuiltins x = some u) (r : RelV v u) (hn : x ≠ "__name__" := by decide) (hd : (x == ("__debug__" : Str)) = false := by decide) : W (PE X (.Name x pos) (tC v)) := ⟨pe_bltn (hg := hg) (hm := hm) (hv := hv) (r := r) (hn := hn) (hd := hd)⟩
theorem w_pe_non {j pos} : W (PE X (.Constant .none j pos) (tC .non)) := ⟨pe_non ⟩
theorem w_pe_bl {b j pos} : W (PE X (.Constant (.bool b) j pos) (tC (.bl b))) := ⟨pe_bl ⟩
theorem w_pe_int {i j pos} : W (PE X (.Constant (.int i) j pos) (tC (.int i))) := ⟨pe_int ⟩
theorem w_pe_str {x j pos} : W (PE X (.Constant (.str x) j pos) (tC (.str x))) := ⟨pe_str ⟩
theorem w_pe_op {a : Expr} {b : Expr} {ta : TE} {tb : TE} {pos : Pos} {op : Operator} {r : R2} (ho : OpR X (binaryOp op) r) (ha : W (PE X a ta)) (hb : W (PE X b tb)) : W (PE X (.BinOp a op b pos) (tOp r ta tb)) := ⟨pe_op (ho := ho) (ha := ha.h) (hb := hb.h)⟩
theorem w_pe_not {a : Expr} {ta : TE} {pos : Pos} (ha : W (PE X a ta)) : W (PE X (.UnaryOp .Not a pos) (tNotV ta)) := ⟨pe_not (ha := ha.h)⟩
theorem w_pe_one {a : Expr} {pos : Pos} {op} {t : TE} (h : W (PE X a t)) : W (PE X (.BoolOp op [a] pos) t) := ⟨pe_one (h := h.h)⟩
theorem w_pe_and {a : Expr} {b : Expr} {ta : TE} {tb : TE} {pos : Pos} {rest : List Expr} (ha : W (PE X a ta)) (hb : W (PE X (.BoolOp .And (b :: rest) pos) tb)) : W (PE X (.BoolOp .And (a :: b :: rest) pos) (tAndV ta tb)) := ⟨pe_and (ha := ha.h) (hb := hb.h)⟩
theorem w_pe_cmpR {a : Expr} {b : Expr} {ta : TE} {tb : TE} {pos : Pos} {op : CmpOp} {r : R2} (ho : OpR X (compareOp op) r) (ha : W (PE X a ta)) (hb : W (PE X b tb)) (hm : behindInMarks op b = false) : W (PE X (.Compare a [op] [b] pos) (tOp r ta tb)) := ⟨pe_cmpR (ho := ho) (ha := ha.h) (hb := hb.h) (hm := hm)⟩
theorem w_pe_chain {a : Expr} {b : Expr} {c : Expr} {ta : TE} {tb : TE} {tc : TE} {pos : Pos} {op op' : CmpOp} {r r' : R2} (ho : OpR X (compareOp op) r) (ho' : OpR X (compareOp op') r') (ha : W (PE X a ta)) (hb : W (PE X b tb)) (hc : W (PE X c tc)) (hm : lastMarks [op, op'] [b, c] = false := by with_unfolding_all rfl) : W (PE X (.Compare a [op, op'] [b, c] pos) (tChain r r' ta tb tc)) := ⟨pe_chain (ho := ho) (ho' := ho') (ha := ha.h) (hb := hb.h) (hc := hc.h) (hm := hm)⟩
theorem w_pe_ifExp {a : Expr} {b : Expr} {ta : TE} {tb : TE} {pos : Pos} {tA : TT} {c : Expr} (hc : W (PT X c tA)) (ha : W (PE X a ta)) (hb : W (PE X b tb)) : W (PE X (.IfExp c a b pos) (tIf tA ta tb)) := ⟨pe_ifExp (hc := hc.h) (ha := ha.h) (hb := hb.h)⟩
theorem w_pe_lstA {es : List Expr} {t : TA} {pos : Pos} (h : W (PA X es t)) : W (PE X (.List es pos) (tLstA t)) := ⟨pe_lstA (h := h.h)⟩
theorem w_pe_tupA {es : List Expr} {t : TA} {x1} {pos : Pos} (h : W (PA X es t)) : W (PE X (.Tuple es x1 pos) (tTupA t)) := ⟨pe_tupA (h := h.h)⟩
theorem w_pe_fldU {C : Addr} {e : Expr} {ta : TE} {f : Str} {pos : Pos} (c : Cls X.K C) (n : NoAttr X.K C f) (he : W (PE X e ta)) (hb : attributeBase e f X.env (eval e X.env) = eval e X.env := by rfl) : W (PE X (.Attribute e f pos) (uFld C ta f)) := ⟨pe_fldU (c := c) (n := n) (he := he.h) (hb := hb)⟩
theorem w_pe_ix {a : Expr} {b : Expr} {ta : TE} {tb : TE} {pos : Pos} {r : R2} (hr : IxR X r) (ha : W (PE X a ta)) (hb : W (PE X b tb)) (hs : PlainIx b) : W (PE X (.Subscript a b pos) (tOp r ta tb)) := ⟨pe_ix (hr := hr) (ha := ha.h) (hb := hb.h) (hs := hs)⟩
theorem w_pe_slice {e : Expr} {te : TE} {lo : Option Expr} {hi : Option Expr} {tl : TO} {th : TO} {pos : Pos} {p2 : Pos} {r : V → Option Int → Option Int → Hp → VK → Prop} (hr : SlR X r) (he : W (PE X e te)) (hl : W (PO X lo tl)) (hu : W (PO X hi th)) : W (PE X (.Subscript e (.Slice lo hi none p2) pos) (tSl r te tl th)) := ⟨pe_slice (hr := hr) (he := he.h) (hl := hl.h) (hu := hu.h)⟩
theorem w_pe_g {cm : Bool} {k : Nat} {j : Nat} {x : Str} {ps : List Str} {sp : Sp} {e : Expr} {es : List Expr} {t : TA} {p : Pos} {pos : Pos} (G : GF X.prog X.w X.K X.mg X.base cm j x ps sp) (hr : Room cm k X.A) (hg : Gl X x) (ha : W (PA X (e :: es) t)) (hj : j ≤ k := by decide) (hdb : (x == ("__debug__" : Str)) = false := by decide) (hp : plainE e = true := by rfl) (hps : plainEs es = true := by rfl) : W (PE X (.Call (.Name x p) (e :: es) [] pos) (tCall sp [] E0 t)) := ⟨pe_g (G := G) (hr := hr) (hg := hg) (ha := ha.h) (hj := hj) (hdb := hdb) (hp := hp) (hps := hps)⟩
theorem w_pe_cX {cm : Bool} {k : Nat} {j : Nat} {x : Str} {C : Addr} {ps : List Str} {sp : Sp} {e : Expr} {es : List Expr} {t : TA} {p : Pos} {pos : Pos} {Ex : Addr → St → Hp → Prop} (T : Throws X Ex) (G : GCX X.prog X.w X.K X.mg X.base cm j x C ps sp) (hr : Room cm k X.A) (hg : Gl X x) (ha : W (PA X (e :: es) t)) (hj : j + 1 ≤ k := by decide) (hdb : (x == ("__debug__" : Str)) = false := by decide) (hp : plainE e = true := by rfl) (hps : plainEs es = true := by rfl) : W (PE X (.Call (.Name x p) (e :: es) [] pos) (tMakeXA C sp Ex t)) := ⟨pe_cX (T := T) (G := G) (hr := hr) (hg := hg) (ha := ha.h) (hj := hj) (hdb := hdb) (hp := hp) (hps := hps)⟩
theorem w_pe_callBp {id : String} {r : List V → Hp → VK → Prop} {x : Str} {e : Expr} {es : List Expr} {t : TA} {p pos : Pos} (hc : CallR X (.builtin id) r) (hg : Gl X x) (hm : X.mg x = none) (hv : bootBuiltins x = some (.builtin id)) (ha : W (PA X (e :: es) t)) (hp : plainE e = true := by rfl) (hps : plainEs es = true := by rfl) (hn : x ≠ "__name__" := by decide) (hdb : (x == ("__debug__" : Str)) = false := by decide) : W (PE X (.Call (.Name x p) (e :: es) [] pos) (tCB r t)) := ⟨pe_callBp (hc := hc) (hg := hg) (hm := hm) (hv := hv) (ha := ha.h) (hp := hp) (hps := hps) (hn := hn) (hdb := hdb)⟩
theorem w_pe_callTyp {T : String} {r : List V → Hp → VK → Prop} {x : Str} {e : Expr} {es : List Expr} {t : TA} {p pos : Pos} (hc : CallR X (.type T) r) (hg : Gl X x) (hm : X.mg x = none) (hv : bootBuiltins x = some (.type T)) (ha : W (PA X (e :: es) t)) (hp : plainE e = true := by rfl) (hps : plainEs es = true := by rfl) (hn : x ≠ "__name__" := by decide) (hdb : (x == ("__debug__" : Str)) = false := by decide) : W (PE X (.Call (.Name x p) (e :: es) [] pos) (tCB r t)) := ⟨pe_callTyp (hc := hc) (hg := hg) (hm := hm) (hv := hv) (ha := ha.h) (hp := hp) (hps := hps) (hn := hn) (hdb := hdb)⟩
theorem w_pe_m {cm : Bool} {k : Nat} {j : Nat} {m : Str} {C : Addr} {ps : List Str} {sp : Sp} {e : Expr} {o : Expr} {es : List Expr} {t : TA} {ta : TE} {pos : Pos} {apos : Pos} {pl : Sem Bool} (he : W (PE X o ta)) (c : Cls X.K C) (G : GM X.prog X.w X.K X.mg X.base cm j C m ps sp) (hr : Room cm k X.A) (ha : W (PA X (e :: es) t)) (hj : j ≤ k := by decide) (hp : plainE e = true := by rfl) (hps : plainEs es = true := by rfl) (ht : eval (.Call (.Attribute o m apos) (e :: es) [] pos) X.env = (do
      let ov ← eval o X.env
      standAt apos.atName
      let (f, first) ← holding [ov] (getMethod ov m pl)
      callWith pos f first (backTo pos (starEach (e :: es) X.env)) (backToKw pos (keywordEach [] X.env))) := by rfl) : W (PE X (.Call (.Attribute o m apos) (e :: es) [] pos) (tMeth C m sp [] E0 ta t)) := ⟨pe_m (he := he.h) (c := c) (G := G) (hr := hr) (ha := ha.h) (hj := hj) (hp := hp) (hps := hps) (ht := ht)⟩
theorem w_pe_m0 {cm : Bool} {k : Nat} {j : Nat} {m : Str} {C : Addr} {ps : List Str} {sp : Sp} {o : Expr} {ta : TE} {pos : Pos} {apos : Pos} {pl : Sem Bool} (he : W (PE X o ta)) (c : Cls X.K C) (G : GM X.prog X.w X.K X.mg X.base cm j C m ps sp) (hr : Room cm k X.A) (hj : j ≤ k := by decide) (ht : eval (.Call (.Attribute o m apos) [] [] pos) X.env = (do
      let ov ← eval o X.env
      standAt apos.atName
      let (f, first) ← holding [ov] (getMethod ov m pl)
      callWith pos f first (backTo pos (starEach [] X.env)) (backToKw pos (keywordEach [] X.env))) := by rfl) : W (PE X (.Call (.Attribute o m apos) [] [] pos) (tMeth C m sp [] E0 ta tNil)) := ⟨pe_m0 (he := he.h) (c := c) (G := G) (hr := hr) (hj := hj) (ht := ht)⟩
theorem w_pe_mX {cm : Bool} {k : Nat} {j : Nat} {m : Str} {C : Addr} {ps : List Str} {sp : Sp} {e : Expr} {o : Expr} {es : List Expr} {t : TA} {ta : TE} {pos : Pos} {apos : Pos} {Ex : Addr → St → Hp → Prop} {pl : Sem Bool} (he : W (PE X o ta)) (c : Cls X.K C) (T : Throws X Ex) (G : GMX X.prog X.w X.K X.mg X.base cm j C m ps sp) (hr : Room cm k X.A) (ha : W (PA X (e :: es) t)) (hj : j ≤ k := by decide) (hp : plainE e = true := by rfl) (hps : plainEs es = true := by rfl) (ht : eval (.Call (.Attribute o m apos) (e :: es) [] pos) X.env = (do
      let ov ← eval o X.env
      standAt apos.atName
      let (f, first) ← holding [ov] (getMethod ov m pl)
      callWith pos f first (backTo pos (starEach (e :: es) X.env)) (backToKw pos (keywordEach [] X.env))) := by rfl) : W (PE X (.Call (.Attribute o m apos) (e :: es) [] pos) (tMethX C m sp [] Ex ta t)) := ⟨pe_mX (he := he.h) (c := c) (T := T) (G := G) (hr := hr) (ha := ha.h) (hj := hj) (hp := hp) (hps := hps) (ht := ht)⟩
theorem w_pe_mX0 {cm : Bool} {k : Nat} {j : Nat} {m : Str} {C : Addr} {ps : List Str} {sp : Sp} {o : Expr} {ta : TE} {pos : Pos} {apos : Pos} {Ex : Addr → St → Hp → Prop} {pl : Sem Bool} (he : W (PE X o ta)) (c : Cls X.K C) (T : Throws X Ex) (G : GMX X.prog X.w X.K X.mg X.base cm j C m ps sp) (hr : Room cm k X.A) (hj : j ≤ k := by decide) (ht : eval (.Call (.Attribute o m apos) [] [] pos) X.env = (do
      let ov ← eval o X.env
      standAt apos.atName
      let (f, first) ← holding [ov] (getMethod ov m pl)
      callWith pos f first (backTo pos (starEach [] X.env)) (backToKw pos (keywordEach [] X.env))) := by rfl) : W (PE X (.Call (.Attribute o m apos) [] [] pos) (tMethX C m sp [] Ex ta tNil)) := ⟨pe_mX0 (he := he.h) (c := c) (T := T) (G := G) (hr := hr) (hj := hj) (ht := ht)⟩
theorem w_pe_append {o e : Expr} {to te : TE} {apos cpos : Pos} (ho : W (PE X o to)) (he : W (PE X e te)) (hbase : attributeBase o "append" X.env (eval o X.env) = eval o X.env := by rfl) (hline : (apos.endLine == cpos.line) = true := by rfl) (hp : plainE e = true := by rfl) : W (PE X (.Call (.Attribute o "append" apos) [e] [] cpos) (uApp to te)) := ⟨pe_append (ho := ho.h) (he := he.h) (hbase := hbase) (hline := hline) (hp := hp)⟩
theorem w_pe_lc {c : Bool} {X : Cx} {elt tg iter : Expr} {ifs : List Expr} {sc : Scope} {pos : Pos} {N' : List Str} {ix : List (Option Nat)} {wi : TI} {g : TG} {tt : TT} {te : TE} (hc : c = true → X.calm = true) (L : LcOk X sc N' ix) (hi : W (PIc c X tg iter wi)) (hg : ∀ pins C fp s H, W (PG (cxLC X sc N' pins C fp s H) tg g)) (ht : ∀ pins C fp s H, W (PTs (cxLC X sc N' pins C fp s H) ifs tt)) (he : ∀ pins C fp s H, W (PE (cxLC X sc N' pins C fp s H) elt te)) (hs : ∀ x, foldedSetIterable iter X.env x = pure x := by intro _; rfl) : W (PE X (.ListComp elt [⟨tg, iter, ifs, 0⟩] sc pos) (tLC ix wi g tt te)) := ⟨pe_lc (hc := hc) (L := L) (hi := hi.h) (hg := fun z0 z1 z2 z3 z4 => (hg z0 z1 z2 z3 z4).h) (ht := fun z0 z1 z2 z3 z4 => (ht z0 z1 z2 z3 z4).h) (he := fun z0 z1 z2 z3 z4 => (he z0 z1 z2 z3 z4).h) (hs := hs)⟩
theorem w_pg_name {pos : Pos} {i : Nat} {x : Str} (hN : X.N.Nodup) (hi : X.N[i]? = some x) (hx : Loc X.env.scope x) (hf : X.fn x = true ∨ X.env.scope.names.lookup x = some .local := by first | exact .inl rfl | exact .inr rfl | assumption) : W (PG X (.Name x pos) (gName i)) := ⟨pg_name (hN := hN) (hi := hi) (hx := hx) (hf := hf)⟩
theorem w_pg_tupA {X : Cx} {pos : Pos} {es : List Expr} {k : Nat} {t : TGs} {n : Nat} (h : W (PGs X es t)) (hl : (assignEach es X.env).length = n := by rfl) (hst : (assignEach es X.env).findIdx? (·.1) = none := by rfl) : W (PG X (.Tuple es k pos) (gTup X.K n t)) := ⟨pg_tupA (h := h.h) (hl := hl) (hst := hst)⟩
theorem w_pg_lst {pos : Pos} {es : List Expr} {k : Nat} {t : TGs} {n : Nat} (hc : X.calm = true) (h : W (PGs X es t)) (hl : (assignEach es X.env).length = n := by rfl) (hst : (assignEach es X.env).findIdx? (·.1) = none := by rfl) : W (PG X (.Tuple es k pos) (gLst X.K n t)) := ⟨pg_lst (hc := hc) (h := h.h) (hl := hl) (hst := hst)⟩
theorem w_pgs_nil  : W (PGs X [] gNil) := ⟨pgs_nil ⟩
theorem w_pgs_cons {e : Expr} {es : List Expr} {t : TG} {u : TGs} (h1 : W (PG X e t)) (h2 : W (PGs X es u)) (hs : (assignEach (e :: es) X.env).map (·.2) = assign e X.env :: (assignEach es X.env).map (·.2) := by rfl) : W (PGs X (e :: es) (gCons t u)) := ⟨pgs_cons (h1 := h1.h) (h2 := h2.h) (hs := hs)⟩
theorem w_pts_nil {X : Cx} : W (PTs X [] tAll) := ⟨pts_nil ⟩
theorem w_pts_one {X : Cx} {c : Expr} {t : TT} (h : W (PT X c t)) : W (PTs X [c] t) := ⟨pts_one (h := h.h)⟩
theorem w_ps_try {X : Cx} {i : Nat} {D : Addr} {x n : Str} {np hpos pos : Pos} {body : List Stmt} {b₀ : Stmt} {suite : List Stmt} {tb : (Addr → St → Hp → Prop) → TS} {ts : TS} (hc : X.calm = true) (hex : X.ex = []) (hstk : X.stack = X.env :: X.outer ∧ X.env.frame = some X.env.locals) (hN : X.N.Nodup) (hi : X.N[i]? = some n) (hlo : X.env.scope.names.lookup n = some .local) (OD : ErrK X.K D) (hg : Gl X x) (hm : X.mg x = some (.ref D)) (hb : ∀ pins Ex, W (PSs (cxTry X pins Ex) body (tb Ex))) (hs : ∀ pins ea, W (PSs (cxSuite X pins ea) (b₀ :: suite) ts)) (hdb : (x == ("__debug__" : Str)) = false := by decide) : W (PS X (.Try body [.ExceptHandler (some (.Name x np)) (some n) (b₀ :: suite) hpos] [] [] pos) (tTry X.K i D tb ts)) := ⟨ps_try (hc := hc) (hex := hex) (hstk := hstk) (hN := hN) (hi := hi) (hlo := hlo) (OD := OD) (hg := hg) (hm := hm) (hb := fun z0 z1 => (hb z0 z1).h) (hs := fun z0 z1 => (hs z0 z1).h) (hdb := hdb)⟩
theorem w_pt_truL {Y : Cx} {sc : Scope} {N' : List Str} {pins : List (Addr × Obj)} {D : Addr} {fp : List Addr} {s : Shared} {H : Hp} {a : Expr} {ta : TE} (ha : W (PE (cxLC Y sc N' pins D fp s H) a ta)) (he : ∀ whole, isTrue a (cxLC Y sc N' pins D fp s H).env whole = (do let v ← whole; standAt a.pos; holding [v] (truthy v)) := by intro _; rfl) : W (PT (cxLC Y sc N' pins D fp s H) a (tTru Y.K ta)) := ⟨pt_truL (ha := ha.h) (he := he)⟩
theorem w_pg_tupL {Y : Cx} {sc : Scope} {N' : List Str} {pins : List (Addr × Obj)} {D : Addr} {fp : List Addr} {s : Shared} {H : Hp} {pos : Pos} {es : List Expr} {k : Nat} {t : TGs} {n : Nat} (h : W (PGs (cxLC Y sc N' pins D fp s H) es t)) (hl : (assignEach es (cxLC Y sc N' pins D fp s H).env).length = n := by rfl) (hst : (assignEach es (cxLC Y sc N' pins D fp s H).env).findIdx? (·.1) = none := by rfl) : W (PG (cxLC Y sc N' pins D fp s H) (.Tuple es k pos) (gTup Y.K n t)) := ⟨pg_tupL (h := h.h) (hl := hl) (hst := hst)⟩
theorem w_pe_clear {o : Expr} {to : TE} {apos cpos : Pos} (ho : W (PE X o to)) (hbase : attributeBase o "clear" X.env (eval o X.env) = eval o X.env := by rfl) (hline : (apos.endLine == cpos.line) = true := by rfl) : W (PE X (.Call (.Attribute o "clear" apos) [] [] cpos) (uClear to)) := ⟨pe_clear (ho := ho.h) (hbase := hbase) (hline := hline)⟩
theorem w_pe_b_join {o e : Expr} {to te : TE} {apos cpos : Pos} (ho : W (PE X o to)) (he : W (PE X e te)) (hbase : attributeBase o "join" X.env (eval o X.env) = eval o X.env := by rfl) (hline : (apos.endLine == cpos.line) = true := by rfl) (hp : plainE e = true := by rfl) : W (PE X (.Call (.Attribute o "join" apos) [e] [] cpos) (uJoinE to te)) := ⟨pe_b_join (ho := ho.h) (he := he.h) (hbase := hbase) (hline := hline) (hp := hp)⟩
theorem w_pi_enumL {elts : List Expr} {kk : Nat} {tp p pos : Pos} {a : Expr} {ta : TA} (hg : Gl X "enumerate") (hm : X.mg "enumerate" = none) (ha : W (PA X [a] ta)) (hp : plainE a = true := by rfl) : W (PIc true X (.Tuple elts kk tp) (.Call (.Name "enumerate" p) [a] [] pos) (iEnum X.K ta)) := ⟨pi_enumL (hg := hg) (hm := hm) (ha := ha.h) (hp := hp)⟩
theorem w_ps_augFU {C : Addr} {o value : Expr} {f : Str} {tpos pos : Pos} {ta tv : TE} {op : Operator} {rd : V → V → Hp → VK → Prop} (c : Cls X.K C) (n : NoAttr X.K C f) (ha : W (PE X o ta)) (hv : W (PE X value tv)) (hop : InOp X op rd) : W (PS X (.AugAssign (.Attribute o f tpos) op value pos) (uAugF C ta tv rd f)) := ⟨ps_augFU (c := c) (n := n) (ha := ha.h) (hv := hv.h) (hop := hop)⟩
theorem w_pg_sub {pos : Pos} {o i : Expr} {to ti : TE} {t : TSet} (ho : W (PE X o to)) (hi : W (PE X i ti)) (hs : PSet X t) (ha : ∀ v, assign (.Subscript o i pos) X.env v = (do
      let ov ← holding [v] (eval o X.env)
      let iv ← holding [v, ov] (eval i X.env)
      standAt pos
      holding [v, ov, iv] (setItem ov iv v)
      release [v, ov, iv] []) := by intro _; rfl) : W (PG X (.Subscript o i pos) (gSub to ti t)) := ⟨pg_sub (ho := ho.h) (hi := hi.h) (hs := hs) (ha := ha)⟩
theorem w_pe_rev {e : Expr} {te : TE} {pos p1 p2 p3 : Pos} {j : Nat} (he : W (PE X e te)) : W (PE X (.Subscript e (.Slice none none (some (.UnaryOp .USub (.Constant (.int 1) j p1) p3)) p2) pos) (uRev te)) := ⟨pe_rev (he := he.h)⟩
theorem w_po_none  : W (PO X none tNoPart) := ⟨po_none ⟩
theorem w_po_some {e : Expr} {te : TE} (h : W (PE X e te)) : W (PO X (some e) (tPart te)) := ⟨po_some (h := h.h)⟩
theorem w_pe_g0 {cm : Bool} {k j : Nat} {x : Str} {ps : List Str} {sp : Sp} {p pos : Pos} (G : GF X.prog X.w X.K X.mg X.base cm j x ps sp) (hr : Room cm k X.A) (hg : Gl X x) (hj : j ≤ k := by decide) (hdb : (x == ("__debug__" : Str)) = false := by decide) : W (PE X (.Call (.Name x p) [] [] pos) (tCall sp [] E0 tNil)) := ⟨pe_g0 (G := G) (hr := hr) (hg := hg) (hj := hj) (hdb := hdb)⟩
theorem w_pt {e : Expr} {t : TT} (h : W (PW X e t)) : W (PT X e t) := ⟨PW.pt h.h⟩
theorem w_ps_nox {st : Stmt} {t : TS} (h : W (PS X.nox st t)) : W (PS X st t) := ⟨PS.nox h.h⟩
end
end L2
set_option Elab.async false
set_option linter.all false
set_option maxRecDepth 100000
set_option maxHeartbeats 4000000
namespace K14
open PySem PySem.Spec PyProof.Rows L2
local macro_rules | `(tactic| simp_all only [$ls,*]) => `(tactic| simp only [tVar, tC, tAnd, tOr, tNot, tIf, tNext, tSeq, tBreak, tCont, tDrop, tRet, tRetN, tIfS, gName, gNil_n, gCons_c, tAsg, tAug, ipI, tOp, tUn, tNil, tCons, tTupA, tLstA, tDNewA, tCall, tMakeA, tCallX, tMakeXA, tCB, tRaise, uAdd_ii, uAdd_ss, uAdd_rr, uMul_ii, uMul_ri, uIx_r, uIx_s, uLen_r, uLen_s, rI_ii, rI0_ii, rU_i, uEq_ii, uEq_ss, uEq_bb, uEq_rr, uInt_i, uInt_b, uStr_i, uMax_ii, uMin_ii, uTru_b, uTru_n, uTru_i, tTru_eq, uB_b, tB_eq, tTest_eq, tAndV_eq, tOrV_eq, tNotV_eq, tChain_eq, uR_r, uFld_eq, uSetF_eq, tMeth_eq, tMethX_eq, uApp, tFor_eq, uI1_i, iRng1_eq, iList_eq, iTup_eq, uR2_r, iZip_eq, tLC_eq, CompN_t, CompN_f, pick, Option.bind_some, Option.bind_none, Option.join_some, tAll, and_assoc, exists_and_left, exists_and_right, exists_eq_left', exists_eq_left, exists_eq, exists_eq', exists_eq_right, exists_eq_right', and_true, true_and, and_false, false_and, or_false, false_or, exists_false, exists_const, Option.some.injEq, V.int.injEq, V.str.injEq, V.ref.injEq, V.bl.injEq, V.ty.injEq, HO.lst.injEq, HO.tup.injEq, HO.ins.injEq, List.cons.injEq, reduceCtorEq, reduceIte, Bool.false_eq_true, List.getElem?_cons_zero, List.getElem?_cons_succ, List.set_cons_zero, List.set_cons_succ, List.nil_append, List.cons_append, List.append_nil, List.length_cons, List.length_nil, L2.start, List.map_cons, List.map_nil, List.replicate, Nat.reduceSub, Nat.reduceAdd, Bool.not_true, Bool.not_false, uAugF, rAdd_ii, rSub_ii, uIsN_n, uIsN_i, uMulS_ii, uMulS_ri, uMulS_si, uSl_s, uSl_r, tSl, tNoPart, tPart_eq, uPart_i, rSetL_r, gSub, uListOf_r, uClear, uJoinE, uS_s, rJoin_sr, uRev, iEnum_eq, uR1_r, iRng2_eq, uI2_i, $ls,*])
def top (i : Nat) : Stmt := PySem.Challenge.pw_cleanrows_k14_disks_written.main.body.getD i (.Pass ⟨0, 0, 0, 0⟩)

/-! ### what a disk is, without the heap -/
abbrev Tx := Option Str
def tv : Tx → V | none => .non | some z => .str z
def lv : Option Int → V | none => .non | some i => .int i
structure DM where
  rows : List (List Tx)
  sides : List Tx
  cnt : Int
  left : Option Int
  st : Bool
def dn (left : Option Int) (many : Int) : Int := match left with | none => many | some l => if l < many then l else many
def DM.spend (d : DM) (many : Int) : DM := { d with cnt := d.cnt + dn d.left many, left := d.left.map (· - dn d.left many), st := decide (dn d.left many < many) }
inductive Res where | val (v : V) | full | stop
def cutT (t : Str) (n : Int) : Tx := some (Txt.slice t none (some n))
def DM.write (m : Int) (d : DM) (k : Nat) (t : Str) : Res × DM :=
  if d.st = true then (.stop, d) else if ((d.rows.getD k []).length : Int) = m then (.full, d) else
  if dn d.left t.length = 0 ∧ (d.spend t.length).st = true then (.stop, d.spend t.length) else
  ((if (d.spend t.length).st = true then .stop else .val (.int (d.rows.getD k []).length)), { d.spend t.length with rows := d.rows.set k (d.rows.getD k [] ++ [cutT t (dn d.left t.length)]) })
def DM.empty (d : DM) (k : Nat) : Res × DM :=
  if d.st = true then (.stop, d) else
  if (d.spend (d.rows.getD k []).length).st = true then (.stop, { d.spend (d.rows.getD k []).length with rows := d.rows.set k (List.replicate (dn d.left (d.rows.getD k []).length).toNat none ++ (d.rows.getD k []).drop (dn d.left (d.rows.getD k []).length).toNat) }) else
  (.val .non, { d.spend (d.rows.getD k []).length with rows := d.rows.set k [] })
def DM.put (d : DM) (k : Nat) (t : Str) : Res × DM :=
  if d.st = true then (.stop, d) else if dn d.left t.length = 0 ∧ (d.spend t.length).st = true then (.stop, d.spend t.length) else
  ((if (d.spend t.length).st = true then .stop else .val .non), { d.spend t.length with sides := d.sides.set k (cutT t (dn d.left t.length)) })
/-! ### where it stands -/
structure ClsA where
  CleanError : Addr
  NoRow : Addr
  NoDisk : Addr
  Full : Addr
  Stopped : Addr
  NoFile : Addr
  NoPlace : Addr
  HeldAlready : Addr
  NotHeld : Addr
  NoFiles : Addr
  NoMark : Addr
  NoRoom : Addr
  Gone : Addr
  NotClosed : Addr
  NotBlank : Addr
  NoDeed : Addr
  NoHouse : Addr
  Disk : Addr
structure Txt (K : PySem.W.Frag) (mg : Str → Option Value) (A : ClsA) : Prop where
  n_ValueError : mg "ValueError" = none
  n_bool : mg "bool" = none
  n_enumerate : mg "enumerate" = none
  n_int : mg "int" = none
  n_isinstance : mg "isinstance" = none
  n_len : mg "len" = none
  n_list : mg "list" = none
  n_max : mg "max" = none
  n_min : mg "min" = none
  n_range : mg "range" = none
  n_zip : mg "zip" = none
  c_LEAST_STRETCHES : ∃ u, mg "LEAST_STRETCHES" = some u ∧ RelV (.int 3) u
  c_MOST_STRETCHES : ∃ u, mg "MOST_STRETCHES" = some u ∧ RelV (.int 16) u
  c_LEAST_PLACES : ∃ u, mg "LEAST_PLACES" = some u ∧ RelV (.int 2) u
  c_MOST_PLACES : ∃ u, mg "MOST_PLACES" = some u ∧ RelV (.int 32) u
  mg_CleanError : mg "CleanError" = some (.ref A.CleanError)
  mg_NoRow : mg "NoRow" = some (.ref A.NoRow)
  mg_NoDisk : mg "NoDisk" = some (.ref A.NoDisk)
  mg_Full : mg "Full" = some (.ref A.Full)
  mg_Stopped : mg "Stopped" = some (.ref A.Stopped)
  mg_NoFile : mg "NoFile" = some (.ref A.NoFile)
  mg_NoPlace : mg "NoPlace" = some (.ref A.NoPlace)
  mg_HeldAlready : mg "HeldAlready" = some (.ref A.HeldAlready)
  mg_NotHeld : mg "NotHeld" = some (.ref A.NotHeld)
  mg_NoFiles : mg "NoFiles" = some (.ref A.NoFiles)
  mg_NoMark : mg "NoMark" = some (.ref A.NoMark)
  mg_NoRoom : mg "NoRoom" = some (.ref A.NoRoom)
  mg_Gone : mg "Gone" = some (.ref A.Gone)
  mg_NotClosed : mg "NotClosed" = some (.ref A.NotClosed)
  mg_NotBlank : mg "NotBlank" = some (.ref A.NotBlank)
  mg_NoDeed : mg "NoDeed" = some (.ref A.NoDeed)
  mg_NoHouse : mg "NoHouse" = some (.ref A.NoHouse)
  mg_Disk : mg "Disk" = some (.ref A.Disk)
  ek_CleanError : ErrK K A.CleanError
  ek_NoDisk : ErrK K A.NoDisk
  ek_Full : ErrK K A.Full
  ek_Stopped : ErrK K A.Stopped
  ec_Full : ErrC K A.Full
  mro_Full : PySem.W.mroIn K A.Full (.ref A.CleanError) = some true
  k_Full_ValueError : PySem.W.kitOne K (.ref A.Full) (.type "ValueError") = some true
  k_Full_NoRow : PySem.W.kitOne K (.ref A.Full) (.ref A.NoRow) = some false
  k_Full_NoDisk : PySem.W.kitOne K (.ref A.Full) (.ref A.NoDisk) = some false
  k_Full_Full : PySem.W.kitOne K (.ref A.Full) (.ref A.Full) = some true
  k_Full_Stopped : PySem.W.kitOne K (.ref A.Full) (.ref A.Stopped) = some false
  k_Full_NoFile : PySem.W.kitOne K (.ref A.Full) (.ref A.NoFile) = some false
  k_Full_NoPlace : PySem.W.kitOne K (.ref A.Full) (.ref A.NoPlace) = some false
  k_Full_HeldAlready : PySem.W.kitOne K (.ref A.Full) (.ref A.HeldAlready) = some false
  k_Full_NotHeld : PySem.W.kitOne K (.ref A.Full) (.ref A.NotHeld) = some false
  k_Full_NoFiles : PySem.W.kitOne K (.ref A.Full) (.ref A.NoFiles) = some false
  k_Full_NoMark : PySem.W.kitOne K (.ref A.Full) (.ref A.NoMark) = some false
  k_Full_NoRoom : PySem.W.kitOne K (.ref A.Full) (.ref A.NoRoom) = some false
  k_Full_Gone : PySem.W.kitOne K (.ref A.Full) (.ref A.Gone) = some false
  k_Full_NotClosed : PySem.W.kitOne K (.ref A.Full) (.ref A.NotClosed) = some false
  k_Full_NotBlank : PySem.W.kitOne K (.ref A.Full) (.ref A.NotBlank) = some false
  k_Full_NoDeed : PySem.W.kitOne K (.ref A.Full) (.ref A.NoDeed) = some false
  k_Full_NoHouse : PySem.W.kitOne K (.ref A.Full) (.ref A.NoHouse) = some false
  ec_Stopped : ErrC K A.Stopped
  mro_Stopped : PySem.W.mroIn K A.Stopped (.ref A.CleanError) = some true
  k_Stopped_ValueError : PySem.W.kitOne K (.ref A.Stopped) (.type "ValueError") = some true
  k_Stopped_NoRow : PySem.W.kitOne K (.ref A.Stopped) (.ref A.NoRow) = some false
  k_Stopped_NoDisk : PySem.W.kitOne K (.ref A.Stopped) (.ref A.NoDisk) = some false
  k_Stopped_Full : PySem.W.kitOne K (.ref A.Stopped) (.ref A.Full) = some false
  k_Stopped_Stopped : PySem.W.kitOne K (.ref A.Stopped) (.ref A.Stopped) = some true
  k_Stopped_NoFile : PySem.W.kitOne K (.ref A.Stopped) (.ref A.NoFile) = some false
  k_Stopped_NoPlace : PySem.W.kitOne K (.ref A.Stopped) (.ref A.NoPlace) = some false
  k_Stopped_HeldAlready : PySem.W.kitOne K (.ref A.Stopped) (.ref A.HeldAlready) = some false
  k_Stopped_NotHeld : PySem.W.kitOne K (.ref A.Stopped) (.ref A.NotHeld) = some false
  k_Stopped_NoFiles : PySem.W.kitOne K (.ref A.Stopped) (.ref A.NoFiles) = some false
  k_Stopped_NoMark : PySem.W.kitOne K (.ref A.Stopped) (.ref A.NoMark) = some false
  k_Stopped_NoRoom : PySem.W.kitOne K (.ref A.Stopped) (.ref A.NoRoom) = some false
  k_Stopped_Gone : PySem.W.kitOne K (.ref A.Stopped) (.ref A.Gone) = some false
  k_Stopped_NotClosed : PySem.W.kitOne K (.ref A.Stopped) (.ref A.NotClosed) = some false
  k_Stopped_NotBlank : PySem.W.kitOne K (.ref A.Stopped) (.ref A.NotBlank) = some false
  k_Stopped_NoDeed : PySem.W.kitOne K (.ref A.Stopped) (.ref A.NoDeed) = some false
  k_Stopped_NoHouse : PySem.W.kitOne K (.ref A.Stopped) (.ref A.NoHouse) = some false
  cl_Disk : Cls K A.Disk
  na_Disk_at_sides : NoAttr K A.Disk "at_sides"
  na_Disk_counted : NoAttr K A.Disk "counted"
  na_Disk_has_stopped : NoAttr K A.Disk "has_stopped"
  na_Disk_left : NoAttr K A.Disk "left"
  na_Disk_width : NoAttr K A.Disk "width"
  na_Disk_written : NoAttr K A.Disk "written"
theorem Txt.c_NoRow {K : PySem.W.Frag} {mg : Str → Option Value} {A : ClsA} (T : Txt K mg A) : ∃ u, mg "NoRow" = some u ∧ RelV (.ref A.NoRow) u := ⟨_, T.mg_NoRow, rfl⟩
theorem Txt.c_NoDisk {K : PySem.W.Frag} {mg : Str → Option Value} {A : ClsA} (T : Txt K mg A) : ∃ u, mg "NoDisk" = some u ∧ RelV (.ref A.NoDisk) u := ⟨_, T.mg_NoDisk, rfl⟩
theorem Txt.c_Full {K : PySem.W.Frag} {mg : Str → Option Value} {A : ClsA} (T : Txt K mg A) : ∃ u, mg "Full" = some u ∧ RelV (.ref A.Full) u := ⟨_, T.mg_Full, rfl⟩
theorem Txt.c_Stopped {K : PySem.W.Frag} {mg : Str → Option Value} {A : ClsA} (T : Txt K mg A) : ∃ u, mg "Stopped" = some u ∧ RelV (.ref A.Stopped) u := ⟨_, T.mg_Stopped, rfl⟩
theorem Txt.c_NoFile {K : PySem.W.Frag} {mg : Str → Option Value} {A : ClsA} (T : Txt K mg A) : ∃ u, mg "NoFile" = some u ∧ RelV (.ref A.NoFile) u := ⟨_, T.mg_NoFile, rfl⟩
theorem Txt.c_NoPlace {K : PySem.W.Frag} {mg : Str → Option Value} {A : ClsA} (T : Txt K mg A) : ∃ u, mg "NoPlace" = some u ∧ RelV (.ref A.NoPlace) u := ⟨_, T.mg_NoPlace, rfl⟩
theorem Txt.c_HeldAlready {K : PySem.W.Frag} {mg : Str → Option Value} {A : ClsA} (T : Txt K mg A) : ∃ u, mg "HeldAlready" = some u ∧ RelV (.ref A.HeldAlready) u := ⟨_, T.mg_HeldAlready, rfl⟩
theorem Txt.c_NotHeld {K : PySem.W.Frag} {mg : Str → Option Value} {A : ClsA} (T : Txt K mg A) : ∃ u, mg "NotHeld" = some u ∧ RelV (.ref A.NotHeld) u := ⟨_, T.mg_NotHeld, rfl⟩
theorem Txt.c_NoFiles {K : PySem.W.Frag} {mg : Str → Option Value} {A : ClsA} (T : Txt K mg A) : ∃ u, mg "NoFiles" = some u ∧ RelV (.ref A.NoFiles) u := ⟨_, T.mg_NoFiles, rfl⟩
theorem Txt.c_NoMark {K : PySem.W.Frag} {mg : Str → Option Value} {A : ClsA} (T : Txt K mg A) : ∃ u, mg "NoMark" = some u ∧ RelV (.ref A.NoMark) u := ⟨_, T.mg_NoMark, rfl⟩
theorem Txt.c_NoRoom {K : PySem.W.Frag} {mg : Str → Option Value} {A : ClsA} (T : Txt K mg A) : ∃ u, mg "NoRoom" = some u ∧ RelV (.ref A.NoRoom) u := ⟨_, T.mg_NoRoom, rfl⟩
theorem Txt.c_Gone {K : PySem.W.Frag} {mg : Str → Option Value} {A : ClsA} (T : Txt K mg A) : ∃ u, mg "Gone" = some u ∧ RelV (.ref A.Gone) u := ⟨_, T.mg_Gone, rfl⟩
theorem Txt.c_NotClosed {K : PySem.W.Frag} {mg : Str → Option Value} {A : ClsA} (T : Txt K mg A) : ∃ u, mg "NotClosed" = some u ∧ RelV (.ref A.NotClosed) u := ⟨_, T.mg_NotClosed, rfl⟩
theorem Txt.c_NotBlank {K : PySem.W.Frag} {mg : Str → Option Value} {A : ClsA} (T : Txt K mg A) : ∃ u, mg "NotBlank" = some u ∧ RelV (.ref A.NotBlank) u := ⟨_, T.mg_NotBlank, rfl⟩
theorem Txt.c_NoDeed {K : PySem.W.Frag} {mg : Str → Option Value} {A : ClsA} (T : Txt K mg A) : ∃ u, mg "NoDeed" = some u ∧ RelV (.ref A.NoDeed) u := ⟨_, T.mg_NoDeed, rfl⟩
theorem Txt.c_NoHouse {K : PySem.W.Frag} {mg : Str → Option Value} {A : ClsA} (T : Txt K mg A) : ∃ u, mg "NoHouse" = some u ∧ RelV (.ref A.NoHouse) u := ⟨_, T.mg_NoHouse, rfl⟩
theorem nb_at_sides_counted : (("at_sides" : Str) == "counted") = false := by decide +kernel
theorem nb_at_sides_has_stopped : (("at_sides" : Str) == "has_stopped") = false := by decide +kernel
theorem nb_at_sides_left : (("at_sides" : Str) == "left") = false := by decide +kernel
theorem nb_at_sides_width : (("at_sides" : Str) == "width") = false := by decide +kernel
theorem nb_at_sides_written : (("at_sides" : Str) == "written") = false := by decide +kernel
theorem nb_counted_at_sides : (("counted" : Str) == "at_sides") = false := by decide +kernel
theorem nb_counted_has_stopped : (("counted" : Str) == "has_stopped") = false := by decide +kernel
theorem nb_counted_left : (("counted" : Str) == "left") = false := by decide +kernel
theorem nb_counted_width : (("counted" : Str) == "width") = false := by decide +kernel
theorem nb_counted_written : (("counted" : Str) == "written") = false := by decide +kernel
theorem nb_has_stopped_at_sides : (("has_stopped" : Str) == "at_sides") = false := by decide +kernel
theorem nb_has_stopped_counted : (("has_stopped" : Str) == "counted") = false := by decide +kernel
theorem nb_has_stopped_left : (("has_stopped" : Str) == "left") = false := by decide +kernel
theorem nb_has_stopped_width : (("has_stopped" : Str) == "width") = false := by decide +kernel
theorem nb_has_stopped_written : (("has_stopped" : Str) == "written") = false := by decide +kernel
theorem nb_left_at_sides : (("left" : Str) == "at_sides") = false := by decide +kernel
theorem nb_left_counted : (("left" : Str) == "counted") = false := by decide +kernel
theorem nb_left_has_stopped : (("left" : Str) == "has_stopped") = false := by decide +kernel
theorem nb_left_width : (("left" : Str) == "width") = false := by decide +kernel
theorem nb_left_written : (("left" : Str) == "written") = false := by decide +kernel
theorem nb_width_at_sides : (("width" : Str) == "at_sides") = false := by decide +kernel
theorem nb_width_counted : (("width" : Str) == "counted") = false := by decide +kernel
theorem nb_width_has_stopped : (("width" : Str) == "has_stopped") = false := by decide +kernel
theorem nb_width_left : (("width" : Str) == "left") = false := by decide +kernel
theorem nb_width_written : (("width" : Str) == "written") = false := by decide +kernel
theorem nb_written_at_sides : (("written" : Str) == "at_sides") = false := by decide +kernel
theorem nb_written_counted : (("written" : Str) == "counted") = false := by decide +kernel
theorem nb_written_has_stopped : (("written" : Str) == "has_stopped") = false := by decide +kernel
theorem nb_written_left : (("written" : Str) == "left") = false := by decide +kernel
theorem nb_written_width : (("written" : Str) == "width") = false := by decide +kernel
theorem nb_stretches_at_sides : (("stretches" : Str) == "at_sides") = false := by decide +kernel
theorem nb_stretches_counted : (("stretches" : Str) == "counted") = false := by decide +kernel
theorem nb_stretches_has_stopped : (("stretches" : Str) == "has_stopped") = false := by decide +kernel
theorem nb_stretches_left : (("stretches" : Str) == "left") = false := by decide +kernel
theorem nb_stretches_width : (("stretches" : Str) == "width") = false := by decide +kernel
theorem nb_stretches_written : (("stretches" : Str) == "written") = false := by decide +kernel
theorem nb_places_at_sides : (("places" : Str) == "at_sides") = false := by decide +kernel
theorem nb_places_counted : (("places" : Str) == "counted") = false := by decide +kernel
theorem nb_places_has_stopped : (("places" : Str) == "has_stopped") = false := by decide +kernel
theorem nb_places_left : (("places" : Str) == "left") = false := by decide +kernel
theorem nb_places_width : (("places" : Str) == "width") = false := by decide +kernel
theorem nb_places_written : (("places" : Str) == "written") = false := by decide +kernel
theorem nb_next_place_at_sides : (("next_place" : Str) == "at_sides") = false := by decide +kernel
theorem nb_next_place_counted : (("next_place" : Str) == "counted") = false := by decide +kernel
theorem nb_next_place_has_stopped : (("next_place" : Str) == "has_stopped") = false := by decide +kernel
theorem nb_next_place_left : (("next_place" : Str) == "left") = false := by decide +kernel
theorem nb_next_place_width : (("next_place" : Str) == "width") = false := by decide +kernel
theorem nb_next_place_written : (("next_place" : Str) == "written") = false := by decide +kernel
theorem nb_told_at_sides : (("told" : Str) == "at_sides") = false := by decide +kernel
theorem nb_told_counted : (("told" : Str) == "counted") = false := by decide +kernel
theorem nb_told_has_stopped : (("told" : Str) == "has_stopped") = false := by decide +kernel
theorem nb_told_left : (("told" : Str) == "left") = false := by decide +kernel
theorem nb_told_width : (("told" : Str) == "width") = false := by decide +kernel
theorem nb_told_written : (("told" : Str) == "written") = false := by decide +kernel
theorem nb_side_at_sides : (("side" : Str) == "at_sides") = false := by decide +kernel
theorem nb_side_counted : (("side" : Str) == "counted") = false := by decide +kernel
theorem nb_side_has_stopped : (("side" : Str) == "has_stopped") = false := by decide +kernel
theorem nb_side_left : (("side" : Str) == "left") = false := by decide +kernel
theorem nb_side_width : (("side" : Str) == "width") = false := by decide +kernel
theorem nb_side_written : (("side" : Str) == "written") = false := by decide +kernel
theorem nb_signs_at_sides : (("signs" : Str) == "at_sides") = false := by decide +kernel
theorem nb_signs_counted : (("signs" : Str) == "counted") = false := by decide +kernel
theorem nb_signs_has_stopped : (("signs" : Str) == "has_stopped") = false := by decide +kernel
theorem nb_signs_left : (("signs" : Str) == "left") = false := by decide +kernel
theorem nb_signs_width : (("signs" : Str) == "width") = false := by decide +kernel
theorem nb_signs_written : (("signs" : Str) == "written") = false := by decide +kernel
theorem nb_write_at_sides : (("write" : Str) == "at_sides") = false := by decide +kernel
theorem nb_write_counted : (("write" : Str) == "counted") = false := by decide +kernel
theorem nb_write_has_stopped : (("write" : Str) == "has_stopped") = false := by decide +kernel
theorem nb_write_left : (("write" : Str) == "left") = false := by decide +kernel
theorem nb_write_width : (("write" : Str) == "width") = false := by decide +kernel
theorem nb_write_written : (("write" : Str) == "written") = false := by decide +kernel
theorem nb_put_side_at_sides : (("put_side" : Str) == "at_sides") = false := by decide +kernel
theorem nb_put_side_counted : (("put_side" : Str) == "counted") = false := by decide +kernel
theorem nb_put_side_has_stopped : (("put_side" : Str) == "has_stopped") = false := by decide +kernel
theorem nb_put_side_left : (("put_side" : Str) == "left") = false := by decide +kernel
theorem nb_put_side_width : (("put_side" : Str) == "width") = false := by decide +kernel
theorem nb_put_side_written : (("put_side" : Str) == "written") = false := by decide +kernel
theorem nb_empty_at_sides : (("empty" : Str) == "at_sides") = false := by decide +kernel
theorem nb_empty_counted : (("empty" : Str) == "counted") = false := by decide +kernel
theorem nb_empty_has_stopped : (("empty" : Str) == "has_stopped") = false := by decide +kernel
theorem nb_empty_left : (("empty" : Str) == "left") = false := by decide +kernel
theorem nb_empty_width : (("empty" : Str) == "width") = false := by decide +kernel
theorem nb_empty_written : (("empty" : Str) == "written") = false := by decide +kernel
theorem nb_copied_at_sides : (("copied" : Str) == "at_sides") = false := by decide +kernel
theorem nb_copied_counted : (("copied" : Str) == "counted") = false := by decide +kernel
theorem nb_copied_has_stopped : (("copied" : Str) == "has_stopped") = false := by decide +kernel
theorem nb_copied_left : (("copied" : Str) == "left") = false := by decide +kernel
theorem nb_copied_width : (("copied" : Str) == "width") = false := by decide +kernel
theorem nb_copied_written : (("copied" : Str) == "written") = false := by decide +kernel
theorem nb_refuse_if_stopped_at_sides : (("refuse_if_stopped" : Str) == "at_sides") = false := by decide +kernel
theorem nb_refuse_if_stopped_counted : (("refuse_if_stopped" : Str) == "counted") = false := by decide +kernel
theorem nb_refuse_if_stopped_has_stopped : (("refuse_if_stopped" : Str) == "has_stopped") = false := by decide +kernel
theorem nb_refuse_if_stopped_left : (("refuse_if_stopped" : Str) == "left") = false := by decide +kernel
theorem nb_refuse_if_stopped_width : (("refuse_if_stopped" : Str) == "width") = false := by decide +kernel
theorem nb_refuse_if_stopped_written : (("refuse_if_stopped" : Str) == "written") = false := by decide +kernel
theorem nb_spend_at_sides : (("spend" : Str) == "at_sides") = false := by decide +kernel
theorem nb_spend_counted : (("spend" : Str) == "counted") = false := by decide +kernel
theorem nb_spend_has_stopped : (("spend" : Str) == "has_stopped") = false := by decide +kernel
theorem nb_spend_left : (("spend" : Str) == "left") = false := by decide +kernel
theorem nb_spend_width : (("spend" : Str) == "width") = false := by decide +kernel
theorem nb_spend_written : (("spend" : Str) == "written") = false := by decide +kernel
theorem nb_first_signs_at_sides : (("first_signs" : Str) == "at_sides") = false := by decide +kernel
theorem nb_first_signs_counted : (("first_signs" : Str) == "counted") = false := by decide +kernel
theorem nb_first_signs_has_stopped : (("first_signs" : Str) == "has_stopped") = false := by decide +kernel
theorem nb_first_signs_left : (("first_signs" : Str) == "left") = false := by decide +kernel
theorem nb_first_signs_width : (("first_signs" : Str) == "width") = false := by decide +kernel
theorem nb_first_signs_written : (("first_signs" : Str) == "written") = false := by decide +kernel
theorem np_at_sides_counted : (("at_sides" : Str) = "counted") = False := by simpa using nb_at_sides_counted
theorem np_at_sides_has_stopped : (("at_sides" : Str) = "has_stopped") = False := by simpa using nb_at_sides_has_stopped
theorem np_at_sides_left : (("at_sides" : Str) = "left") = False := by simpa using nb_at_sides_left
theorem np_counted_has_stopped : (("counted" : Str) = "has_stopped") = False := by simpa using nb_counted_has_stopped
theorem np_counted_left : (("counted" : Str) = "left") = False := by simpa using nb_counted_left
theorem np_left_has_stopped : (("left" : Str) = "has_stopped") = False := by simpa using nb_left_has_stopped
theorem np_width_at_sides : (("width" : Str) = "at_sides") = False := by simpa using nb_width_at_sides
theorem np_width_counted : (("width" : Str) = "counted") = False := by simpa using nb_width_counted
theorem np_width_has_stopped : (("width" : Str) = "has_stopped") = False := by simpa using nb_width_has_stopped
theorem np_width_left : (("width" : Str) = "left") = False := by simpa using nb_width_left
theorem np_width_written : (("width" : Str) = "written") = False := by simpa using nb_width_written
theorem np_written_at_sides : (("written" : Str) = "at_sides") = False := by simpa using nb_written_at_sides
theorem np_written_counted : (("written" : Str) = "counted") = False := by simpa using nb_written_counted
theorem np_written_has_stopped : (("written" : Str) = "has_stopped") = False := by simpa using nb_written_has_stopped
theorem np_written_left : (("written" : Str) = "left") = False := by simpa using nb_written_left
structure Rows (H : Hp) (wl : Addr) (cells : List Addr) (rows : List (List Tx)) : Prop where
  w : H wl = some (.lst (cells.map V.ref))
  len : cells.length = rows.length
  at_ : ∀ i c, cells[i]? = some c → H c = some (.lst ((rows.getD i []).map tv))
def flds (m : Int) (wl sl : Addr) (d : DM) : List (Str × V) := [("width", .int m), ("written", .ref wl), ("at_sides", .ref sl), ("counted", .int d.cnt), ("left", lv d.left), ("has_stopped", .bl d.st)]
structure DiskAt (A : ClsA) (H : Hp) (p wl sl : Addr) (cells : List Addr) (m : Int) (d : DM) : Prop where
  ob : ∃ dx, H p = some (.ins A.Disk dx (flds m wl sl d))
  rows : Rows H wl cells d.rows
  sides : H sl = some (.lst (d.sides.map tv))
  nd : (p :: wl :: sl :: cells).Nodup
structure StAt (H : Hp) (q rl sl : Addr) (cells : List Addr) (d : DM) : Prop where
  ob : H q = some (.lst [.ref rl, .ref sl, .int d.cnt, lv d.left, .bl d.st])
  rows : Rows H rl cells d.rows
  sides : H sl = some (.lst (d.sides.map tv))
  nd : (q :: rl :: sl :: cells).Nodup
/-- all but what stands at F is as it was -/
def Keeps (F : List Addr) (H H' : Hp) : Prop := ∀ b o, H b = some o → b ∉ F → H' b = some o
theorem Keeps.refl {F : List Addr} {H : Hp} : Keeps F H H := fun _ _ h _ => h
theorem Keeps.trans {F : List Addr} {H H1 H2 : Hp} (a : Keeps F H H1) (b : Keeps F H1 H2) : Keeps F H H2 := fun c o h hc => b c o (a c o h hc) hc
theorem Keeps.mono {F G : List Addr} {H H' : Hp} (a : Keeps F H H') (s : ∀ x ∈ F, x ∈ G) : Keeps G H H' := fun c o h hc => a c o h fun z => hc (s c z)
theorem Keeps.same {F : List Addr} {H H' : Hp} (a : Same H H') : Keeps F H H' := fun c o h _ => a c o h
theorem Keeps.upd {F : List Addr} {H : Hp} {x : Addr} {o : HO} (hx : x ∈ F) : Keeps F H (L2.upd H x o) := fun c u h hc => by
  have hne : c ≠ x := fun z => hc (by rw [z]; exact hx)
  rw [upd_ne hne]; exact h
theorem Rows.keep {H H' : Hp} {wl : Addr} {cells : List Addr} {rows : List (List Tx)} (r : Rows H wl cells rows) (k : ∀ b o, H b = some o → b = wl ∨ b ∈ cells → H' b = some o) : Rows H' wl cells rows :=
  ⟨k _ _ r.w (.inl rfl), r.len, fun i c hc => k _ _ (r.at_ i c hc) (.inr (List.mem_of_getElem? hc))⟩
theorem DiskAt.keep {A : ClsA} {H H' : Hp} {p wl sl : Addr} {cells : List Addr} {m : Int} {d : DM} {F : List Addr} (D : DiskAt A H p wl sl cells m d) (k : Keeps F H H') (hF : ∀ x ∈ p :: wl :: sl :: cells, x ∉ F) : DiskAt A H' p wl sl cells m d := by
  obtain ⟨dx, h⟩ := D.ob
  refine ⟨⟨dx, k _ _ h (hF _ (by simp))⟩, D.rows.keep fun b o e hb => k b o e (hF b ?_), k _ _ D.sides (hF _ (by simp)), D.nd⟩
  rcases hb with rfl | hb
  · simp
  · simp [hb]
theorem StAt.keep {H H' : Hp} {q rl sl : Addr} {cells : List Addr} {d : DM} {F : List Addr} (D : StAt H q rl sl cells d) (k : Keeps F H H') (hF : ∀ x ∈ q :: rl :: sl :: cells, x ∉ F) : StAt H' q rl sl cells d := by
  refine ⟨k _ _ D.ob (hF _ (by simp)), D.rows.keep fun b o e hb => k b o e (hF b ?_), k _ _ D.sides (hF _ (by simp)), D.nd⟩
  rcases hb with rfl | hb
  · simp
  · simp [hb]
theorem ix_inj {l : List Addr} (nd : l.Nodup) {i j : Nat} {a : Addr} (h1 : l[i]? = some a) (h2 : l[j]? = some a) : i = j := by
  obtain ⟨hi, e1⟩ := List.getElem?_eq_some_iff.mp h1
  obtain ⟨hj, e2⟩ := List.getElem?_eq_some_iff.mp h2
  exact (List.getElem_inj nd).mp (e1.trans e2.symm)
/-- a row is put anew -/
theorem Rows.set {H : Hp} {wl : Addr} {cells : List Addr} {rows : List (List Tx)} {k : Nat} {c : Addr} {r : List Tx} (R : Rows H wl cells rows) (nd : (wl :: cells).Nodup) (hc : cells[k]? = some c) : Rows (upd H c (.lst (r.map tv))) wl cells (rows.set k r) := by
  have hn := List.nodup_cons.mp nd
  have hk : k < rows.length := by rw [← R.len]; exact (List.getElem?_eq_some_iff.mp hc).1
  have hwc : wl ≠ c := fun z => hn.1 (by rw [z]; exact List.mem_of_getElem? hc)
  refine ⟨by rw [upd_ne hwc]; exact R.w, by rw [List.length_set]; exact R.len, fun i b hb => ?_⟩
  by_cases hi : i = k
  · subst hi
    rw [hc] at hb
    cases hb
    rw [upd_same]
    simp [List.getD_eq_getElem?_getD, hk]
  · have hbc : b ≠ c := fun z => by
      subst z
      exact hi (ix_inj hn.2 hb hc)
    rw [upd_ne hbc, R.at_ i b hb]
    simp [List.getD_eq_getElem?_getD, List.getElem?_set_ne (Ne.symm hi)]
abbrev s_Disk_stretches : Stmt := inClass (top 26) 1
abbrev s_Disk_places : Stmt := inClass (top 26) 2
abbrev s_Disk_next_place : Stmt := inClass (top 26) 3
abbrev s_Disk_told : Stmt := inClass (top 26) 4
abbrev s_Disk_side : Stmt := inClass (top 26) 5
abbrev s_Disk_signs : Stmt := inClass (top 26) 6
abbrev s_Disk_refuse_if_stopped : Stmt := inClass (top 26) 12
abbrev s_Disk_spend : Stmt := inClass (top 26) 13
abbrev s_Disk_first_signs : Stmt := inClass (top 26) 14
section
variable {P : Program} {w : World} {K : PySem.W.Frag} {mg : Str → Option Value} {base : Heap} {A : ClsA}
section
variable {m : Int} {wl sl : Addr} {d : DM}
theorem fl_width : (flds m wl sl d).lookup ("width" : Str) = some (.int m) := by simp only [flds, List.lookup, beq_self_eq_true]
theorem fl_written : (flds m wl sl d).lookup ("written" : Str) = some (.ref wl) := by simp only [flds, List.lookup, beq_self_eq_true, nb_written_width]
theorem fl_at_sides : (flds m wl sl d).lookup ("at_sides" : Str) = some (.ref sl) := by simp only [flds, List.lookup, beq_self_eq_true, nb_at_sides_width, nb_at_sides_written]
theorem fl_counted : (flds m wl sl d).lookup ("counted" : Str) = some (.int d.cnt) := by simp only [flds, List.lookup, beq_self_eq_true, nb_counted_width, nb_counted_written, nb_counted_at_sides]
theorem fl_left : (flds m wl sl d).lookup ("left" : Str) = some (lv d.left) := by simp only [flds, List.lookup, beq_self_eq_true, nb_left_width, nb_left_written, nb_left_at_sides, nb_left_counted]
theorem fl_has_stopped : (flds m wl sl d).lookup ("has_stopped" : Str) = some (.bl d.st) := by simp only [flds, List.lookup, beq_self_eq_true, nb_has_stopped_width, nb_has_stopped_written, nb_has_stopped_at_sides, nb_has_stopped_counted, nb_has_stopped_left]
theorem fl_stretches : (flds m wl sl d).lookup ("stretches" : Str) = none := by simp only [flds, List.lookup, nb_stretches_width, nb_stretches_written, nb_stretches_at_sides, nb_stretches_counted, nb_stretches_left, nb_stretches_has_stopped]
theorem fl_places : (flds m wl sl d).lookup ("places" : Str) = none := by simp only [flds, List.lookup, nb_places_width, nb_places_written, nb_places_at_sides, nb_places_counted, nb_places_left, nb_places_has_stopped]
theorem fl_next_place : (flds m wl sl d).lookup ("next_place" : Str) = none := by simp only [flds, List.lookup, nb_next_place_width, nb_next_place_written, nb_next_place_at_sides, nb_next_place_counted, nb_next_place_left, nb_next_place_has_stopped]
theorem fl_told : (flds m wl sl d).lookup ("told" : Str) = none := by simp only [flds, List.lookup, nb_told_width, nb_told_written, nb_told_at_sides, nb_told_counted, nb_told_left, nb_told_has_stopped]
theorem fl_side : (flds m wl sl d).lookup ("side" : Str) = none := by simp only [flds, List.lookup, nb_side_width, nb_side_written, nb_side_at_sides, nb_side_counted, nb_side_left, nb_side_has_stopped]
theorem fl_signs : (flds m wl sl d).lookup ("signs" : Str) = none := by simp only [flds, List.lookup, nb_signs_width, nb_signs_written, nb_signs_at_sides, nb_signs_counted, nb_signs_left, nb_signs_has_stopped]
theorem fl_write : (flds m wl sl d).lookup ("write" : Str) = none := by simp only [flds, List.lookup, nb_write_width, nb_write_written, nb_write_at_sides, nb_write_counted, nb_write_left, nb_write_has_stopped]
theorem fl_put_side : (flds m wl sl d).lookup ("put_side" : Str) = none := by simp only [flds, List.lookup, nb_put_side_width, nb_put_side_written, nb_put_side_at_sides, nb_put_side_counted, nb_put_side_left, nb_put_side_has_stopped]
theorem fl_empty : (flds m wl sl d).lookup ("empty" : Str) = none := by simp only [flds, List.lookup, nb_empty_width, nb_empty_written, nb_empty_at_sides, nb_empty_counted, nb_empty_left, nb_empty_has_stopped]
theorem fl_copied : (flds m wl sl d).lookup ("copied" : Str) = none := by simp only [flds, List.lookup, nb_copied_width, nb_copied_written, nb_copied_at_sides, nb_copied_counted, nb_copied_left, nb_copied_has_stopped]
theorem fl_refuse_if_stopped : (flds m wl sl d).lookup ("refuse_if_stopped" : Str) = none := by simp only [flds, List.lookup, nb_refuse_if_stopped_width, nb_refuse_if_stopped_written, nb_refuse_if_stopped_at_sides, nb_refuse_if_stopped_counted, nb_refuse_if_stopped_left, nb_refuse_if_stopped_has_stopped]
theorem fl_spend : (flds m wl sl d).lookup ("spend" : Str) = none := by simp only [flds, List.lookup, nb_spend_width, nb_spend_written, nb_spend_at_sides, nb_spend_counted, nb_spend_left, nb_spend_has_stopped]
theorem fl_first_signs : (flds m wl sl d).lookup ("first_signs" : Str) = none := by simp only [flds, List.lookup, nb_first_signs_width, nb_first_signs_written, nb_first_signs_at_sides, nb_first_signs_counted, nb_first_signs_left, nb_first_signs_has_stopped]
theorem pf_left {x : Option Int} : putF "left" (lv x) (flds m wl sl d) = flds m wl sl { d with left := x } := by simp only [flds, putF, np_width_left, np_written_left, np_at_sides_left, np_counted_left, if_false, if_true]
theorem pf_left_i {x : Int} : putF "left" (.int x) (flds m wl sl d) = flds m wl sl { d with left := some x } := pf_left (x := some x)
theorem pf_counted {x : Int} : putF "counted" (.int x) (flds m wl sl d) = flds m wl sl { d with cnt := x } := by simp only [flds, putF, np_width_counted, np_written_counted, np_at_sides_counted, if_false, if_true]
theorem pf_has_stopped {x : Bool} : putF "has_stopped" (.bl x) (flds m wl sl d) = flds m wl sl { d with st := x } := by simp only [flds, putF, np_width_has_stopped, np_written_has_stopped, np_at_sides_has_stopped, np_counted_has_stopped, np_left_has_stopped, if_false, if_true]
theorem fl_len : (flds m wl sl d).length < 1000 := by show 6 < 1000; decide
end
def spRd (A : ClsA) (r : Int → DM → V) : Sp := fun vs H Q _ => ∃ (p wl sl : Addr) (cells : List Addr) (m : Int) (d : DM), vs = [.ref p] ∧ DiskAt A H p wl sl cells m d ∧ Q (r m d) H
def spNext (A : ClsA) : Sp := fun vs H Q _ => ∃ (p wl sl : Addr) (cells : List Addr) (m : Int) (d : DM) (k : Nat), vs = [.ref p, .int k] ∧ DiskAt A H p wl sl cells m d ∧ k < d.rows.length ∧ Q (.int (d.rows.getD k []).length) H
def spSide (A : ClsA) : Sp := fun vs H Q _ => ∃ (p wl sl : Addr) (cells : List Addr) (m : Int) (d : DM) (k : Nat), vs = [.ref p, .int k] ∧ DiskAt A H p wl sl cells m d ∧ k < d.sides.length ∧ Q (tv (d.sides.getD k none)) H
def toldV (d : DM) (k j : Nat) : V := tv ((d.rows.getD k []).getD j none)
def spTold (A : ClsA) : Sp := fun vs H Q _ => ∃ (p wl sl : Addr) (cells : List Addr) (m : Int) (d : DM) (k j : Nat), vs = [.ref p, .int k, .int j] ∧ DiskAt A H p wl sl cells m d ∧ k < d.rows.length ∧ Q (toldV d k j) H
def spRefuse (A : ClsA) : Sp := fun vs H Q E => ∃ (p wl sl : Addr) (cells : List Addr) (m : Int) (d : DM), vs = [.ref p] ∧ DiskAt A H p wl sl cells m d ∧ (d.st = true → E (.ref A.Stopped) none H) ∧ (d.st = false → Q .non H)
def spSpend (A : ClsA) : Sp := fun vs H Q _ => ∃ (p wl sl : Addr) (cells : List Addr) (m : Int) (d : DM) (n : Int), vs = [.ref p, .int n] ∧ DiskAt A H p wl sl cells m d ∧ ∀ H', DiskAt A H' p wl sl cells m (d.spend n) → Keeps [p] H H' → Q (.int (dn d.left n)) H'
def spFirst (A : ClsA) : Sp := fun vs H Q E => ∃ (p wl sl : Addr) (cells : List Addr) (m : Int) (d : DM) (t : Str), vs = [.ref p, .str t] ∧ DiskAt A H p wl sl cells m d ∧ t.length ≤ 1000 ∧
  ∀ H', DiskAt A H' p wl sl cells m (d.spend t.length) → Keeps [p] H H' → ((dn d.left t.length = 0 ∧ (d.spend t.length).st = true → E (.ref A.Stopped) none H') ∧ (¬ (dn d.left t.length = 0 ∧ (d.spend t.length).st = true) → Q (.str (Txt.slice t none (some (dn d.left t.length)))) H'))
theorem Rows.cell {H : Hp} {wl : Addr} {cells : List Addr} {rows : List (List Tx)} (R : Rows H wl cells rows) {k : Nat} (hk : k < rows.length) : ∃ c, cells[k]? = some c ∧ atI (cells.map V.ref) (k : Int) = some (.ref c) ∧ H c = some (.lst ((rows.getD k []).map tv)) := by
  have hk' : k < cells.length := by rw [R.len]; exact hk
  refine ⟨cells[k], List.getElem?_eq_getElem hk', atI_nat (by rw [List.getElem?_map, List.getElem?_eq_getElem hk']; rfl), R.at_ k _ (List.getElem?_eq_getElem hk')⟩
/-- the object alone is put anew -/
theorem DiskAt.obj {H : Hp} {p wl sl dx : Addr} {cells : List Addr} {m : Int} {d d' : DM} (D : DiskAt A H p wl sl cells m d) (h1 : d'.rows = d.rows) (h2 : d'.sides = d.sides) : DiskAt A (upd H p (.ins A.Disk dx (flds m wl sl d'))) p wl sl cells m d' := by
  have hn := List.nodup_cons.mp D.nd
  have ne : ∀ b ∈ wl :: sl :: cells, b ≠ p := fun b hb z => hn.1 (by rw [← z]; exact hb)
  refine ⟨⟨dx, upd_same⟩, ?_, ?_, D.nd⟩
  · rw [h1]
    refine D.rows.keep fun b o e hb => ?_
    rw [upd_ne (ne b (by rcases hb with rfl | hb <;> simp_all))]; exact e
  · rw [h2, upd_ne (ne sl (by simp))]; exact D.sides
theorem sc_Disk_stretches : FnScope ["self"] ["self"] (defScope s_Disk_stretches) := ⟨rfl, rfl, rfl, by decide +kernel, rfl, by decide +kernel, by decide +kernel⟩
theorem ok_Disk_stretches {f : Addr} {fd : FuncData} {cm : Bool} (F : Fun K "stretches" "Disk.stretches" s_Disk_stretches f fd) (T : Txt K mg A) : FnOk P w K mg base CX0 cm 1 f fd ["self"] (spRd A fun _ d => .int d.rows.length) := by
  refine F.ok sc_Disk_stretches (fun vs H Q E h => ?_) (fun cdv Ar outer s H vs Q E hr h => ?_)
  · obtain ⟨p, wl, sl, cells, m, d, rfl, _⟩ := h; rfl
  · obtain ⟨p, wl, sl, cells, m, d, rfl, D, q⟩ := h
    obtain ⟨dx, h1⟩ := D.ob
    refine ⟨_, (W.h (w_pss_one (w_ps_ret (w_pe_callBp call_lenU rfl T.n_len PySem.boot_len (w_pa_p (w_pe_fldU T.cl_Disk T.na_Disk_written (w_pv 0)) w_pa_nil))))), ?_⟩
    simp_all only [h1, D.rows.w, fl_written, List.length_map, D.rows.len]
    exact q
theorem sc_Disk_places : FnScope ["self"] ["self"] (defScope s_Disk_places) := ⟨rfl, rfl, rfl, by decide +kernel, rfl, by decide +kernel, by decide +kernel⟩
theorem ok_Disk_places {f : Addr} {fd : FuncData} {cm : Bool} (F : Fun K "places" "Disk.places" s_Disk_places f fd) (T : Txt K mg A) : FnOk P w K mg base CX0 cm 1 f fd ["self"] (spRd A fun m _ => .int m) := by
  refine F.ok sc_Disk_places (fun vs H Q E h => ?_) (fun cdv Ar outer s H vs Q E hr h => ?_)
  · obtain ⟨p, wl, sl, cells, m, d, rfl, _⟩ := h; rfl
  · obtain ⟨p, wl, sl, cells, m, d, rfl, D, q⟩ := h
    obtain ⟨dx, h1⟩ := D.ob
    refine ⟨_, (W.h (w_pss_one (w_ps_ret (w_pe_fldU T.cl_Disk T.na_Disk_width (w_pv 0))))), ?_⟩
    simp_all only [h1, fl_width]
    exact q
theorem sc_Disk_signs : FnScope ["self"] ["self"] (defScope s_Disk_signs) := ⟨rfl, rfl, rfl, by decide +kernel, rfl, by decide +kernel, by decide +kernel⟩
theorem ok_Disk_signs {f : Addr} {fd : FuncData} {cm : Bool} (F : Fun K "signs" "Disk.signs" s_Disk_signs f fd) (T : Txt K mg A) : FnOk P w K mg base CX0 cm 1 f fd ["self"] (spRd A fun _ d => .int d.cnt) := by
  refine F.ok sc_Disk_signs (fun vs H Q E h => ?_) (fun cdv Ar outer s H vs Q E hr h => ?_)
  · obtain ⟨p, wl, sl, cells, m, d, rfl, _⟩ := h; rfl
  · obtain ⟨p, wl, sl, cells, m, d, rfl, D, q⟩ := h
    obtain ⟨dx, h1⟩ := D.ob
    refine ⟨_, (W.h (w_pss_one (w_ps_ret (w_pe_fldU T.cl_Disk T.na_Disk_counted (w_pv 0))))), ?_⟩
    simp_all only [h1, fl_counted]
    exact q
theorem sc_Disk_next_place : FnScope ["self", "stretch"] ["self", "stretch"] (defScope s_Disk_next_place) := ⟨rfl, rfl, rfl, by decide +kernel, rfl, by decide +kernel, by decide +kernel⟩
theorem ok_Disk_next_place {f : Addr} {fd : FuncData} {cm : Bool} (F : Fun K "next_place" "Disk.next_place" s_Disk_next_place f fd) (T : Txt K mg A) : FnOk P w K mg base CX0 cm 1 f fd ["self", "stretch"] (spNext A) := by
  refine F.ok sc_Disk_next_place (fun vs H Q E h => ?_) (fun cdv Ar outer s H vs Q E hr h => ?_)
  · obtain ⟨p, wl, sl, cells, m, d, k, rfl, _⟩ := h; rfl
  · obtain ⟨p, wl, sl, cells, m, d, k, rfl, D, hk, q⟩ := h
    obtain ⟨dx, h1⟩ := D.ob
    obtain ⟨c, hc, ha, hH⟩ := D.rows.cell hk
    refine ⟨_, (W.h (w_pss_one (w_ps_ret (w_pe_callBp call_lenU rfl T.n_len PySem.boot_len (w_pa_p (w_pe_ix ix_U (w_pe_fldU T.cl_Disk T.na_Disk_written (w_pv 0)) (w_pv 1) (fun _ _ => rfl)) w_pa_nil))))), ?_⟩
    simp_all only [h1, D.rows.w, fl_written, ha, hH, List.length_map]
    exact q
theorem sc_Disk_side : FnScope ["self", "k"] ["self", "k"] (defScope s_Disk_side) := ⟨rfl, rfl, rfl, by decide +kernel, rfl, by decide +kernel, by decide +kernel⟩
theorem ok_Disk_side {f : Addr} {fd : FuncData} {cm : Bool} (F : Fun K "side" "Disk.side" s_Disk_side f fd) (T : Txt K mg A) : FnOk P w K mg base CX0 cm 1 f fd ["self", "k"] (spSide A) := by
  refine F.ok sc_Disk_side (fun vs H Q E h => ?_) (fun cdv Ar outer s H vs Q E hr h => ?_)
  · obtain ⟨p, wl, sl, cells, m, d, k, rfl, _⟩ := h; rfl
  · obtain ⟨p, wl, sl, cells, m, d, k, rfl, D, hk, q⟩ := h
    obtain ⟨dx, h1⟩ := D.ob
    have e : atI (d.sides.map tv) (k : Int) = some (tv (d.sides.getD k none)) := atI_nat (by rw [List.getElem?_map, List.getElem?_eq_getElem hk, List.getD_eq_getElem?_getD, List.getElem?_eq_getElem hk]; rfl)
    refine ⟨_, (W.h (w_pss_one (w_ps_ret (w_pe_ix ix_U (w_pe_fldU T.cl_Disk T.na_Disk_at_sides (w_pv 0)) (w_pv 1) (fun _ _ => rfl))))), ?_⟩
    simp_all only [h1, D.sides, fl_at_sides, e]
    exact q
theorem sc_Disk_told : FnScope ["self", "stretch", "place", "texts"] ["self", "stretch", "place"] (defScope s_Disk_told) := ⟨rfl, rfl, rfl, by decide +kernel, rfl, by decide +kernel, by decide +kernel⟩
theorem ok_Disk_told {f : Addr} {fd : FuncData} {cm : Bool} (F : Fun K "told" "Disk.told" s_Disk_told f fd) (T : Txt K mg A) : FnOk P w K mg base CX0 cm 1 f fd ["self", "stretch", "place"] (spTold A) := by
  refine F.ok sc_Disk_told (fun vs H Q E h => ?_) (fun cdv Ar outer s H vs Q E hr h => ?_)
  · obtain ⟨p, wl, sl, cells, m, d, k, j, rfl, _⟩ := h; rfl
  · obtain ⟨p, wl, sl, cells, m, d, k, j, rfl, D, hk, q⟩ := h
    obtain ⟨dx, h1⟩ := D.ob
    obtain ⟨c, hc, ha, hH⟩ := D.rows.cell hk
    refine ⟨_, (W.h (w_pss_cons (w_ps_set (i := 3) sc_Disk_told.nd rfl (Or.inl rfl) (w_pe_ix ix_U (w_pe_fldU T.cl_Disk T.na_Disk_written (w_pv 0)) (w_pv 1) (fun _ _ => rfl)))
      (w_pss_one (w_ps_ret (w_pe_ifExp (w_pt_cmpR op_lt (w_pv 2) (w_pe_callBp call_lenU rfl T.n_len PySem.boot_len (w_pa_p (w_pv 3) w_pa_nil)) (nomark _)) (w_pe_ix ix_U (w_pv 3) (w_pv 2) (fun _ _ => rfl)) w_pe_non))))), ?_⟩
    simp_all only [h1, D.rows.w, fl_written, ha, hH, List.length_map]
    refine ite2 (fun h => ?_) (fun h => ?_)
    · have hj : j < (d.rows.getD k []).length := by have := of_decide_eq_true h; omega
      refine ⟨_, atI_nat (by rw [List.getElem?_map, List.getElem?_eq_getElem hj]; rfl), ?_⟩
      unfold toldV at q
      rw [List.getD_eq_getElem?_getD, List.getElem?_eq_getElem hj] at q
      exact q
    · have hj : ¬ j < (d.rows.getD k []).length := fun z => h (decide_eq_true (by omega))
      unfold toldV at q
      rw [List.getD_eq_getElem?_getD, List.getElem?_eq_none (by omega)] at q
      exact q
theorem sc_Disk_refuse_if_stopped : FnScope ["self"] ["self"] (defScope s_Disk_refuse_if_stopped) := ⟨rfl, rfl, rfl, by decide +kernel, rfl, by decide +kernel, by decide +kernel⟩
theorem ok_Disk_refuse_if_stopped {f : Addr} {fd : FuncData} (F : Fun K "refuse_if_stopped" "Disk.refuse_if_stopped" s_Disk_refuse_if_stopped f fd) (T : Txt K mg A) : FnOk P w K mg base (CXW P w) true 1 f fd ["self"] (spRefuse A) := by
  refine F.okW sc_Disk_refuse_if_stopped (fun vs H Q E h => ?_) (fun cdv Ar outer s H vs Q E hr h => ?_)
  · obtain ⟨p, wl, sl, cells, m, d, rfl, _⟩ := h; rfl
  · obtain ⟨p, wl, sl, cells, m, d, rfl, D, q1, q2⟩ := h
    obtain ⟨dx, h1⟩ := D.ob
    have Th := throws_def (cm := true) (P := P) (w := w) (K := K) (mg := mg) (base := base) (N := ["self"]) (qual := "Disk.refuse_if_stopped") (scope := defScope s_Disk_refuse_if_stopped) (f := f) (cd := cdv) (A := Ar) (outer := outer) (s := s) (H := H) (E := E)
    refine ⟨_, (W.h (w_pss_one (w_ps_if (w_pt_tru (w_pe_fldU T.cl_Disk T.na_Disk_has_stopped (w_pv 0)))
      (w_pss_one (w_ps_raisep rfl Th T.ek_Stopped rfl T.mg_Stopped (w_pa_p w_pe_str w_pa_nil)))
      w_pss_nil))), ?_⟩
    simp_all only [h1, fl_has_stopped]
    refine ite2 (fun h => ⟨by decide, q1 h⟩) (fun h => q2 (Bool.eq_false_iff.mpr h))
theorem sc_Disk_spend : FnScope ["self", "many", "done"] ["self", "many"] (defScope s_Disk_spend) := ⟨rfl, rfl, rfl, by decide +kernel, rfl, by decide +kernel, by decide +kernel⟩
theorem ok_Disk_spend {f : Addr} {fd : FuncData} (F : Fun K "spend" "Disk.spend" s_Disk_spend f fd) (T : Txt K mg A) : FnOk P w K mg base CX0 true 1 f fd ["self", "many"] (spSpend A) := by
  refine F.ok sc_Disk_spend (fun vs H Q E h => ?_) (fun cdv Ar outer s H vs Q E hr h => ?_)
  · obtain ⟨p, wl, sl, cells, m, d, n, rfl, _⟩ := h; rfl
  · obtain ⟨p, wl, sl, cells, m, d, n, rfl, D, q⟩ := h
    obtain ⟨dx, h1⟩ := D.ob
    refine ⟨_, (W.h (w_pss_cons (w_ps_set (i := 2) sc_Disk_spend.nd rfl (Or.inl rfl) (w_pv 1))
      (w_pss_cons (w_ps_if (w_pt_cmpR op_isnU (w_pe_fldU T.cl_Disk T.na_Disk_left (w_pv 0)) w_pe_non (nomark _))
      (w_pss_cons (w_ps_set (i := 2) sc_Disk_spend.nd rfl (Or.inl rfl) (w_pe_callBp (call_minU rfl) rfl T.n_min boot_min (w_pa_p (w_pv 1) (w_pa_p (w_pe_fldU T.cl_Disk T.na_Disk_left (w_pv 0)) w_pa_nil))))
      (w_pss_one (w_ps_augFU T.cl_Disk T.na_Disk_left (w_pv 0) (w_pv 2) in_sub)))
      w_pss_nil)
      (w_pss_cons (w_ps_augFU T.cl_Disk T.na_Disk_counted (w_pv 0) (w_pv 2) in_add)
      (w_pss_cons (w_ps_fldU T.cl_Disk T.na_Disk_has_stopped (w_pv 0) (w_pe_cmpR op_lt (w_pv 2) (w_pv 1) (nomark _)))
      (w_pss_one (w_ps_ret (w_pv 2)))))))), ?_⟩
    cases hl : d.left with
    | none =>
      simp_all only [h1, fl_left, hl, lv, upd_same, fl_counted, pf_counted, pf_has_stopped, pf_left_i, fl_len, upd_upd]
      have e : d.spend n = { d with cnt := d.cnt + n, left := none, st := decide (n < n) } := by unfold DM.spend; rw [hl]; rfl
      have e2 : dn d.left n = n := by rw [hl]; rfl
      rw [e, e2] at q
      exact q _ (D.obj rfl rfl) (Keeps.upd (by simp))
    | some l =>
      simp_all only [h1, fl_left, hl, lv, upd_same, fl_counted, pf_counted, pf_has_stopped, pf_left_i, fl_len, upd_upd]
      have e2 : dn d.left n = if l < n then l else n := by rw [hl]; rfl
      have e : d.spend n = { d with cnt := d.cnt + (if l < n then l else n), left := some (l - if l < n then l else n), st := decide ((if l < n then l else n) < n) } := by unfold DM.spend; rw [e2, hl]; rfl
      rw [e, e2] at q
      exact q _ (D.obj rfl rfl) (Keeps.upd (by simp))
theorem sc_Disk_first_signs : FnScope ["self", "text", "done"] ["self", "text"] (defScope s_Disk_first_signs) := ⟨rfl, rfl, rfl, by decide +kernel, rfl, by decide +kernel, by decide +kernel⟩
theorem ok_Disk_first_signs {f : Addr} {fd : FuncData} (F : Fun K "first_signs" "Disk.first_signs" s_Disk_first_signs f fd) (T : Txt K mg A) (M_Disk_spend : GM P w K mg base true 1 A.Disk "spend" ["self", "many"] (spSpend A)) (M_Disk_refuse_if_stopped : GMX P w K mg base true 1 A.Disk "refuse_if_stopped" ["self"] (spRefuse A)) : FnOk P w K mg base (CXW P w) true 2 f fd ["self", "text"] (spFirst A) := by
  refine F.okW sc_Disk_first_signs (fun vs H Q E h => ?_) (fun cdv Ar outer s H vs Q E hr h => ?_)
  · obtain ⟨p, wl, sl, cells, m, d, t, rfl, _⟩ := h; rfl
  · obtain ⟨p, wl, sl, cells, m, d, t, rfl, D, ht, q⟩ := h
    obtain ⟨dx, h1⟩ := D.ob
    have hu : _ < cLine := Nat.lt_of_succ_lt (hu_of hr)
    have Th := throws_def (cm := true) (P := P) (w := w) (K := K) (mg := mg) (base := base) (N := ["self", "text", "done"]) (qual := "Disk.first_signs") (scope := defScope s_Disk_first_signs) (f := f) (cd := cdv) (A := Ar) (outer := outer) (s := s) (H := H) (E := E)
    refine ⟨_, (W.h (w_pss_cons (w_ps_set (i := 2) sc_Disk_first_signs.nd rfl (Or.inl rfl) (w_pe_m (w_pv 0) T.cl_Disk M_Disk_spend hr (w_pa_p (w_pe_callBp call_lenU rfl T.n_len PySem.boot_len (w_pa_p (w_pv 1) w_pa_nil)) w_pa_nil)))
      (w_pss_cons (w_ps_if (w_pt_cmpR (op_eqU hu) (w_pv 2) w_pe_int (nomark _))
      (w_pss_one (w_ps_expr (w_pe_mX0 (w_pv 0) T.cl_Disk Th M_Disk_refuse_if_stopped hr)))
      w_pss_nil)
      (w_pss_one (w_ps_ret (w_pe_slice sl_U (w_pv 1) w_po_none (w_po_some (w_pv 2)))))))), ?_⟩
    have ht' : t.length ≤ sizeLine := Nat.le_trans ht (by decide)
    simp_all only [h1, fl_spend, ht']
    refine ⟨p, wl, sl, cells, m, d, _, rfl, D, fun H1 D1 k1 => ?_⟩
    obtain ⟨q1, q2⟩ := q H1 D1 k1
    obtain ⟨dx1, g1⟩ := D1.ob
    simp_all only [g1, fl_refuse_if_stopped, ht']
    refine ite2 (fun h => ?_) (fun h => ?_)
    · have h0 := of_decide_eq_true h
      refine ⟨p, wl, sl, cells, m, _, rfl, D1, fun hs => ?_, fun hs => ?_⟩
      · exact ⟨_, rfl, q1 ⟨h0, hs⟩⟩
      · simp_all only [ht']
        exact q2 fun z => by rw [z.2] at hs; cases hs
    · exact q2 fun z => h (decide_eq_true z.1)
end
abbrev s_Disk_write : Stmt := inClass (top 26) 7
abbrev s_Disk_put_side : Stmt := inClass (top 26) 8
abbrev s_Disk_empty : Stmt := inClass (top 26) 9
section
variable {P : Program} {w : World} {K : PySem.W.Frag} {mg : Str → Option Value} {base : Heap} {A : ClsA}
theorem DiskAt.setRow {H : Hp} {p wl sl c : Addr} {cells : List Addr} {m : Int} {d : DM} {k : Nat} {r : List Tx} (D : DiskAt A H p wl sl cells m d) (hc : cells[k]? = some c) : DiskAt A (upd H c (.lst (r.map tv))) p wl sl cells m { d with rows := d.rows.set k r } := by
  have hm := List.mem_of_getElem? hc
  have nd := D.nd
  simp only [List.nodup_cons, List.mem_cons, not_or] at nd
  obtain ⟨⟨n1, n2, n3⟩, ⟨n4, n5⟩, n6, n7⟩ := nd
  obtain ⟨dx, h⟩ := D.ob
  have e1 : p ≠ c := fun z => n3 (by rw [z]; exact hm)
  have e2 : sl ≠ c := fun z => n6 (by rw [z]; exact hm)
  exact ⟨⟨dx, by rw [upd_ne e1]; exact h⟩, D.rows.set (List.nodup_cons.mpr ⟨n5, n7⟩) hc, by rw [upd_ne e2]; exact D.sides, D.nd⟩
theorem DiskAt.setSides {H : Hp} {p wl sl : Addr} {cells : List Addr} {m : Int} {d : DM} {r : List Tx} (D : DiskAt A H p wl sl cells m d) : DiskAt A (upd H sl (.lst (r.map tv))) p wl sl cells m { d with sides := r } := by
  have nd := D.nd
  simp only [List.nodup_cons, List.mem_cons, not_or] at nd
  obtain ⟨⟨n1, n2, n3⟩, ⟨n4, n5⟩, n6, n7⟩ := nd
  obtain ⟨dx, h⟩ := D.ob
  refine ⟨⟨dx, by rw [upd_ne n2]; exact h⟩, D.rows.keep fun b o e hb => ?_, upd_same, D.nd⟩
  have : b ≠ sl := by
    rcases hb with rfl | hb
    · exact n4
    · exact fun z => n6 (by rw [← z]; exact hb)
  rw [upd_ne this]; exact e
def Out (A : ClsA) (r : Res) (Q : VK) (E : XK) (H : Hp) : Prop := match r with | .val v => Q v H | .full => E (.ref A.Full) none H | .stop => E (.ref A.Stopped) none H
def small (d : DM) : Prop := ∀ k, (d.rows.getD k []).length ≤ 1000
def spWrite (A : ClsA) : Sp := fun vs H Q E => ∃ (p wl sl : Addr) (cells : List Addr) (m : Int) (d : DM) (k : Nat) (t : Str), vs = [.ref p, .int k, .str t] ∧ DiskAt A H p wl sl cells m d ∧ k < d.rows.length ∧ t.length ≤ 1000 ∧ small d ∧
  ∀ H', DiskAt A H' p wl sl cells m (d.write m k t).2 → Keeps (p :: wl :: sl :: cells) H H' → Out A (d.write m k t).1 Q E H'
def spPut (A : ClsA) : Sp := fun vs H Q E => ∃ (p wl sl : Addr) (cells : List Addr) (m : Int) (d : DM) (k : Nat) (t : Str), vs = [.ref p, .int k, .str t] ∧ DiskAt A H p wl sl cells m d ∧ k < d.sides.length ∧ d.sides.length = 2 ∧ t.length ≤ 1000 ∧
  ∀ H', DiskAt A H' p wl sl cells m (d.put k t).2 → Keeps (p :: wl :: sl :: cells) H H' → Out A (d.put k t).1 Q E H'
def spEmpty (A : ClsA) : Sp := fun vs H Q E => ∃ (p wl sl : Addr) (cells : List Addr) (m : Int) (d : DM) (k : Nat), vs = [.ref p, .int k] ∧ DiskAt A H p wl sl cells m d ∧ k < d.rows.length ∧ small d ∧ (∀ l, d.left = some l → 0 ≤ l) ∧
  ∀ H', DiskAt A H' p wl sl cells m (d.empty k).2 → Keeps (p :: wl :: sl :: cells) H H' → Out A (d.empty k).1 Q E H'
theorem spend_rows {d : DM} {n : Int} : (d.spend n).rows = d.rows := rfl
theorem spend_sides {d : DM} {n : Int} : (d.spend n).sides = d.sides := rfl
theorem map_app {r : List Tx} {t : Str} {n : Int} : r.map tv ++ [V.str (Txt.slice t none (some n))] = (r ++ [cutT t n]).map tv := by rw [List.map_append]; rfl
theorem sc_Disk_write : FnScope ["self", "stretch", "text", "texts", "place"] ["self", "stretch", "text"] (defScope s_Disk_write) := ⟨rfl, rfl, rfl, by decide +kernel, rfl, by decide +kernel, by decide +kernel⟩
theorem ok_Disk_write {f : Addr} {fd : FuncData} (F : Fun K "write" "Disk.write" s_Disk_write f fd) (T : Txt K mg A) (M_Disk_first_signs : GMX P w K mg base true 2 A.Disk "first_signs" ["self", "text"] (spFirst A)) (M_Disk_refuse_if_stopped : GMX P w K mg base true 1 A.Disk "refuse_if_stopped" ["self"] (spRefuse A)) : FnOk P w K mg base (CXW P w) true 3 f fd ["self", "stretch", "text"] (spWrite A) := by
  refine F.okW sc_Disk_write (fun vs H Q E h => ?_) (fun cdv Ar outer s H vs Q E hr h => ?_)
  · obtain ⟨p, wl, sl, cells, m, d, k, t, rfl, _⟩ := h; rfl
  · obtain ⟨p, wl, sl, cells, m, d, k, t, rfl, D, hk, ht, hsm, q⟩ := h
    obtain ⟨dx, h1⟩ := D.ob
    have hu : _ < cLine := Nat.lt_of_succ_lt (hu_of hr)
    obtain ⟨c, hc, ha, hH⟩ := D.rows.cell hk
    have Th := throws_def (cm := true) (P := P) (w := w) (K := K) (mg := mg) (base := base) (N := ["self", "stretch", "text", "texts", "place"]) (qual := "Disk.write") (scope := defScope s_Disk_write) (f := f) (cd := cdv) (A := Ar) (outer := outer) (s := s) (H := H) (E := E)
    refine ⟨_, (W.h (w_pss_cons (w_ps_expr (w_pe_mX0 (w_pv 0) T.cl_Disk Th M_Disk_refuse_if_stopped hr))
      (w_pss_cons (w_ps_set (i := 3) sc_Disk_write.nd rfl (Or.inl rfl) (w_pe_ix ix_U (w_pe_fldU T.cl_Disk T.na_Disk_written (w_pv 0)) (w_pv 1) (fun _ _ => rfl)))
      (w_pss_cons (w_ps_set (i := 4) sc_Disk_write.nd rfl (Or.inl rfl) (w_pe_callBp call_lenU rfl T.n_len PySem.boot_len (w_pa_p (w_pv 3) w_pa_nil)))
      (w_pss_cons (w_ps_if (w_pt_cmpR (op_eqU hu) (w_pv 4) (w_pe_fldU T.cl_Disk T.na_Disk_width (w_pv 0)) (nomark _))
      (w_pss_one (w_ps_raisep rfl Th T.ek_Full rfl T.mg_Full (w_pa_p w_pe_str w_pa_nil)))
      w_pss_nil)
      (w_pss_cons (w_ps_expr (w_pe_append (w_pv 3) (w_pe_mX (w_pv 0) T.cl_Disk Th M_Disk_first_signs hr (w_pa_p (w_pv 2) w_pa_nil))))
      (w_pss_cons (w_ps_expr (w_pe_mX0 (w_pv 0) T.cl_Disk Th M_Disk_refuse_if_stopped hr))
      (w_pss_one (w_ps_ret (w_pv 4)))))))))), ?_⟩
    simp_all only [h1, fl_refuse_if_stopped]
    unfold DM.write at q
    refine ⟨p, wl, sl, cells, m, d, rfl, D, fun hs => ?_, fun hs => ?_⟩
    · rw [if_pos hs] at q
      exact ⟨_, rfl, q H D Keeps.refl⟩
    rw [if_neg (by rw [hs]; exact Bool.false_ne_true)] at q
    simp_all only [h1, D.rows.w, fl_written, fl_width, ha, hH, List.length_map]
    refine ite2 (fun h => ?_) (fun h => ?_)
    · rw [if_pos (of_decide_eq_true h)] at q
      exact ⟨by decide, q H D Keeps.refl⟩
    rw [if_neg (fun z => h (decide_eq_true z))] at q
    simp_all only [h1, hH, fl_first_signs]
    refine ⟨p, wl, sl, cells, m, d, t, rfl, D, ht, fun H1 D1 k1 => ⟨fun hz => ?_, fun hz => ?_⟩⟩
    · rw [if_pos hz] at q
      exact ⟨_, rfl, q H1 D1 (k1.mono (by simp))⟩
    rw [if_neg hz] at q
    obtain ⟨dx1, g1⟩ := D1.ob
    have gc := D1.rows.at_ k c hc
    rw [spend_rows] at gc
    have D2 := D1.setRow (r := d.rows.getD k [] ++ [cutT t (dn d.left t.length)]) hc
    obtain ⟨dx2, g2⟩ := D2.ob
    simp_all only [gc, map_app, g2, fl_refuse_if_stopped]
    refine ⟨by rw [List.length_map]; exact small1000 (hsm k), p, wl, sl, cells, m, _, rfl, D2, fun hs2 => ⟨_, rfl, ?_⟩, fun hs2 => ?_⟩
    · have hs2' : (d.spend t.length).st = true := hs2
      have q2 := q _ D2 ((k1.mono (by simp)).trans (Keeps.upd (by simp [List.mem_of_getElem? hc])))
      rw [if_pos hs2'] at q2
      exact q2
    · have hs2' : (d.spend t.length).st = false := hs2
      simp_all only []
      have q2 := q _ D2 ((k1.mono (by simp)).trans (Keeps.upd (by simp [List.mem_of_getElem? hc])))
      rw [if_neg (by rw [hs2']; exact Bool.false_ne_true)] at q2
      exact q2
theorem sc_Disk_put_side : FnScope ["self", "k", "text"] ["self", "k", "text"] (defScope s_Disk_put_side) := ⟨rfl, rfl, rfl, by decide +kernel, rfl, by decide +kernel, by decide +kernel⟩
theorem ok_Disk_put_side {f : Addr} {fd : FuncData} (F : Fun K "put_side" "Disk.put_side" s_Disk_put_side f fd) (T : Txt K mg A) (M_Disk_first_signs : GMX P w K mg base true 2 A.Disk "first_signs" ["self", "text"] (spFirst A)) (M_Disk_refuse_if_stopped : GMX P w K mg base true 1 A.Disk "refuse_if_stopped" ["self"] (spRefuse A)) : FnOk P w K mg base (CXW P w) true 3 f fd ["self", "k", "text"] (spPut A) := by
  refine F.okW sc_Disk_put_side (fun vs H Q E h => ?_) (fun cdv Ar outer s H vs Q E hr h => ?_)
  · obtain ⟨p, wl, sl, cells, m, d, k, t, rfl, _⟩ := h; rfl
  · obtain ⟨p, wl, sl, cells, m, d, k, t, rfl, D, hk, hk2, ht, q⟩ := h
    obtain ⟨dx, h1⟩ := D.ob
    have hu : _ < cLine := Nat.lt_of_succ_lt (hu_of hr)
    have Th := throws_def (cm := true) (P := P) (w := w) (K := K) (mg := mg) (base := base) (N := ["self", "k", "text"]) (qual := "Disk.put_side") (scope := defScope s_Disk_put_side) (f := f) (cd := cdv) (A := Ar) (outer := outer) (s := s) (H := H) (E := E)
    refine ⟨_, (W.h (w_pss_cons (w_ps_expr (w_pe_mX0 (w_pv 0) T.cl_Disk Th M_Disk_refuse_if_stopped hr))
      (w_pss_cons (w_ps_asg (w_pe_mX (w_pv 0) T.cl_Disk Th M_Disk_first_signs hr (w_pa_p (w_pv 2) w_pa_nil)) (w_pg_sub (w_pe_fldU T.cl_Disk T.na_Disk_at_sides (w_pv 0)) (w_pv 1) set_list))
      (w_pss_one (w_ps_expr (w_pe_mX0 (w_pv 0) T.cl_Disk Th M_Disk_refuse_if_stopped hr)))))), ?_⟩
    simp_all only [h1, fl_refuse_if_stopped]
    unfold DM.put at q
    refine ⟨p, wl, sl, cells, m, d, rfl, D, fun hs => ?_, fun hs => ?_⟩
    · rw [if_pos hs] at q
      exact ⟨_, rfl, q H D Keeps.refl⟩
    rw [if_neg (by rw [hs]; exact Bool.false_ne_true)] at q
    simp_all only [h1, fl_first_signs]
    refine ⟨p, wl, sl, cells, m, d, t, rfl, D, ht, fun H1 D1 k1 => ⟨fun hz => ?_, fun hz => ?_⟩⟩
    · rw [if_pos hz] at q
      exact ⟨_, rfl, q H1 D1 (k1.mono (by simp))⟩
    rw [if_neg hz] at q
    obtain ⟨dx1, g1⟩ := D1.ob
    have gs := D1.sides
    rw [spend_sides] at gs
    have D2 := D1.setSides (r := d.sides.set k (cutT t (dn d.left t.length)))
    obtain ⟨dx2, g2⟩ := D2.ob
    have ix : ixN (d.sides.map tv).length (k : Int) = some k := by
      unfold ixN
      rw [if_pos (by omega), if_pos (by rw [List.length_map]; omega)]
      simp
    have sm : (d.sides.map tv).set k (V.str (Txt.slice t none (some (dn d.left t.length)))) = (d.sides.set k (cutT t (dn d.left t.length))).map tv := by rw [List.map_set]; rfl
    simp_all only [g1, gs, fl_at_sides, ix, sm, g2, fl_refuse_if_stopped]
    refine ⟨p, wl, sl, cells, m, _, rfl, D2, fun hs2 => ⟨_, rfl, ?_⟩, fun hs2 => ?_⟩
    · have hs2' : (d.spend t.length).st = true := hs2
      have q2 := q _ D2 ((k1.mono (by simp)).trans (Keeps.upd (by simp)))
      rw [if_pos hs2'] at q2
      exact q2
    · have hs2' : (d.spend t.length).st = false := hs2
      simp_all only []
      have q2 := q _ D2 ((k1.mono (by simp)).trans (Keeps.upd (by simp)))
      rw [if_neg (by rw [hs2']; exact Bool.false_ne_true)] at q2
      exact q2
end
abbrev s_is_whole : Stmt := top 19
abbrev s_is_within : Stmt := top 20
abbrev s_Disk___init__ : Stmt := inClass (top 26) 0
abbrev s_Disk_copied : Stmt := inClass (top 26) 11
/-- the things that a size may be -/
inductive Thing (H : Hp) : V → Prop
  | non : Thing H .non
  | bl (b : Bool) : Thing H (.bl b)
  | int (i : Int) : Thing H (.int i)
  | str (x : Str) : Thing H (.str x)
  | lst {a : Addr} {xs : List V} : H a = some (.lst xs) → Thing H (.ref a)
  | tup {a : Addr} {xs : List V} : H a = some (.tup xs) → Thing H (.ref a)
  | dic {a : Addr} {kvs : List (Key × V)} : H a = some (.dK kvs) → Thing H (.ref a)
theorem Thing.same {H H' : Hp} {v : V} (t : Thing H v) (s : Same H H') : Thing H' v := by
  cases t with
  | non => exact .non
  | bl b => exact .bl b
  | int i => exact .int i
  | str x => exact .str x
  | lst h => exact .lst (s _ _ h)
  | tup h => exact .tup (s _ _ h)
  | dic h => exact .dic (s _ _ h)
def wholeV : V → Bool | .int _ => true | _ => false
def withinV (v : V) (a b : Int) : Bool := match v with | .int i => decide (a ≤ i) && decide (i ≤ b) | _ => false
def spWhole : Sp := fun vs H Q _ => ∃ v, vs = [v] ∧ Thing H v ∧ Q (.bl (wholeV v)) H
def spWithin : Sp := fun vs H Q _ => ∃ v a b, vs = [v, .int a, .int b] ∧ Thing H v ∧ Q (.bl (withinV v a b)) H
section
variable {P : Program} {w : World} {K : PySem.W.Frag} {mg : Str → Option Value} {base : Heap} {A : ClsA}
theorem isi_int {X : Cx} {H : Hp} {v : V} {Q : VK} (t : Thing H v) (q : Q (.bl (match v with | .int _ => true | .bl _ => true | _ => false)) H) : rIsi X.K [v, .ty "int"] H Q := by
  cases t with
  | non => exact ⟨_, _, _, _, _, rfl, rfl, .of .non, rfl, q⟩
  | bl b => exact ⟨_, _, _, _, _, rfl, rfl, .of (.bl b), rfl, q⟩
  | int i => exact ⟨_, _, _, _, _, rfl, rfl, .of (.int i), rfl, q⟩
  | str x => exact ⟨_, _, _, _, _, rfl, rfl, .of (.str x), rfl, q⟩
  | lst h => exact ⟨_, _, _, _, _, rfl, rfl, .of (.lst h), rfl, q⟩
  | tup h => exact ⟨_, _, _, _, _, rfl, rfl, .of (.tup h), rfl, q⟩
  | dic h => exact ⟨_, _, _, _, _, rfl, rfl, .of (.dK h), rfl, q⟩
theorem isi_bool {X : Cx} {H : Hp} {v : V} {Q : VK} (t : Thing H v) (q : Q (.bl (match v with | .bl _ => true | _ => false)) H) : rIsi X.K [v, .ty "bool"] H Q := by
  cases t with
  | non => exact ⟨_, _, _, _, _, rfl, rfl, .of .non, rfl, q⟩
  | bl b => exact ⟨_, _, _, _, _, rfl, rfl, .of (.bl b), rfl, q⟩
  | int i => exact ⟨_, _, _, _, _, rfl, rfl, .of (.int i), rfl, q⟩
  | str x => exact ⟨_, _, _, _, _, rfl, rfl, .of (.str x), rfl, q⟩
  | lst h => exact ⟨_, _, _, _, _, rfl, rfl, .of (.lst h), rfl, q⟩
  | tup h => exact ⟨_, _, _, _, _, rfl, rfl, .of (.tup h), rfl, q⟩
  | dic h => exact ⟨_, _, _, _, _, rfl, rfl, .of (.dK h), rfl, q⟩
theorem sc_is_whole : FnScope ["value"] ["value"] (defScope s_is_whole) := ⟨rfl, rfl, rfl, by decide +kernel, rfl, by decide +kernel, by decide +kernel⟩
theorem ok_is_whole {f : Addr} {fd : FuncData} {cm : Bool} (F : Fun K "is_whole" "is_whole" s_is_whole f fd) (T : Txt K mg A) : FnOk P w K mg base CX0 cm 1 f fd ["value"] spWhole := by
  refine F.ok sc_is_whole (fun vs H Q E h => ?_) (fun cdv Ar outer s H vs Q E hr h => ?_)
  · obtain ⟨v, rfl, _⟩ := h; rfl
  · obtain ⟨v, rfl, th, q⟩ := h
    refine ⟨_, (W.h (w_pss_one (w_ps_ret (w_pe_and (w_pe_callBp call_isi rfl T.n_isinstance boot_isinstance (w_pa_p (w_pv 0) (w_pa_p (w_pe_bltn rfl T.n_int boot_int (v := .ty "int") rfl) w_pa_nil))) (w_pe_one (w_pe_not (w_pe_callBp call_isi rfl T.n_isinstance boot_isinstance (w_pa_p (w_pv 0) (w_pa_p (w_pe_bltn rfl T.n_bool boot_bool (v := .ty "bool") rfl) w_pa_nil))))))))), ?_⟩
    simp_all only []
    refine isi_int th ?_
    cases th with
    | int i => exact ⟨true, rfl, iteT (isi_bool (.int i) ⟨false, rfl, q⟩)⟩
    | bl i => exact ⟨true, rfl, iteT (isi_bool (.bl i) ⟨true, rfl, q⟩)⟩
    | _ => exact ⟨false, rfl, iteF q⟩
theorem sc_is_within : FnScope ["value", "least", "most"] ["value", "least", "most"] (defScope s_is_within) := ⟨rfl, rfl, rfl, by decide +kernel, rfl, by decide +kernel, by decide +kernel⟩
theorem ok_is_within {f : Addr} {fd : FuncData} {cm : Bool} (F : Fun K "is_within" "is_within" s_is_within f fd) (T : Txt K mg A) (G_is_whole : GF P w K mg base cm 1 "is_whole" ["value"] spWhole) : FnOk P w K mg base CX0 cm 2 f fd ["value", "least", "most"] spWithin := by
  refine F.ok sc_is_within (fun vs H Q E h => ?_) (fun cdv Ar outer s H vs Q E hr h => ?_)
  · obtain ⟨v, a, b, rfl, _⟩ := h; rfl
  · obtain ⟨v, a, b, rfl, th, q⟩ := h
    refine ⟨_, (W.h (w_pss_one (w_ps_ret (w_pe_and (w_pe_g G_is_whole hr rfl (w_pa_p (w_pv 0) w_pa_nil)) (w_pe_one (w_pe_chain op_le op_le (w_pv 1) (w_pv 0) (w_pv 2))))))), ?_⟩
    simp_all only []
    refine ⟨_, rfl, th, ?_⟩
    cases th with
    | int i =>
      refine ⟨true, rfl, iteT ?_⟩
      simp_all only []
      refine ite2 (fun h => ?_) (fun h => ?_)
      · have e : withinV (.int i) a b = decide (i ≤ b) := by show (decide (a ≤ i) && _) = _; rw [h]; rfl
        rw [← e]; exact q
      · have e : withinV (.int i) a b = false := by show (decide (a ≤ i) && _) = _; rw [Bool.eq_false_iff.mpr h]; rfl
        rw [← e]; exact q
    | _ => exact ⟨false, rfl, iteF q⟩
def DM.new (n : Nat) : DM := ⟨List.replicate n [], [none, none], 0, none, false⟩
/-- two sizes that a disk has -/
def spInit (A : ClsA) : Sp := fun vs H Q _ => ∃ (p dx : Addr) (n m : Int), vs = [.ref p, .int n, .int m] ∧ H p = some (.ins A.Disk dx []) ∧ 3 ≤ n ∧ n ≤ 16 ∧ 2 ≤ m ∧ m ≤ 32 ∧
  ∀ (wl sl : Addr) (cells : List Addr) (H' : Hp), DiskAt A H' p wl sl cells m (DM.new n.toNat) → (∀ b o, H b = some o → b ≠ p → H' b = some o) → (∀ x ∈ wl :: sl :: cells, H x = none) → Q .non H'
structure CellInv (H : Hp) (i : Nat) (τ : L2.St) (ys : List V) (H' : Hp) : Prop where
  τ : ∃ t, τ = [t]
  ex : ∃ cells : List Addr, ys = cells.map V.ref ∧ cells.length = i ∧ (∀ c ∈ cells, H' c = some (.lst []) ∧ H c = none) ∧ cells.Nodup
  same : Same H H'
  le : i ≤ 16
theorem sc_Disk___init__ : FnScope ["self", "stretches", "places"] ["self", "stretches", "places"] (defScope s_Disk___init__) := ⟨rfl, rfl, rfl, by decide +kernel, rfl, by decide +kernel, by decide +kernel⟩
theorem lc_Disk___init___0 : lcStat { kind := .function, names := [(Str.ofString ".0", .local), (Str.ofString "number", .local)], isGenerator := false, isCoroutine := false, more := [] } (defScope s_Disk___init__).names ["self", "stretches", "places"] ["number"] [none] = true := by decide +kernel
theorem lcn_Disk___init___0 : (["number"] : List Str).Nodup := by decide +kernel
theorem ok_Disk_init {f : Addr} {fd : FuncData} (F : Fun K "__init__" "Disk.__init__" s_Disk___init__ f fd) (T : Txt K mg A) (G_is_within : GF P w K mg base true 2 "is_within" ["value", "least", "most"] spWithin) : FnOk P w K mg base (CXW P w) true 3 f fd ["self", "stretches", "places"] (spInit A) := by
  refine F.okW sc_Disk___init__ (fun vs H Q E h => ?_) (fun cdv Ar outer s H vs Q E hr h => ?_)
  · obtain ⟨p, dx, n, m, rfl, _⟩ := h; rfl
  · obtain ⟨p, dx, n, m, rfl, hp, n0, n1, m0, m1, q⟩ := h
    have Th := throws_def (cm := true) (P := P) (w := w) (K := K) (mg := mg) (base := base) (N := ["self", "stretches", "places"]) (qual := "Disk.__init__") (scope := defScope s_Disk___init__) (f := f) (cd := cdv) (A := Ar) (outer := outer) (s := s) (H := H) (E := E)
    have h1 : withinV (.int n) 3 16 = true := by show (decide _ && decide _) = true; rw [decide_eq_true n0, decide_eq_true n1]; rfl
    have h2 : withinV (.int m) 2 32 = true := by show (decide _ && decide _) = true; rw [decide_eq_true m0, decide_eq_true m1]; rfl
    refine ⟨_, (W.h (w_pss_cons (w_ps_if (w_pt_not (w_pt_tru (w_pe_g G_is_within hr rfl (w_pa_p (w_pv 1) (w_pa_p (w_pe_gv rfl T.c_LEAST_STRETCHES) (w_pa_p (w_pe_gv rfl T.c_MOST_STRETCHES) w_pa_nil))))))
      (w_pss_one (w_ps_raisep rfl Th T.ek_NoDisk rfl T.mg_NoDisk (w_pa_p w_pe_str w_pa_nil)))
      w_pss_nil)
      (w_pss_cons (w_ps_if (w_pt_not (w_pt_tru (w_pe_g G_is_within hr rfl (w_pa_p (w_pv 2) (w_pa_p (w_pe_gv rfl T.c_LEAST_PLACES) (w_pa_p (w_pe_gv rfl T.c_MOST_PLACES) w_pa_nil))))))
      (w_pss_one (w_ps_raisep rfl Th T.ek_NoDisk rfl T.mg_NoDisk (w_pa_p w_pe_str w_pa_nil)))
      w_pss_nil)
      (w_pss_cons (w_ps_fldU T.cl_Disk T.na_Disk_width (w_pv 0) (w_pv 2))
      (w_pss_cons (w_ps_fldU T.cl_Disk T.na_Disk_written (w_pv 0) (w_pe_lc (fun _ => rfl) (LcOk.of lc_Disk___init___0) (w_pi_range1p rfl T.n_range (w_pa_p (w_pv 1) w_pa_nil)) (fun _ _ _ _ _ => (w_pg_name (i := 0) lcn_Disk___init___0 rfl (Or.inl rfl))) (fun _ _ _ _ _ => w_pts_nil) (fun _ _ _ _ _ => (w_pe_lstA w_pa_nil))))
      (w_pss_cons (w_ps_fldU T.cl_Disk T.na_Disk_at_sides (w_pv 0) (w_pe_lstA (w_pa_p w_pe_non (w_pa_p w_pe_non w_pa_nil))))
      (w_pss_cons (w_ps_fldU T.cl_Disk T.na_Disk_counted (w_pv 0) w_pe_int)
      (w_pss_cons (w_ps_fldU T.cl_Disk T.na_Disk_left (w_pv 0) w_pe_non)
      (w_pss_one (w_ps_fldU T.cl_Disk T.na_Disk_has_stopped (w_pv 0) w_pe_bl)))))))))), ?_⟩
    simp_all only []
    refine ⟨.int n, 3, 16, rfl, .int n, ?_⟩
    simp_all only [h1]
    refine ⟨.int m, 2, 32, rfl, .int m, ?_⟩
    simp_all only [h2, hp, upd_same, putF, pick]
    refine ⟨by decide, by omega, by omega, CompJ.rng (CellInv (upd H p (.ins A.Disk dx [("width", .int m)]))) (fun i τ ys H' I => ?_) ⟨⟨_, rfl⟩, ⟨[], rfl, rfl, by simp, List.nodup_nil⟩, Same.refl _, by decide⟩ ?_ ?_⟩
    · obtain ⟨cells, e, l, _⟩ := I.ex
      rw [e, List.length_map, l]
      exact small1000 (Nat.le_trans I.le (by decide))
    · intro N i τ ys H' hi I hN
      obtain ⟨t, rfl⟩ := I.τ
      obtain ⟨cells, e, l, hc, hcn⟩ := I.ex
      simp_all only []
      refine ⟨by decide, fun c H2 n2 _ => hN _ _ _ ⟨⟨_, rfl⟩, ⟨cells ++ [c], by rw [e, List.map_append]; rfl, by simp [l], fun b hb => ?_, ?_⟩, I.same.trans n2.same, by omega⟩⟩
      · rcases List.mem_append.mp hb with hb | hb
        · exact ⟨n2.same _ _ (hc b hb).1, (hc b hb).2⟩
        · rw [List.mem_singleton] at hb; subst hb; exact ⟨n2.at_, I.same.free n2.no⟩
      · refine List.nodup_append.mpr ⟨hcn, by simp, fun a ha b hb => ?_⟩
        rw [List.mem_singleton] at hb
        subst hb
        exact ne_of_none (hc a ha).1 n2.no
    · intro τ ys H1 I D H2 nD
      obtain ⟨cells, e, l, hc, hcn⟩ := I.ex
      have e1 : H2 p = some (.ins A.Disk dx [("width", .int m)]) := nD.same _ _ (I.same _ _ upd_same)
      have w1 : putF "written" (.ref D) [(("width" : Str), V.int m)] = [(("width" : Str), V.int m), ("written", .ref D)] := by simp only [putF, np_width_written, if_false]
      refine ⟨dx, _, e1, by show 1 < 1000; decide, by decide, fun s1 H3 n3 _ => ?_⟩
      rw [w1] at n3
      have e3 : H3 p = some (.ins A.Disk dx [("width", .int m), ("written", .ref D)]) := n3.same _ _ upd_same
      have w2 : putF "at_sides" (.ref s1) [(("width" : Str), V.int m), ("written", .ref D)] = [(("width" : Str), V.int m), ("written", .ref D), ("at_sides", .ref s1)] := by simp only [putF, np_width_at_sides, np_written_at_sides, if_false]
      have w3 : putF "counted" (.int 0) [(("width" : Str), V.int m), ("written", .ref D), ("at_sides", .ref s1)] = [(("width" : Str), V.int m), ("written", .ref D), ("at_sides", .ref s1), ("counted", .int 0)] := by simp only [putF, np_width_counted, np_written_counted, np_at_sides_counted, if_false]
      have w4 : putF "left" .non [(("width" : Str), V.int m), ("written", .ref D), ("at_sides", .ref s1), ("counted", .int 0)] = [(("width" : Str), V.int m), ("written", .ref D), ("at_sides", .ref s1), ("counted", .int 0), ("left", .non)] := by simp only [putF, np_width_left, np_written_left, np_at_sides_left, np_counted_left, if_false]
      have w5 : putF "has_stopped" (.bl false) [(("width" : Str), V.int m), ("written", .ref D), ("at_sides", .ref s1), ("counted", .int 0), ("left", .non)] = flds m D s1 (DM.new n.toNat) := by simp only [putF, np_width_has_stopped, np_written_has_stopped, np_at_sides_has_stopped, np_counted_has_stopped, np_left_has_stopped, if_false, flds, DM.new, lv]
      refine ⟨dx, _, e3, ?_⟩
      rw [w2, w3, w4, w5, upd_upd, upd_upd, upd_upd]
      refine ⟨by show 2 < 1000; decide, by show 3 < 1000; decide, by show 4 < 1000; decide, by show 5 < 1000; decide, ?_⟩
      have pD : p ≠ D := ne_of_none (I.same _ _ upd_same) nD.no
      have ps : p ≠ s1 := ne_of_none upd_same n3.no
      have H3of : ∀ b o, b ≠ p → H2 b = some o → H3 b = some o := fun b o hb h => n3.same _ _ (by rw [upd_ne hb]; exact h)
      have hDat := nD.at_
      rw [e] at hDat
      have cp : ∀ c ∈ cells, c ≠ p := fun c hcm z => by have := (hc c hcm).2; rw [z, upd_same] at this; cases this
      have cD : ∀ c ∈ cells, c ≠ D := fun c hcm => ne_of_none (hc c hcm).1 nD.no
      have cs : ∀ c ∈ cells, c ≠ s1 := fun c hcm => ne_of_none (show (upd H2 p (.ins A.Disk dx [("width", .int m), ("written", .ref D)])) c = some _ by rw [upd_ne (cp c hcm)]; exact nD.same _ _ (hc c hcm).1) n3.no
      have Ds : D ≠ s1 := ne_of_none (show (upd H2 p (.ins A.Disk dx [("width", .int m), ("written", .ref D)])) D = some _ by rw [upd_ne (Ne.symm pD)]; exact hDat) n3.no
      have Hn : ∀ b, b ≠ p → (upd H p (.ins A.Disk dx [("width", V.int m)])) b = none → H b = none := fun b hb h => by rw [upd_ne hb] at h; exact h
      refine q D s1 cells _ ⟨⟨dx, upd_same⟩, ⟨?_, ?_, fun i c hi => ?_⟩, ?_, ?_⟩ (fun b o hb hne => ?_) (fun x hx => ?_)
      · rw [upd_ne (Ne.symm pD)]
        exact H3of D _ (Ne.symm pD) hDat
      · simp [DM.new, l]
      · have hcm := List.mem_of_getElem? hi
        rw [upd_ne (cp c hcm), H3of c _ (cp c hcm) (nD.same _ _ (hc c hcm).1)]
        have : ((DM.new n.toNat).rows.getD i []) = [] := by
          unfold DM.new
          rw [List.getD_eq_getElem?_getD, List.getElem?_replicate]
          split <;> rfl
        rw [this]; rfl
      · rw [upd_ne (Ne.symm ps)]
        exact n3.at_
      · simp only [List.nodup_cons, List.mem_cons, not_or]
        exact ⟨⟨pD, ps, fun z => cp p z rfl⟩, ⟨Ds, fun z => cD D z rfl⟩, fun z => cs s1 z rfl, hcn⟩
      · rw [upd_ne hne]
        exact H3of b _ hne (nD.same _ _ (I.same _ _ (by rw [upd_ne hne]; exact hb)))
      · simp only [List.mem_cons] at hx
        rcases hx with rfl | rfl | hx
        · exact Hn _ (Ne.symm pD) (I.same.free nD.no)
        · have z := n3.no
          rw [upd_ne (Ne.symm ps)] at z
          exact Hn _ (Ne.symm ps) (I.same.free (nD.same.free z))
        · exact Hn _ (cp x hx) (hc x hx).2
end
section
variable {P : Program} {w : World} {K : PySem.W.Frag} {mg : Str → Option Value} {base : Heap} {A : ClsA}
theorem upd_self {H : Hp} {a : Addr} {o : HO} (h : H a = some o) : upd H a o = H := by
  funext b
  by_cases hb : b = a
  · rw [hb, upd_same, h]
  · rw [upd_ne hb]
def nulls (i : Nat) (r : List Tx) : List Tx := List.replicate i none ++ r.drop i
theorem nulls_len {i : Nat} {r : List Tx} (h : i ≤ r.length) : (nulls i r).length = r.length := by simp [nulls]; omega
theorem nulls_set {i : Nat} {r : List Tx} (h : i < r.length) : ((nulls i r).map tv).set i .non = (nulls (i + 1) r).map tv := by
  have e : V.non = tv none := rfl
  rw [e, ← List.map_set]
  congr 1
  unfold nulls
  rw [List.set_append_right _ _ (by simp)]
  have h2 : r.drop i = r[i] :: r.drop (i + 1) := List.drop_eq_getElem_cons h
  rw [h2, List.length_replicate, Nat.sub_self, List.set_cons_zero, List.replicate_succ', List.append_assoc]
  rfl
structure EmInv (H1 : Hp) (p c : Addr) (k : Nat) (n : Int) (r : List Tx) (i : Nat) (σ : L2.St) (H' : Hp) : Prop where
  ex : ∃ x, σ = [some (V.ref p), some (.int k), some (.ref c), some (.int n), x]
  at_ : H' = upd H1 c (.lst ((nulls i r).map tv))
  le : i ≤ r.length
theorem sc_Disk_empty : FnScope ["self", "stretch", "texts", "done", "place"] ["self", "stretch"] (defScope s_Disk_empty) := ⟨rfl, rfl, rfl, by decide +kernel, rfl, by decide +kernel, by decide +kernel⟩
theorem ok_Disk_empty {f : Addr} {fd : FuncData} (F : Fun K "empty" "Disk.empty" s_Disk_empty f fd) (T : Txt K mg A) (M_Disk_spend : GM P w K mg base true 1 A.Disk "spend" ["self", "many"] (spSpend A)) (M_Disk_refuse_if_stopped : GMX P w K mg base true 1 A.Disk "refuse_if_stopped" ["self"] (spRefuse A)) : FnOk P w K mg base (CXW P w) true 2 f fd ["self", "stretch"] (spEmpty A) := by
  refine F.okW sc_Disk_empty (fun vs H Q E h => ?_) (fun cdv Ar outer s H vs Q E hr h => ?_)
  · obtain ⟨p, wl, sl, cells, m, d, k, rfl, _⟩ := h; rfl
  · obtain ⟨p, wl, sl, cells, m, d, k, rfl, D, hk, hsm, hl, q⟩ := h
    obtain ⟨dx, h1⟩ := D.ob
    obtain ⟨c, hc, ha, hH⟩ := D.rows.cell hk
    have Th := throws_def (cm := true) (P := P) (w := w) (K := K) (mg := mg) (base := base) (N := ["self", "stretch", "texts", "done", "place"]) (qual := "Disk.empty") (scope := defScope s_Disk_empty) (f := f) (cd := cdv) (A := Ar) (outer := outer) (s := s) (H := H) (E := E)
    refine ⟨_, (W.h (w_pss_cons (w_ps_expr (w_pe_mX0 (w_pv 0) T.cl_Disk Th M_Disk_refuse_if_stopped hr))
      (w_pss_cons (w_ps_set (i := 2) sc_Disk_empty.nd rfl (Or.inl rfl) (w_pe_ix ix_U (w_pe_fldU T.cl_Disk T.na_Disk_written (w_pv 0)) (w_pv 1) (fun _ _ => rfl)))
      (w_pss_cons (w_ps_set (i := 3) sc_Disk_empty.nd rfl (Or.inl rfl) (w_pe_m (w_pv 0) T.cl_Disk M_Disk_spend hr (w_pa_p (w_pe_callBp call_lenU rfl T.n_len PySem.boot_len (w_pa_p (w_pv 2) w_pa_nil)) w_pa_nil)))
      (w_pss_cons (w_ps_if (w_pt_tru (w_pe_fldU T.cl_Disk T.na_Disk_has_stopped (w_pv 0)))
      (w_pss_one (w_ps_nox (w_ps_for PassesOwn.never (fun _ => rfl) (w_pi_range1p rfl T.n_range (w_pa_p (w_pv 3) w_pa_nil)) (w_pg_name (i := 4) sc_Disk_empty.nd rfl (Or.inl rfl))
      (w_pss_one (w_ps_asg w_pe_non (w_pg_sub (w_pv 2) (w_pv 4) set_list))))))
      (w_pss_one (w_ps_expr (w_pe_clear (w_pv 2)))))
      (w_pss_one (w_ps_expr (w_pe_mX0 (w_pv 0) T.cl_Disk Th M_Disk_refuse_if_stopped hr)))))))), ?_⟩
    simp_all only [h1, fl_refuse_if_stopped]
    unfold DM.empty at q
    refine ⟨p, wl, sl, cells, m, d, rfl, D, fun hs => ?_, fun hs => ?_⟩
    · rw [if_pos hs] at q
      exact ⟨_, rfl, q H D Keeps.refl⟩
    rw [if_neg (by rw [hs]; exact Bool.false_ne_true)] at q
    simp_all only [h1, D.rows.w, fl_written, ha, hH, List.length_map, fl_spend]
    generalize hr0 : d.rows.getD k [] = r at q hH ⊢
    have hrl : r.length ≤ 1000 := by rw [← hr0]; exact hsm k
    refine ⟨p, wl, sl, cells, m, d, _, rfl, D, fun H1 D1 k1 => ?_⟩
    obtain ⟨dx1, g1⟩ := D1.ob
    have gc := D1.rows.at_ k c hc
    rw [spend_rows, hr0] at gc
    have hn0 : 0 ≤ dn d.left r.length := by
      unfold dn
      split
      · omega
      · rename_i l e
        have := hl l e
        split <;> omega
    have hn1 : dn d.left r.length ≤ r.length := by
      unfold dn
      split
      · omega
      · split <;> omega
    have kF : ∀ o, Keeps (p :: wl :: sl :: cells) H (upd H1 c o) := fun o => (k1.mono (by simp)).trans (Keeps.upd (by simp [List.mem_of_getElem? hc]))
    simp_all only [g1, fl_has_stopped]
    refine ite2 (fun hst => ?_) (fun hst => ?_)
    · rw [if_pos hst] at q
      refine ⟨by omega, by omega, ForJ.rng (EmInv H1 p c k (dn d.left r.length) r) ⟨⟨_, rfl⟩, (upd_self gc).symm, Nat.zero_le _⟩ ?_ ?_⟩
      · rintro i σ H' hi ⟨⟨x, rfl⟩, rfl, hle⟩
        have ix : ixN ((nulls i r).map tv).length (0 + (i : Int)) = some i := by
          unfold ixN
          rw [if_pos (by omega), if_pos (by rw [List.length_map, nulls_len hle]; omega)]
          simp
        simp_all only [upd_same, ix, upd_upd, nulls_set (show i < r.length by omega)]
        exact ⟨⟨_, rfl⟩, rfl, by omega⟩
      · rintro σ H' ⟨⟨x, rfl⟩, rfl, hle⟩
        have D2 := D1.setRow (r := nulls (dn d.left r.length).toNat r) hc
        obtain ⟨dx2, g2⟩ := D2.ob
        simp_all only [g2, fl_refuse_if_stopped]
        refine ⟨p, wl, sl, cells, m, _, rfl, D2, fun hs2 => ⟨_, rfl, q _ D2 (kF _)⟩, fun hs2 => ?_⟩
        have hs2' : (d.spend r.length).st = false := hs2
        rw [hs2'] at hst; cases hst
    · rw [if_neg hst] at q
      have D2 := D1.setRow (r := []) hc
      obtain ⟨dx2, g2⟩ := D2.ob
      have g2' : upd H1 c (.lst []) p = some (.ins A.Disk dx2 (flds m wl sl { d.spend r.length with rows := (d.spend r.length).rows.set k [] })) := g2
      simp_all only [gc, g2', fl_refuse_if_stopped]
      refine ⟨p, wl, sl, cells, m, _, rfl, D2, fun hs2 => absurd hs2 hst, fun hs2 => ?_⟩
      simp_all only []
      exact q _ D2 (kF _)
def DM.copy (d : DM) : DM := { d with left := none, st := false }
def spCopied (A : ClsA) : Sp := fun vs H Q _ => ∃ (p wl sl : Addr) (cells : List Addr) (m : Int) (d : DM), vs = [.ref p] ∧ DiskAt A H p wl sl cells m d ∧ 3 ≤ d.rows.length ∧ d.rows.length ≤ 16 ∧ 2 ≤ m ∧ m ≤ 32 ∧
  ∀ (p' wl' sl' : Addr) (cells' : List Addr) (H' : Hp), DiskAt A H' p' wl' sl' cells' m d.copy → Same H H' → (∀ x ∈ p' :: wl' :: sl' :: cells', H x = none) → Q (.ref p') H'
end
section
variable {P : Program} {w : World} {K : PySem.W.Frag} {mg : Str → Option Value} {base : Heap} {A : ClsA}
theorem pf_written {m : Int} {wl sl x : Addr} {d : DM} : putF "written" (.ref x) (flds m wl sl d) = flds m x sl d := by simp only [flds, putF, np_width_written, if_false, if_true]
theorem pf_at_sides {m : Int} {wl sl x : Addr} {d : DM} : putF "at_sides" (.ref x) (flds m wl sl d) = flds m wl x d := by simp only [flds, putF, np_width_at_sides, np_written_at_sides, if_false, if_true]
structure CpInv (H : Hp) (rows : List (List Tx)) (i : Nat) (τ : L2.St) (ys : List V) (H' : Hp) : Prop where
  τ : ∃ t, τ = [t]
  ex : ∃ cs : List Addr, ys = cs.map V.ref ∧ cs.length = i ∧ (∀ j c, cs[j]? = some c → H' c = some (.lst ((rows.getD j []).map tv))) ∧ (∀ c ∈ cs, H c = none) ∧ cs.Nodup
  same : Same H H'
  le : i ≤ 16
theorem flds_eq {m : Int} {wl sl : Addr} {d d' : DM} (h1 : d.cnt = d'.cnt) (h2 : d.left = d'.left) (h3 : d.st = d'.st) : flds m wl sl d = flds m wl sl d' := by unfold flds; rw [h1, h2, h3]
theorem sc_Disk_copied : FnScope ["self", "other"] ["self"] (defScope s_Disk_copied) := ⟨rfl, rfl, rfl, by decide +kernel, rfl, by decide +kernel, by decide +kernel⟩
theorem lc_Disk_copied_0 : lcStat { kind := .function, names := [(Str.ofString ".0", .local), (Str.ofString "texts", .local), (Str.ofString "list", .globalImplicit)], isGenerator := false, isCoroutine := false, more := [] } (defScope s_Disk_copied).names ["self", "other"] ["texts"] [none] = true := by decide +kernel
theorem lcn_Disk_copied_0 : (["texts"] : List Str).Nodup := by decide +kernel
theorem ok_Disk_copied {f : Addr} {fd : FuncData} (F : Fun K "copied" "Disk.copied" s_Disk_copied f fd) (T : Txt K mg A) (M_Disk_stretches : GM P w K mg base true 1 A.Disk "stretches" ["self"] (spRd A fun _ d => .int d.rows.length)) (G_Disk : GCX P w K mg base true 3 "Disk" A.Disk ["self", "stretches", "places"] (spInit A)) : FnOk P w K mg base CX0 true 5 f fd ["self"] (spCopied A) := by
  refine F.ok sc_Disk_copied (fun vs H Q E h => ?_) (fun cdv Ar outer s H vs Q E hr h => ?_)
  · obtain ⟨p, wl, sl, cells, m, d, rfl, _⟩ := h; rfl
  · obtain ⟨p, wl, sl, cells, m, d, rfl, D, r3, r16, m0, m1, q⟩ := h
    obtain ⟨dx, h1⟩ := D.ob
    have Th := throws_none (X := (cxOf CX0 true P w K mg base ["self", "other"] "Disk.copied" (defScope s_Disk_copied) f cdv Ar outer s H E).nox)
    refine ⟨_, (W.h (w_pss_cons (w_ps_set (i := 1) sc_Disk_copied.nd rfl (Or.inl rfl) (w_pe_cX Th G_Disk hr rfl (w_pa_p (w_pe_m0 (w_pv 0) T.cl_Disk M_Disk_stretches hr) (w_pa_p (w_pe_fldU T.cl_Disk T.na_Disk_width (w_pv 0)) w_pa_nil))))
      (w_pss_cons (w_ps_fldU T.cl_Disk T.na_Disk_written (w_pv 1) (w_pe_lc (fun _ => rfl) (LcOk.of lc_Disk_copied_0) (w_pi_list (w_pe_fldU T.cl_Disk T.na_Disk_written (w_pv 0))) (fun _ _ _ _ _ => (w_pg_name (i := 0) lcn_Disk_copied_0 rfl (Or.inl rfl))) (fun _ _ _ _ _ => w_pts_nil) (fun _ _ _ _ _ => (w_pe_callTyp call_listU rfl T.n_list boot_list (w_pa_p (w_pv 0) w_pa_nil)))))
      (w_pss_cons (w_ps_fldU T.cl_Disk T.na_Disk_at_sides (w_pv 1) (w_pe_callTyp call_listU rfl T.n_list boot_list (w_pa_p (w_pe_fldU T.cl_Disk T.na_Disk_at_sides (w_pv 0)) w_pa_nil)))
      (w_pss_cons (w_ps_fldU T.cl_Disk T.na_Disk_counted (w_pv 1) (w_pe_fldU T.cl_Disk T.na_Disk_counted (w_pv 0)))
      (w_pss_one (w_ps_ret (w_pv 1)))))))), ?_⟩
    simp_all only [h1, fl_stretches]
    refine ⟨p, wl, sl, cells, m, d, rfl, D, ?_⟩
    simp_all only [h1, fl_width]
    intro x dx2 H2 n2
    refine ⟨x, dx2, d.rows.length, m, rfl, n2.at_, by omega, by omega, m0, m1, fun wl0 sl0 cells0 H3 D3 kp fr => ⟨rfl, ?_⟩⟩
    have s3 : Same H H3 := fun b o e => kp b o (n2.same b o e) (ne_of_none e n2.no)
    have Dk : DiskAt A H3 p wl sl cells m d := D.keep (F := []) (Keeps.same s3) (fun x _ z => nomatch z)
    obtain ⟨dx3, g3⟩ := D3.ob
    obtain ⟨dxk, gk⟩ := Dk.ob
    have px : p ≠ x := ne_of_none h1 n2.no
    simp_all only [gk, fl_written, pick]
    refine ⟨⟨_, SqL.of Dk.rows.w⟩, CompJ.lst (xs := cells.map V.ref) (CpInv H3 d.rows) (fun i τ ys H' I => ?_) (fun i τ ys H' I => SqL.of (I.same _ _ Dk.rows.w)) ⟨⟨_, rfl⟩, ⟨[], rfl, rfl, by simp, by simp, List.nodup_nil⟩, Same.refl _, by decide⟩ ?_ ?_⟩
    · obtain ⟨cs, e, l, _⟩ := I.ex
      rw [e, List.length_map, l]
      exact small1000 (Nat.le_trans I.le (by decide))
    · intro N i v τ ys H' hi I hN
      obtain ⟨t, rfl⟩ := I.τ
      obtain ⟨cs, e, l, hc, hf, hcn⟩ := I.ex
      rw [List.getElem?_map] at hi
      obtain ⟨c, hci, rfl⟩ := Option.map_eq_some_iff.mp hi
      have hcc := I.same _ _ (Dk.rows.at_ i c hci)
      have hil : i < cells.length := (List.getElem?_eq_some_iff.mp hci).1
      simp_all only [hcc]
      intro c2 H4 n4
      refine hN _ _ _ ⟨⟨_, rfl⟩, ⟨cs ++ [c2], by rw [e, List.map_append]; rfl, by simp [l], fun j b hb => ?_, fun b hb => ?_, ?_⟩, I.same.trans n4.same, by have := Dk.rows.len; omega⟩
      · by_cases hj : j < cs.length
        · rw [List.getElem?_append_left hj] at hb
          exact n4.same _ _ (hc j b hb)
        · have hjl : j < (cs ++ [c2]).length := (List.getElem?_eq_some_iff.mp hb).1
          have hj2 : j = cs.length := by rw [List.length_append] at hjl; simp at hjl; omega
          rw [hj2, List.getElem?_append_right (Nat.le_refl _)] at hb
          simp at hb
          subst hb
          rw [hj2, l]
          exact n4.at_
      · rcases List.mem_append.mp hb with hb | hb
        · exact hf b hb
        · rw [List.mem_singleton] at hb; subst hb; exact I.same.free n4.no
      · refine List.nodup_append.mpr ⟨hcn, by simp, fun a ha b hb => ?_⟩
        rw [List.mem_singleton] at hb
        subst hb
        obtain ⟨j, hj⟩ := List.getElem?_of_mem ha
        exact ne_of_none (hc j a hj) n4.no
    · intro τ ys H4 I W H5 nW
      obtain ⟨cs, e, l, hc, hf, hcn⟩ := I.ex
      rw [List.length_map] at l
      have s35 : Same H3 H5 := I.same.trans nW.same
      have g5 := s35 _ _ g3
      have k5 := s35 _ _ gk
      have w5 := nW.at_
      rw [e] at w5
      have sl5 : (upd H5 x (.ins A.Disk dx3 (flds m W sl0 (DM.new d.rows.length)))) sl = some (.lst (d.sides.map tv)) := by
        rw [upd_ne (ne_of_none D.sides n2.no)]; exact s35 _ _ Dk.sides
      have ob5 : (upd H5 x (.ins A.Disk dx3 (flds m W sl0 (DM.new d.rows.length)))) p = some (.ins A.Disk dxk (flds m wl sl d)) := by rw [upd_ne px]; exact k5
      have e0 : (d.rows.length : Int).toNat = d.rows.length := by omega
      rw [e0] at g5
      simp_all only [g5, pf_written, fl_len, ob5, fl_at_sides, sl5]
      intro S H6 n6
      have x6 : H6 x = some (.ins A.Disk dx3 (flds m W sl0 (DM.new d.rows.length))) := n6.same _ _ upd_same
      have p6 := n6.same _ _ ob5
      have p7 : (upd H6 x (.ins A.Disk dx3 (flds m W S (DM.new d.rows.length)))) p = some (.ins A.Disk dxk (flds m wl sl d)) := by rw [upd_ne px]; exact p6
      simp_all only [x6, pf_at_sides, fl_len, p7, fl_counted, upd_same, pf_counted, upd_upd]
      have xW : x ≠ W := ne_of_none (I.same _ _ g3) nW.no
      have xS : x ≠ S := ne_of_none upd_same n6.no
      have WS : W ≠ S := ne_of_none (show (upd H5 x (.ins A.Disk dx3 (flds m W sl0 (DM.new d.rows.length)))) W = some _ by rw [upd_ne (Ne.symm xW)]; exact w5) n6.no
      have csx : ∀ c ∈ cs, c ≠ x := fun c hcm => Ne.symm (ne_of_none g3 (hf c hcm))
      have csat : ∀ c ∈ cs, ∃ o, H5 c = some o := fun c hcm => by
        obtain ⟨j, hj⟩ := List.getElem?_of_mem hcm
        exact ⟨_, nW.same _ _ (hc j c hj)⟩
      have csW : ∀ c ∈ cs, c ≠ W := fun c hcm => by
        obtain ⟨j, hj⟩ := List.getElem?_of_mem hcm
        exact ne_of_none (hc j c hj) nW.no
      have csS : ∀ c ∈ cs, c ≠ S := fun c hcm => by
        obtain ⟨o, ho⟩ := csat c hcm
        exact ne_of_none (show (upd H5 x (.ins A.Disk dx3 (flds m W sl0 (DM.new d.rows.length)))) c = some o by rw [upd_ne (csx c hcm)]; exact ho) n6.no
      have up : ∀ b o, b ≠ x → H5 b = some o → H6 b = some o := fun b o hb h => n6.same _ _ (by rw [upd_ne hb]; exact h)
      have Sn : H S = none := s3.free (s35.free (by have z := n6.no; rw [upd_ne (Ne.symm xS)] at z; exact z))
      refine q x W S cs _ ⟨⟨dx3, ?_⟩, ⟨?_, ?_, fun i c hi => ?_⟩, ?_, ?_⟩ (fun b o hb => ?_) (fun b hb => ?_)
      · exact upd_same.trans (congrArg (fun l => some (HO.ins A.Disk dx3 l)) (flds_eq (d' := d.copy) rfl rfl rfl))
      · rw [upd_ne (Ne.symm xW)]; exact up _ _ (Ne.symm xW) w5
      · rw [l]; exact Dk.rows.len
      · have hcm := List.mem_of_getElem? hi
        rw [upd_ne (csx c hcm)]
        exact up _ _ (csx c hcm) (nW.same _ _ (hc i c hi))
      · rw [upd_ne (Ne.symm xS)]; exact n6.at_
      · simp only [List.nodup_cons, List.mem_cons, not_or]
        exact ⟨⟨xW, xS, fun z => csx x z rfl⟩, ⟨WS, fun z => csW W z rfl⟩, fun z => csS S z rfl, hcn⟩
      · have hbx : b ≠ x := ne_of_none hb n2.no
        rw [upd_ne hbx]
        exact up _ _ hbx (s35 _ _ (s3 _ _ hb))
      · simp only [List.mem_cons] at hb
        rcases hb with rfl | rfl | rfl | hb
        · exact n2.no
        · exact s3.free (I.same.free nW.no)
        · exact Sn
        · exact s3.free (hf b hb)
end
abbrev s__law_spent : Stmt := top 34
abbrev s__law_wrote : Stmt := top 35
abbrev s__law_emptied : Stmt := top 36
abbrev s__law_put : Stmt := top 37
abbrev s__law_due : Stmt := top 38
section
variable {P : Program} {w : World} {K : PySem.W.Frag} {mg : Str → Option Value} {base : Heap} {A : ClsA}
section
variable {a b c d e : V}
theorem at0 : atI [a, b, c, d, e] 0 = some a := rfl
theorem at1 : atI [a, b, c, d, e] 1 = some b := rfl
theorem at2 : atI [a, b, c, d, e] 2 = some c := rfl
theorem at3 : atI [a, b, c, d, e] 3 = some d := rfl
theorem at4 : atI [a, b, c, d, e] 4 = some e := rfl
theorem ix2 : ixN 5 2 = some 2 := rfl
theorem ix3 : ixN 5 3 = some 3 := rfl
theorem ix4 : ixN 5 4 = some 4 := rfl
end
def resV : Res → V | .val v => v | .full => .str "full" | .stop => .str "stopped"
def spSpent : Sp := fun vs H Q _ => ∃ (q rl sl : Addr) (cells : List Addr) (d : DM) (n : Int), vs = [.ref q, .int n] ∧ StAt H q rl sl cells d ∧ d.st = false ∧ ∀ H', StAt H' q rl sl cells (d.spend n) → Keeps [q] H H' → Q (.int (dn d.left n)) H'
theorem StAt.obj {H : Hp} {q rl sl : Addr} {cells : List Addr} {d d' : DM} (D : StAt H q rl sl cells d) (h1 : d'.rows = d.rows) (h2 : d'.sides = d.sides) : StAt (upd H q (.lst [.ref rl, .ref sl, .int d'.cnt, lv d'.left, .bl d'.st])) q rl sl cells d' := by
  have hn := List.nodup_cons.mp D.nd
  have ne : ∀ b ∈ rl :: sl :: cells, b ≠ q := fun b hb z => hn.1 (by rw [← z]; exact hb)
  refine ⟨upd_same, ?_, ?_, D.nd⟩
  · rw [h1]
    refine D.rows.keep fun b o e hb => ?_
    rw [upd_ne (ne b (by rcases hb with rfl | hb <;> simp_all))]; exact e
  · rw [h2, upd_ne (ne sl (by simp))]; exact D.sides
theorem StAt.setRow {H : Hp} {q rl sl c : Addr} {cells : List Addr} {d : DM} {k : Nat} {r : List Tx} (D : StAt H q rl sl cells d) (hc : cells[k]? = some c) : StAt (upd H c (.lst (r.map tv))) q rl sl cells { d with rows := d.rows.set k r } := by
  have hm := List.mem_of_getElem? hc
  have nd := D.nd
  simp only [List.nodup_cons, List.mem_cons, not_or] at nd
  obtain ⟨⟨n1, n2, n3⟩, ⟨n4, n5⟩, n6, n7⟩ := nd
  have e1 : q ≠ c := fun z => n3 (by rw [z]; exact hm)
  have e2 : sl ≠ c := fun z => n6 (by rw [z]; exact hm)
  exact ⟨by rw [upd_ne e1]; exact D.ob, D.rows.set (List.nodup_cons.mpr ⟨n5, n7⟩) hc, by rw [upd_ne e2]; exact D.sides, D.nd⟩
theorem StAt.setSides {H : Hp} {q rl sl : Addr} {cells : List Addr} {d : DM} {r : List Tx} (D : StAt H q rl sl cells d) : StAt (upd H sl (.lst (r.map tv))) q rl sl cells { d with sides := r } := by
  have nd := D.nd
  simp only [List.nodup_cons, List.mem_cons, not_or] at nd
  obtain ⟨⟨n1, n2, n3⟩, ⟨n4, n5⟩, n6, n7⟩ := nd
  refine ⟨by rw [upd_ne n2]; exact D.ob, D.rows.keep fun b o e hb => ?_, upd_same, D.nd⟩
  have : b ≠ sl := by
    rcases hb with rfl | hb
    · exact n4
    · exact fun z => n6 (by rw [← z]; exact hb)
  rw [upd_ne this]; exact e
theorem StAt.same {H H' : Hp} {q rl sl : Addr} {cells : List Addr} {d : DM} (D : StAt H q rl sl cells d) (s : Same H H') : StAt H' q rl sl cells d := D.keep (F := []) (Keeps.same s) (fun x _ z => nomatch z)
theorem DiskAt.same {H H' : Hp} {p wl sl : Addr} {cells : List Addr} {m : Int} {d : DM} (D : DiskAt A H p wl sl cells m d) (s : Same H H') : DiskAt A H' p wl sl cells m d := D.keep (F := []) (Keeps.same s) (fun x _ z => nomatch z)
theorem sc__law_spent : FnScope ["_law_state", "_law_many", "_law_done_here"] ["_law_state", "_law_many"] (defScope s__law_spent) := ⟨rfl, rfl, rfl, by decide +kernel, rfl, by decide +kernel, by decide +kernel⟩
theorem ok__law_spent {f : Addr} {fd : FuncData} (F : Fun K "_law_spent" "_law_spent" s__law_spent f fd) (T : Txt K mg A) : FnOk P w K mg base CX0 true 1 f fd ["_law_state", "_law_many"] spSpent := by
  refine F.ok sc__law_spent (fun vs H Q E h => ?_) (fun cdv Ar outer s H vs Q E hr h => ?_)
  · obtain ⟨q, rl, sl, cells, d, n, rfl, _⟩ := h; rfl
  · obtain ⟨q, rl, sl, cells, d, n, rfl, D, hs, k⟩ := h
    have h1 := D.ob
    rw [hs] at h1
    refine ⟨_, (W.h (w_pss_cons (w_ps_set (i := 2) sc__law_spent.nd rfl (Or.inl rfl) (w_pv 1))
      (w_pss_cons (w_ps_if (w_pt (w_pw_and (w_pt_cmpR op_isnU (w_pe_ix ix_U (w_pv 0) w_pe_int (fun _ _ => rfl)) w_pe_non (nomark _)) (w_pw_and1 (w_pt_cmpR op_gt (w_pv 1) (w_pe_ix ix_U (w_pv 0) w_pe_int (fun _ _ => rfl)) (nomark _)))))
      (w_pss_cons (w_ps_set (i := 2) sc__law_spent.nd rfl (Or.inl rfl) (w_pe_ix ix_U (w_pv 0) w_pe_int (fun _ _ => rfl)))
      (w_pss_one (w_ps_asg w_pe_bl (w_pg_sub (w_pv 0) w_pe_int set_list))))
      w_pss_nil)
      (w_pss_cons (w_ps_asg (w_pe_op op_addU (w_pe_ix ix_U (w_pv 0) w_pe_int (fun _ _ => rfl)) (w_pv 2)) (w_pg_sub (w_pv 0) w_pe_int set_list))
      (w_pss_cons (w_ps_if (w_pt_cmpR op_isnU (w_pe_ix ix_U (w_pv 0) w_pe_int (fun _ _ => rfl)) w_pe_non (nomark _))
      (w_pss_one (w_ps_asg (w_pe_op op_sub (w_pe_ix ix_U (w_pv 0) w_pe_int (fun _ _ => rfl)) (w_pv 2)) (w_pg_sub (w_pv 0) w_pe_int set_list)))
      w_pss_nil)
      (w_pss_one (w_ps_ret (w_pv 2)))))))), ?_⟩
    cases hl : d.left with
    | none =>
      rw [hl] at h1
      simp_all only [h1, at3, at2, lv, upd_same, ix2, ix3, ix4]
      have e : d.spend n = { d with cnt := d.cnt + n, left := none, st := false } := by unfold DM.spend; rw [hl]; simp [dn]
      have e2 : dn d.left n = n := by rw [hl]; rfl
      rw [e, e2] at k
      exact k _ (D.obj (d' := { d with cnt := d.cnt + n, left := none, st := false }) rfl rfl) (Keeps.upd (by simp))
    | some l =>
      rw [hl] at h1
      have e2 : dn d.left n = if l < n then l else n := by rw [hl]; rfl
      by_cases hln : l < n
      · simp_all only [h1, at3, at2, lv, upd_same, ix2, ix3, ix4, hln, decide_true, upd_upd]
        have e : d.spend n = { d with cnt := d.cnt + l, left := some (l - l), st := true } := by unfold DM.spend; rw [e2, hl]; simp [hln]
        rw [e, e2, if_pos hln] at k
        exact k _ (D.obj (d' := { d with cnt := d.cnt + l, left := some (l - l), st := true }) rfl rfl) (Keeps.upd (by simp))
      · simp_all only [h1, at3, at2, lv, upd_same, ix2, ix3, ix4, hln, decide_false, upd_upd]
        have e : d.spend n = { d with cnt := d.cnt + n, left := some (l - n), st := false } := by unfold DM.spend; rw [e2, hl]; simp [hln]
        rw [e, e2, if_neg hln] at k
        exact k _ (D.obj (d' := { d with cnt := d.cnt + n, left := some (l - n), st := false }) rfl rfl) (Keeps.upd (by simp))
def spWrote : Sp := fun vs H Q _ => ∃ (q rl sl : Addr) (cells : List Addr) (d : DM) (m : Int) (k : Nat) (t : Str), vs = [.ref q, .int m, .int k, .str t] ∧ StAt H q rl sl cells d ∧ d.st = false ∧ k < d.rows.length ∧ t.length ≤ 1000 ∧ small d ∧
  ∀ H', StAt H' q rl sl cells (d.write m k t).2 → Keeps (q :: rl :: sl :: cells) H H' → Q (resV (d.write m k t).1) H'
def spEmptied : Sp := fun vs H Q _ => ∃ (q rl sl : Addr) (cells : List Addr) (d : DM) (k : Nat), vs = [.ref q, .int k] ∧ StAt H q rl sl cells d ∧ d.st = false ∧ k < d.rows.length ∧ small d ∧ (∀ l, d.left = some l → 0 ≤ l) ∧
  ∀ H', StAt H' q rl sl cells (d.empty k).2 → Keeps (q :: rl :: sl :: cells) H H' → Q (resV (d.empty k).1) H'
def spPutL : Sp := fun vs H Q _ => ∃ (q rl sl : Addr) (cells : List Addr) (d : DM) (k : Nat) (t : Str), vs = [.ref q, .int k, .str t] ∧ StAt H q rl sl cells d ∧ d.st = false ∧ k < 2 ∧ d.sides.length = 2 ∧ t.length ≤ 1000 ∧ (∀ l, d.left = some l → 0 ≤ l) ∧
  ∀ H', StAt H' q rl sl cells (d.put k t).2 → Keeps (q :: rl :: sl :: cells) H H' → Q (resV (d.put k t).1) H'
theorem dn_nonneg {l : Option Int} {n : Nat} (h : ∀ x, l = some x → 0 ≤ x) : 0 ≤ dn l n := by
  unfold dn
  split
  · omega
  · rename_i x
    have := h x rfl
    split <;> omega
theorem dn_le {l : Option Int} {n : Int} : dn l n ≤ n := by
  unfold dn
  split
  · omega
  · split <;> omega
theorem at20 {a b : V} : atI [a, b] 0 = some a := rfl
theorem at21 {a b : V} : atI [a, b] 1 = some b := rfl
theorem sc__law_wrote : FnScope ["_law_state", "_law_wide", "_law_stretch", "_law_text", "_law_row_there", "_law_done_here"] ["_law_state", "_law_wide", "_law_stretch", "_law_text"] (defScope s__law_wrote) := ⟨rfl, rfl, rfl, by decide +kernel, rfl, by decide +kernel, by decide +kernel⟩
theorem ok__law_wrote {f : Addr} {fd : FuncData} (F : Fun K "_law_wrote" "_law_wrote" s__law_wrote f fd) (T : Txt K mg A) (G__law_spent : GF P w K mg base true 1 "_law_spent" ["_law_state", "_law_many"] spSpent) : FnOk P w K mg base CX0 true 2 f fd ["_law_state", "_law_wide", "_law_stretch", "_law_text"] spWrote := by
  refine F.ok sc__law_wrote (fun vs H Q E h => ?_) (fun cdv Ar outer s H vs Q E hr h => ?_)
  · obtain ⟨q, rl, sl, cells, d, m, k, t, rfl, _⟩ := h; rfl
  · obtain ⟨q, rl, sl, cells, d, m, k, t, rfl, D, hs, hk, ht, hsm, kq⟩ := h
    have h1 := D.ob
    have hu : _ < cLine := Nat.lt_of_succ_lt (hu_of hr)
    obtain ⟨c, hc, ha, hH⟩ := D.rows.cell hk
    have hcm := List.mem_of_getElem? hc
    have ht' : t.length ≤ sizeLine := Nat.le_trans ht (by decide)
    refine ⟨_, (W.h (w_pss_cons (w_ps_set (i := 4) sc__law_wrote.nd rfl (Or.inl rfl) (w_pe_ix ix_U (w_pe_ix ix_U (w_pv 0) w_pe_int (fun _ _ => rfl)) (w_pv 2) (fun _ _ => rfl)))
      (w_pss_cons (w_ps_if (w_pt_cmpR (op_eqU hu) (w_pe_callBp call_lenU rfl T.n_len PySem.boot_len (w_pa_p (w_pv 4) w_pa_nil)) (w_pv 1) (nomark _))
      (w_pss_one (w_ps_ret w_pe_str))
      w_pss_nil)
      (w_pss_cons (w_ps_set (i := 5) sc__law_wrote.nd rfl (Or.inl rfl) (w_pe_g G__law_spent hr rfl (w_pa_p (w_pv 0) (w_pa_p (w_pe_callBp call_lenU rfl T.n_len PySem.boot_len (w_pa_p (w_pv 3) w_pa_nil)) w_pa_nil))))
      (w_pss_cons (w_ps_if (w_pt (w_pw_and (w_pt_tru (w_pe_ix ix_U (w_pv 0) w_pe_int (fun _ _ => rfl))) (w_pw_and1 (w_pt_cmpR (op_eqU hu) (w_pv 5) w_pe_int (nomark _)))))
      (w_pss_one (w_ps_ret w_pe_str))
      w_pss_nil)
      (w_pss_cons (w_ps_expr (w_pe_append (w_pv 4) (w_pe_slice sl_U (w_pv 3) w_po_none (w_po_some (w_pv 5)))))
      (w_pss_one (w_ps_ret (w_pe_ix ix_U (w_pe_lstA (w_pa_p w_pe_str (w_pa_p (w_pe_op op_sub (w_pe_callBp call_lenU rfl T.n_len PySem.boot_len (w_pa_p (w_pv 4) w_pa_nil)) w_pe_int) w_pa_nil))) (w_pe_callTyp call_intU rfl T.n_int boot_int (w_pa_p (w_pe_not (w_pe_ix ix_U (w_pv 0) w_pe_int (fun _ _ => rfl))) w_pa_nil)) (fun _ _ => rfl)))))))))), ?_⟩
    unfold DM.write at kq
    rw [if_neg (by rw [hs]; exact Bool.false_ne_true)] at kq
    simp_all only [h1, at0, D.rows.w, ha, hH, List.length_map]
    refine ite2 (fun h => ?_) (fun h => ?_)
    · rw [if_pos (of_decide_eq_true h)] at kq
      exact kq H D Keeps.refl
    rw [if_neg (fun z => h (decide_eq_true z))] at kq
    simp_all only [ht']
    refine ⟨q, rl, sl, cells, d, _, rfl, D, hs, fun H1 D1 k1 => ?_⟩
    have g1 := D1.ob
    have gc := D1.rows.at_ k c hc
    rw [spend_rows] at gc
    have km : Keeps (q :: rl :: sl :: cells) H H1 := k1.mono (by simp)
    have D2 := D1.setRow (r := d.rows.getD k [] ++ [cutT t (dn d.left t.length)]) hc
    have g2 := D2.ob
    have g2' : upd H1 c (.lst ((d.rows.getD k [] ++ [cutT t (dn d.left t.length)]).map tv)) q = some (.lst [.ref rl, .ref sl, .int (d.spend t.length).cnt, lv (d.spend t.length).left, .bl (d.spend t.length).st]) := g2
    have k2 : Keeps (q :: rl :: sl :: cells) H (upd H1 c (.lst ((d.rows.getD k [] ++ [cutT t (dn d.left t.length)]).map tv))) := km.trans (Keeps.upd (by simp [hcm]))
    have last : ∀ (p3 : Addr) (H3 : Hp), New (upd H1 c (.lst ((d.rows.getD k [] ++ [cutT t (dn d.left t.length)]).map tv))) p3 (.lst [V.str "stopped", V.int (((d.rows.getD k [] ++ [cutT t (dn d.left t.length)]).map tv).length - 1)]) H3 →
        ¬ (dn d.left t.length = 0 ∧ (d.spend t.length).st = true) → ∃ x, atI [V.str "stopped", V.int (((d.rows.getD k [] ++ [cutT t (dn d.left t.length)]).map tv).length - 1)] (if (!(d.spend t.length).st) = true then 1 else 0) = some x ∧ Q x H3 := by
      intro p3 H3 n3 hz
      rw [if_neg hz] at kq
      have z := kq H3 (D2.same n3.same) (k2.trans (Keeps.same n3.same))
      cases hst : (d.spend t.length).st with
      | true => rw [hst] at z; exact ⟨_, rfl, z⟩
      | false =>
        rw [hst] at z
        refine ⟨_, rfl, ?_⟩
        have e : (((d.rows.getD k [] ++ [cutT t (dn d.left t.length)]).map tv).length : Int) - 1 = (d.rows.getD k []).length := by simp
        rw [e]
        exact z
    by_cases hz : dn d.left t.length = 0 ∧ (d.spend t.length).st = true
    · simp_all only [g1, at4, hz.1, hz.2, decide_true]
      rw [if_pos hz] at kq
      exact kq H1 D1 km
    · simp_all only [g1, at4]
      refine ite2 (fun hst => ite2 (fun h0 => absurd ⟨of_decide_eq_true h0, hst⟩ hz) (fun _ => ?_)) (fun _ => ?_)
      all_goals
        simp_all only [gc, map_app, upd_same]
        refine ⟨by rw [List.length_map]; exact small1000 (hsm k), by decide, fun p3 H3 n3 _ => ?_⟩
        simp_all only [n3.same _ _ g2', at4, n3.at_]
        exact last p3 H3 n3 hz
end
section
variable {P : Program} {w : World} {K : PySem.W.Frag} {mg : Str → Option Value} {base : Heap} {A : ClsA}
structure EdInv (H1 : Hp) (q c : Addr) (k : Nat) (n : Int) (r : List Tx) (i : Nat) (σ : L2.St) (H' : Hp) : Prop where
  ex : ∃ x, σ = [some (V.ref q), some (.int k), some (.ref c), some (.int n), x]
  at_ : H' = upd H1 c (.lst ((nulls i r).map tv))
  le : i ≤ r.length
theorem sc__law_emptied : FnScope ["_law_state", "_law_stretch", "_law_row_there", "_law_done_here", "_law_place"] ["_law_state", "_law_stretch"] (defScope s__law_emptied) := ⟨rfl, rfl, rfl, by decide +kernel, rfl, by decide +kernel, by decide +kernel⟩
theorem ok__law_emptied {f : Addr} {fd : FuncData} (F : Fun K "_law_emptied" "_law_emptied" s__law_emptied f fd) (T : Txt K mg A) (G__law_spent : GF P w K mg base true 1 "_law_spent" ["_law_state", "_law_many"] spSpent) : FnOk P w K mg base CX0 true 2 f fd ["_law_state", "_law_stretch"] spEmptied := by
  refine F.ok sc__law_emptied (fun vs H Q E h => ?_) (fun cdv Ar outer s H vs Q E hr h => ?_)
  · obtain ⟨q, rl, sl, cells, d, k, rfl, _⟩ := h; rfl
  · obtain ⟨q, rl, sl, cells, d, k, rfl, D, hs, hk, hsm, hl, kq⟩ := h
    have h1 := D.ob
    obtain ⟨c, hc, ha, hH⟩ := D.rows.cell hk
    have hcm := List.mem_of_getElem? hc
    refine ⟨_, (W.h (w_pss_cons (w_ps_set (i := 2) sc__law_emptied.nd rfl (Or.inl rfl) (w_pe_ix ix_U (w_pe_ix ix_U (w_pv 0) w_pe_int (fun _ _ => rfl)) (w_pv 1) (fun _ _ => rfl)))
      (w_pss_cons (w_ps_set (i := 3) sc__law_emptied.nd rfl (Or.inl rfl) (w_pe_g G__law_spent hr rfl (w_pa_p (w_pv 0) (w_pa_p (w_pe_callBp call_lenU rfl T.n_len PySem.boot_len (w_pa_p (w_pv 2) w_pa_nil)) w_pa_nil))))
      (w_pss_cons (w_ps_for PassesOwn.never (fun _ => rfl) (w_pi_range1p rfl T.n_range (w_pa_p (w_pv 3) w_pa_nil)) (w_pg_name (i := 4) sc__law_emptied.nd rfl (Or.inl rfl))
      (w_pss_one (w_ps_asg w_pe_non (w_pg_sub (w_pv 2) (w_pv 4) set_list))))
      (w_pss_cons (w_ps_if (w_pt_tru (w_pe_ix ix_U (w_pv 0) w_pe_int (fun _ _ => rfl)))
      (w_pss_one (w_ps_ret w_pe_str))
      w_pss_nil)
      (w_pss_cons (w_ps_expr (w_pe_clear (w_pv 2)))
      (w_pss_one (w_ps_ret w_pe_non)))))))), ?_⟩
    unfold DM.empty at kq
    rw [if_neg (by rw [hs]; exact Bool.false_ne_true)] at kq
    simp_all only [h1, at0, D.rows.w, ha, hH, List.length_map]
    generalize hr0 : d.rows.getD k [] = r at kq hH ⊢
    have hrl : r.length ≤ 1000 := by rw [← hr0]; exact hsm k
    refine ⟨q, rl, sl, cells, d, _, rfl, D, hs, fun H1 D1 k1 => ?_⟩
    have gc := D1.rows.at_ k c hc
    rw [spend_rows, hr0] at gc
    have hn0 : 0 ≤ dn d.left r.length := dn_nonneg hl
    have hn1 : dn d.left r.length ≤ r.length := dn_le
    have kF : ∀ o, Keeps (q :: rl :: sl :: cells) H (upd H1 c o) := fun o => (k1.mono (by simp)).trans (Keeps.upd (by simp [hcm]))
    simp_all only []
    refine ⟨by omega, by omega, ForJ.rng (EdInv H1 q c k (dn d.left r.length) r) ⟨⟨_, rfl⟩, (upd_self gc).symm, Nat.zero_le _⟩ ?_ ?_⟩
    · rintro i σ H' hi ⟨⟨x, rfl⟩, rfl, hle⟩
      have ix : ixN ((nulls i r).map tv).length (0 + (i : Int)) = some i := by
        unfold ixN
        rw [if_pos (by omega), if_pos (by rw [List.length_map, nulls_len hle]; omega)]
        simp
      simp_all only [upd_same, ix, upd_upd, nulls_set (show i < r.length by omega)]
      exact ⟨⟨_, rfl⟩, rfl, by omega⟩
    · rintro σ H' ⟨⟨x, rfl⟩, rfl, hle⟩
      have D2 := D1.setRow (r := nulls (dn d.left r.length).toNat r) hc
      have g2 : upd H1 c (.lst ((nulls (dn d.left r.length).toNat r).map tv)) q = some (.lst [.ref rl, .ref sl, .int (d.spend r.length).cnt, lv (d.spend r.length).left, .bl (d.spend r.length).st]) := D2.ob
      simp_all only [g2, at4]
      refine ite2 (fun hst => ?_) (fun hst => ?_)
      · rw [if_pos hst] at kq
        exact kq _ D2 (kF _)
      · rw [if_neg hst] at kq
        simp_all only [upd_same, upd_upd]
        exact kq _ (D1.setRow (r := []) hc) (kF _)
theorem sc__law_put : FnScope ["_law_state", "_law_k", "_law_text", "_law_done_here"] ["_law_state", "_law_k", "_law_text"] (defScope s__law_put) := ⟨rfl, rfl, rfl, by decide +kernel, rfl, by decide +kernel, by decide +kernel⟩
theorem ok__law_put {f : Addr} {fd : FuncData} (F : Fun K "_law_put" "_law_put" s__law_put f fd) (T : Txt K mg A) (G__law_spent : GF P w K mg base true 1 "_law_spent" ["_law_state", "_law_many"] spSpent) : FnOk P w K mg base CX0 true 2 f fd ["_law_state", "_law_k", "_law_text"] spPutL := by
  refine F.ok sc__law_put (fun vs H Q E h => ?_) (fun cdv Ar outer s H vs Q E hr h => ?_)
  · obtain ⟨q, rl, sl, cells, d, k, t, rfl, _⟩ := h; rfl
  · obtain ⟨q, rl, sl, cells, d, k, t, rfl, D, hs, hk, hk2, ht, hl, kq⟩ := h
    have h1 := D.ob
    have hu : _ < cLine := Nat.lt_of_succ_lt (hu_of hr)
    have ht' : t.length ≤ sizeLine := Nat.le_trans ht (by decide)
    refine ⟨_, (W.h (w_pss_cons (w_ps_set (i := 3) sc__law_put.nd rfl (Or.inl rfl) (w_pe_g G__law_spent hr rfl (w_pa_p (w_pv 0) (w_pa_p (w_pe_callBp call_lenU rfl T.n_len PySem.boot_len (w_pa_p (w_pv 2) w_pa_nil)) w_pa_nil))))
      (w_pss_cons (w_ps_if (w_pt (w_pw_or (w_pt_cmpR op_gt (w_pv 3) w_pe_int (nomark _)) (w_pw_or1 (w_pt_not (w_pt_tru (w_pe_ix ix_U (w_pv 0) w_pe_int (fun _ _ => rfl)))))))
      (w_pss_one (w_ps_asg (w_pe_slice sl_U (w_pv 2) w_po_none (w_po_some (w_pv 3))) (w_pg_sub (w_pe_ix ix_U (w_pv 0) w_pe_int (fun _ _ => rfl)) (w_pv 1) set_list)))
      w_pss_nil)
      (w_pss_one (w_ps_ret (w_pe_ix ix_U (w_pe_lstA (w_pa_p w_pe_str (w_pa_p w_pe_non w_pa_nil))) (w_pe_callTyp call_intU rfl T.n_int boot_int (w_pa_p (w_pe_not (w_pe_ix ix_U (w_pv 0) w_pe_int (fun _ _ => rfl))) w_pa_nil)) (fun _ _ => rfl))))))), ?_⟩
    unfold DM.put at kq
    rw [if_neg (by rw [hs]; exact Bool.false_ne_true)] at kq
    simp_all only [ht']
    refine ⟨q, rl, sl, cells, d, _, rfl, D, hs, fun H1 D1 k1 => ?_⟩
    have g1 := D1.ob
    have gs := D1.sides
    rw [spend_sides] at gs
    have hn0 : 0 ≤ dn d.left t.length := dn_nonneg hl
    have km : Keeps (q :: rl :: sl :: cells) H H1 := k1.mono (by simp)
    have D2 := D1.setSides (r := d.sides.set k (cutT t (dn d.left t.length)))
    have g2 : upd H1 sl (.lst ((d.sides.set k (cutT t (dn d.left t.length))).map tv)) q = some (.lst [.ref rl, .ref sl, .int (d.spend t.length).cnt, lv (d.spend t.length).left, .bl (d.spend t.length).st]) := D2.ob
    have k2 : Keeps (q :: rl :: sl :: cells) H (upd H1 sl (.lst ((d.sides.set k (cutT t (dn d.left t.length))).map tv))) := km.trans (Keeps.upd (by simp))
    have ix : ixN (d.sides.map tv).length (k : Int) = some k := by
      unfold ixN
      rw [if_pos (by omega), if_pos (by rw [List.length_map]; omega)]
      simp
    have sm : (d.sides.map tv).set k (V.str (Txt.slice t none (some (dn d.left t.length)))) = (d.sides.set k (cutT t (dn d.left t.length))).map tv := by rw [List.map_set]; rfl
    by_cases hz : dn d.left t.length = 0 ∧ (d.spend t.length).st = true
    · rw [if_pos hz] at kq
      have n0 : ¬ (0 < dn d.left t.length) := by omega
      simp_all only [g1, at4, n0, hz.2, decide_false]
      refine ⟨by decide, fun p3 H3 n3 _ => ?_⟩
      have g3 := n3.same _ _ g1
      rw [hz.2] at g3
      simp_all only [g3, at4, n3.at_, at20]
      exact kq H3 (D1.same n3.same) (km.trans (Keeps.same n3.same))
    · rw [if_neg hz] at kq
      have both : ∀ (p3 : Addr) (H3 : Hp), New (upd H1 sl (.lst ((d.sides.set k (cutT t (dn d.left t.length))).map tv))) p3 (.lst [V.str "stopped", V.non]) H3 → ∃ x, atI [V.str "stopped", V.non] (if (!(d.spend t.length).st) = true then 1 else 0) = some x ∧ Q x H3 := by
        intro p3 H3 n3
        have z := kq H3 (D2.same n3.same) (k2.trans (Keeps.same n3.same))
        cases hst : (d.spend t.length).st with
        | true => rw [hst] at z; exact ⟨_, rfl, z⟩
        | false => rw [hst] at z; exact ⟨_, rfl, z⟩
      simp_all only [g1, at4, gs, at1, ix, sm]
      have fin : 2 ≤ sizeLine ∧ ∀ (p3 : Addr) (H3 : Hp), New (upd H1 sl (.lst ((d.sides.set k (cutT t (dn d.left t.length))).map tv))) p3 (.lst [V.str "stopped", V.non]) H3 → p3 ≠ sysModules →
          ∃ x, (H3 q = some (.lst x) ∨ H3 q = some (.tup x)) ∧ ∃ x_1, atI x 4 = some x_1 ∧ uB x_1 fun c => ∃ xs, (H3 p3 = some (.lst xs) ∨ H3 p3 = some (.tup xs)) ∧ ∃ v, atI xs (if (!c) = true then 1 else 0) = some v ∧ Q v H3 := by
        refine ⟨by decide, fun p3 H3 n3 _ => ⟨_, .inl (n3.same _ _ g2), _, at4, ?_⟩⟩
        rw [uB_b]
        exact ⟨_, .inl n3.at_, both p3 H3 n3⟩
      refine ite2 (fun _ => fin) (fun h => ite2 (fun _ => fin) (fun h2 => absurd ⟨?_, ?_⟩ hz))
      · have h' : ¬ (0 < dn d.left t.length) := fun z => h (decide_eq_true z)
        omega
      · cases hst : (d.spend t.length).st with
        | true => rfl
        | false => exact absurd (by rw [hst]; rfl) h2
end
section
variable {P : Program} {w : World} {K : PySem.W.Frag} {mg : Str → Option Value} {base : Heap} {A : ClsA}
def DM.deed (m : Int) (d : DM) (way : Int) (k : Nat) (t : Str) : Res × DM := if way = 0 then d.write m k t else if way = 1 then d.empty k else d.put (k % 2) t
theorem deed_stop {m : Int} {d : DM} {way : Int} {k : Nat} {t : Str} (h : d.st = true) : d.deed m way k t = (.stop, d) := by
  unfold DM.deed DM.write DM.empty DM.put
  simp only [h, if_true, ite_self]
structure DeedOk (H : Hp) (g : Addr) (d : DM) (way : Int) (k : Nat) (t : Str) : Prop where
  at_ : H g = some (.tup [.int way, .int k, .str t])
  k : k < d.rows.length
  two : d.sides.length = 2
  t : t.length ≤ 1000
  small : small d
  left : ∀ l, d.left = some l → 0 ≤ l
def spDue : Sp := fun vs H Q _ => ∃ (q rl sl g : Addr) (cells : List Addr) (d : DM) (m way : Int) (k : Nat) (t : Str), vs = [.ref q, .int m, .ref g] ∧ StAt H q rl sl cells d ∧ DeedOk H g d way k t ∧
  ∀ H', StAt H' q rl sl cells (d.deed m way k t).2 → Keeps (q :: rl :: sl :: cells) H H' → Q (resV (d.deed m way k t).1) H'
theorem sc__law_due : FnScope ["_law_state", "_law_wide", "_law_deed", "_law_way", "_law_stretch", "_law_text"] ["_law_state", "_law_wide", "_law_deed"] (defScope s__law_due) := ⟨rfl, rfl, rfl, by decide +kernel, rfl, by decide +kernel, by decide +kernel⟩
theorem ok__law_due {f : Addr} {fd : FuncData} (F : Fun K "_law_due" "_law_due" s__law_due f fd) (T : Txt K mg A) (G__law_wrote : GF P w K mg base true 2 "_law_wrote" ["_law_state", "_law_wide", "_law_stretch", "_law_text"] spWrote) (G__law_emptied : GF P w K mg base true 2 "_law_emptied" ["_law_state", "_law_stretch"] spEmptied) (G__law_put : GF P w K mg base true 2 "_law_put" ["_law_state", "_law_k", "_law_text"] spPutL) : FnOk P w K mg base CX0 true 3 f fd ["_law_state", "_law_wide", "_law_deed"] spDue := by
  refine F.ok sc__law_due (fun vs H Q E h => ?_) (fun cdv Ar outer s H vs Q E hr h => ?_)
  · obtain ⟨q, rl, sl, g, cells, d, m, way, k, t, rfl, _⟩ := h; rfl
  · obtain ⟨q, rl, sl, g, cells, d, m, way, k, t, rfl, D, O, kq⟩ := h
    have h1 := D.ob
    have h2 := O.at_
    have hu : _ < cLine := Nat.lt_of_succ_lt (hu_of hr)
    refine ⟨_, (W.h (w_pss_cons (w_ps_asg (w_pv 2) (w_pg_tupA (n := 3) (w_pgs_cons (w_pg_name (i := 3) sc__law_due.nd rfl (Or.inl rfl)) (w_pgs_cons (w_pg_name (i := 4) sc__law_due.nd rfl (Or.inl rfl)) (w_pgs_cons (w_pg_name (i := 5) sc__law_due.nd rfl (Or.inl rfl)) w_pgs_nil)))))
      (w_pss_cons (w_ps_if (w_pt_tru (w_pe_ix ix_U (w_pv 0) w_pe_int (fun _ _ => rfl)))
      (w_pss_one (w_ps_ret w_pe_str))
      w_pss_nil)
      (w_pss_cons (w_ps_if (w_pt_cmpR (op_eqU hu) (w_pv 3) w_pe_int (nomark _))
      (w_pss_one (w_ps_ret (w_pe_g G__law_wrote hr rfl (w_pa_p (w_pv 0) (w_pa_p (w_pv 1) (w_pa_p (w_pv 4) (w_pa_p (w_pv 5) w_pa_nil)))))))
      w_pss_nil)
      (w_pss_cons (w_ps_if (w_pt_cmpR (op_eqU hu) (w_pv 3) w_pe_int (nomark _))
      (w_pss_one (w_ps_ret (w_pe_g G__law_emptied hr rfl (w_pa_p (w_pv 0) (w_pa_p (w_pv 4) w_pa_nil)))))
      w_pss_nil)
      (w_pss_one (w_ps_ret (w_pe_g G__law_put hr rfl (w_pa_p (w_pv 0) (w_pa_p (w_pe_op op_mod (w_pv 4) w_pe_int) (w_pa_p (w_pv 5) w_pa_nil))))))))))), ?_⟩
    simp_all only []
    refine ⟨g, _, rfl, SqT.of h2, rfl, ?_⟩
    simp_all only [h1, at4]
    refine ite2 (fun hst => ?_) (fun hst => ?_)
    · rw [deed_stop hst] at kq
      exact kq H D Keeps.refl
    have hs : d.st = false := Bool.eq_false_iff.mpr hst
    unfold DM.deed at kq
    refine ite2 (fun h => ?_) (fun h => ?_)
    · rw [if_pos (of_decide_eq_true h)] at kq
      exact ⟨q, rl, sl, cells, d, m, k, t, rfl, D, hs, O.k, O.t, O.small, kq⟩
    rw [if_neg (fun z => h (decide_eq_true z))] at kq
    refine ite2 (fun h => ?_) (fun h => ?_)
    · rw [if_pos (of_decide_eq_true h)] at kq
      exact ⟨q, rl, sl, cells, d, k, rfl, D, hs, O.k, O.small, O.left, kq⟩
    rw [if_neg (fun z => h (decide_eq_true z))] at kq
    refine ⟨by decide, ?_⟩
    exact ⟨q, rl, sl, cells, d, k % 2, t, rfl, D, hs, Nat.mod_lt _ (by decide), O.two, O.t, O.left, kq⟩
end
abbrev s__law_kinds : Stmt := top 39
section
variable {P : Program} {w : World} {K : PySem.W.Frag} {mg : Str → Option Value} {base : Heap} {A : ClsA}
theorem sizeBig : 1000 ≤ sizeLine := by decide
theorem boot_ValueError : bootBuiltins "ValueError" = some (.type "ValueError") := by decide +kernel
theorem isi_exc {K : PySem.W.Frag} {H : Hp} {e C : Addr} {o : Obj} {c : V} {u : Value} {b : Bool} {Q : VK} (he : H e = some (.frz o (.own 0))) (ho : ExcO C o) (O : ErrC K C) (hk : PySem.W.kitOne K (.ref C) u = some b) (hc : clsV c = some u) (q : Q (.bl b) H) : rIsi K [.ref e, c] H Q :=
  ⟨_, _, _, _, _, rfl, hc, .exc he ho O, hk, q⟩
/-- the error class C is the n-th of the kinds that the law asks for -/
structure KC (K : PySem.W.Frag) (A : ClsA) (C : Addr) (n : Nat) : Prop where
  ec : ErrC K C
  lt : n < 16
  k_ValueError : PySem.W.kitOne K (.ref C) (.type "ValueError") = some true
  k_NoRow : PySem.W.kitOne K (.ref C) (.ref A.NoRow) = some (decide (0 = n))
  k_NoDisk : PySem.W.kitOne K (.ref C) (.ref A.NoDisk) = some (decide (1 = n))
  k_Full : PySem.W.kitOne K (.ref C) (.ref A.Full) = some (decide (2 = n))
  k_Stopped : PySem.W.kitOne K (.ref C) (.ref A.Stopped) = some (decide (3 = n))
  k_NoFile : PySem.W.kitOne K (.ref C) (.ref A.NoFile) = some (decide (4 = n))
  k_NoPlace : PySem.W.kitOne K (.ref C) (.ref A.NoPlace) = some (decide (5 = n))
  k_HeldAlready : PySem.W.kitOne K (.ref C) (.ref A.HeldAlready) = some (decide (6 = n))
  k_NotHeld : PySem.W.kitOne K (.ref C) (.ref A.NotHeld) = some (decide (7 = n))
  k_NoFiles : PySem.W.kitOne K (.ref C) (.ref A.NoFiles) = some (decide (8 = n))
  k_NoMark : PySem.W.kitOne K (.ref C) (.ref A.NoMark) = some (decide (9 = n))
  k_NoRoom : PySem.W.kitOne K (.ref C) (.ref A.NoRoom) = some (decide (10 = n))
  k_Gone : PySem.W.kitOne K (.ref C) (.ref A.Gone) = some (decide (11 = n))
  k_NotClosed : PySem.W.kitOne K (.ref C) (.ref A.NotClosed) = some (decide (12 = n))
  k_NotBlank : PySem.W.kitOne K (.ref C) (.ref A.NotBlank) = some (decide (13 = n))
  k_NoDeed : PySem.W.kitOne K (.ref C) (.ref A.NoDeed) = some (decide (14 = n))
  k_NoHouse : PySem.W.kitOne K (.ref C) (.ref A.NoHouse) = some (decide (15 = n))
def fnd (n : Nat) : List V := [.bl (decide (0 = n)), .bl (decide (1 = n)), .bl (decide (2 = n)), .bl (decide (3 = n)), .bl (decide (4 = n)), .bl (decide (5 = n)), .bl (decide (6 = n)), .bl (decide (7 = n)), .bl (decide (8 = n)), .bl (decide (9 = n)), .bl (decide (10 = n)), .bl (decide (11 = n)), .bl (decide (12 = n)), .bl (decide (13 = n)), .bl (decide (14 = n)), .bl (decide (15 = n)), .bl false]
def wds : List V := [.str "row", .str "disk", .str "full", .str "stopped", .str "file", .str "place", .str "held", .str "not held", .str "files", .str "mark", .str "room", .str "gone", .str "closed", .str "blank", .str "deed", .str "house", .str "other"]
theorem fnd_at {n i : Nat} {y : V} (hn : n < 16) (h : (fnd n)[i]? = some y) : y = .bl (decide (i = n)) := by
  have hi : i < 17 := (List.getElem?_eq_some_iff.mp h).1
  have : i = 0 ∨ i = 1 ∨ i = 2 ∨ i = 3 ∨ i = 4 ∨ i = 5 ∨ i = 6 ∨ i = 7 ∨ i = 8 ∨ i = 9 ∨ i = 10 ∨ i = 11 ∨ i = 12 ∨ i = 13 ∨ i = 14 ∨ i = 15 ∨ i = 16 := by omega
  rcases this with rfl | rfl | rfl | rfl | rfl | rfl | rfl | rfl | rfl | rfl | rfl | rfl | rfl | rfl | rfl | rfl | rfl
  all_goals first | (cases h; rfl) | (cases h; rw [decide_eq_false (by omega)])
structure KInv (K : PySem.W.Frag) (H : Hp) (a b : Addr) (n i : Nat) (τ : L2.St) (zs : List V) (H' : Hp) : Prop where
  ex : ∃ t0 t1, τ = [t0, t1]
  zs : zs = if i ≤ n then [] else [wds.getD n .non]
  same : Same H H'
  a : H' a = some (.lst wds)
  b : H' b = some (.lst (fnd n))
def spKinds (K : PySem.W.Frag) (A : ClsA) : Sp := fun vs H Q _ => ∃ (e C : Addr) (o : Obj) (n : Nat), vs = [.ref e] ∧ H e = some (.frz o (.own 0)) ∧ ExcO C o ∧ KC K A C n ∧ ∀ (l : Addr) (H' : Hp), Same H H' → H l = none → H' l = some (.lst [wds.getD n .non]) → Q (.ref l) H'
theorem sc__law_kinds : FnScope ["_law_e", "_law_found", "_law_words"] ["_law_e"] (defScope s__law_kinds) := ⟨rfl, rfl, rfl, by decide +kernel, rfl, by decide +kernel, by decide +kernel⟩
theorem lc__law_kinds_0 : lcStat { kind := .function, names := [(Str.ofString ".0", .local), (Str.ofString "_law_word", .local), (Str.ofString "_law_told", .local)], isGenerator := false, isCoroutine := false, more := [] } (defScope s__law_kinds).names ["_law_e", "_law_found", "_law_words"] ["_law_word", "_law_told"] [none, none] = true := by decide +kernel
theorem lcn__law_kinds_0 : (["_law_word", "_law_told"] : List Str).Nodup := by decide +kernel
theorem ok__law_kinds {f : Addr} {fd : FuncData} (F : Fun K "_law_kinds" "_law_kinds" s__law_kinds f fd) (T : Txt K mg A) : FnOk P w K mg base CX0 false 1 f fd ["_law_e"] (spKinds K A) := by
  refine F.ok sc__law_kinds (fun vs H Q E h => ?_) (fun cdv Ar outer s H vs Q E hr h => ?_)
  · obtain ⟨e, C, o, n, rfl, _⟩ := h; rfl
  · obtain ⟨e, C, o, n, rfl, he, ho, KN, q⟩ := h
    refine ⟨_, (W.h (w_pss_cons (w_ps_set (i := 1) sc__law_kinds.nd rfl (Or.inl rfl) (w_pe_lstA (w_pa_p (w_pe_callBp call_isi rfl T.n_isinstance boot_isinstance (w_pa_p (w_pv 0) (w_pa_p (w_pe_gv rfl T.c_NoRow) w_pa_nil))) (w_pa_p (w_pe_callBp call_isi rfl T.n_isinstance boot_isinstance (w_pa_p (w_pv 0) (w_pa_p (w_pe_gv rfl T.c_NoDisk) w_pa_nil))) (w_pa_p (w_pe_callBp call_isi rfl T.n_isinstance boot_isinstance (w_pa_p (w_pv 0) (w_pa_p (w_pe_gv rfl T.c_Full) w_pa_nil))) (w_pa_p (w_pe_callBp call_isi rfl T.n_isinstance boot_isinstance (w_pa_p (w_pv 0) (w_pa_p (w_pe_gv rfl T.c_Stopped) w_pa_nil))) w_pa_nil))))))
      (w_pss_cons (w_ps_set (i := 1) sc__law_kinds.nd rfl (Or.inl rfl) (w_pe_op op_addU (w_pv 1) (w_pe_lstA (w_pa_p (w_pe_callBp call_isi rfl T.n_isinstance boot_isinstance (w_pa_p (w_pv 0) (w_pa_p (w_pe_gv rfl T.c_NoFile) w_pa_nil))) (w_pa_p (w_pe_callBp call_isi rfl T.n_isinstance boot_isinstance (w_pa_p (w_pv 0) (w_pa_p (w_pe_gv rfl T.c_NoPlace) w_pa_nil))) (w_pa_p (w_pe_callBp call_isi rfl T.n_isinstance boot_isinstance (w_pa_p (w_pv 0) (w_pa_p (w_pe_gv rfl T.c_HeldAlready) w_pa_nil))) (w_pa_p (w_pe_callBp call_isi rfl T.n_isinstance boot_isinstance (w_pa_p (w_pv 0) (w_pa_p (w_pe_gv rfl T.c_NotHeld) w_pa_nil))) w_pa_nil)))))))
      (w_pss_cons (w_ps_set (i := 1) sc__law_kinds.nd rfl (Or.inl rfl) (w_pe_op op_addU (w_pv 1) (w_pe_lstA (w_pa_p (w_pe_callBp call_isi rfl T.n_isinstance boot_isinstance (w_pa_p (w_pv 0) (w_pa_p (w_pe_gv rfl T.c_NoFiles) w_pa_nil))) (w_pa_p (w_pe_callBp call_isi rfl T.n_isinstance boot_isinstance (w_pa_p (w_pv 0) (w_pa_p (w_pe_gv rfl T.c_NoMark) w_pa_nil))) (w_pa_p (w_pe_callBp call_isi rfl T.n_isinstance boot_isinstance (w_pa_p (w_pv 0) (w_pa_p (w_pe_gv rfl T.c_NoRoom) w_pa_nil))) (w_pa_p (w_pe_callBp call_isi rfl T.n_isinstance boot_isinstance (w_pa_p (w_pv 0) (w_pa_p (w_pe_gv rfl T.c_Gone) w_pa_nil))) w_pa_nil)))))))
      (w_pss_cons (w_ps_set (i := 1) sc__law_kinds.nd rfl (Or.inl rfl) (w_pe_op op_addU (w_pv 1) (w_pe_lstA (w_pa_p (w_pe_callBp call_isi rfl T.n_isinstance boot_isinstance (w_pa_p (w_pv 0) (w_pa_p (w_pe_gv rfl T.c_NotClosed) w_pa_nil))) (w_pa_p (w_pe_callBp call_isi rfl T.n_isinstance boot_isinstance (w_pa_p (w_pv 0) (w_pa_p (w_pe_gv rfl T.c_NotBlank) w_pa_nil))) (w_pa_p (w_pe_callBp call_isi rfl T.n_isinstance boot_isinstance (w_pa_p (w_pv 0) (w_pa_p (w_pe_gv rfl T.c_NoDeed) w_pa_nil))) (w_pa_p (w_pe_callBp call_isi rfl T.n_isinstance boot_isinstance (w_pa_p (w_pv 0) (w_pa_p (w_pe_gv rfl T.c_NoHouse) w_pa_nil))) w_pa_nil)))))))
      (w_pss_cons (w_ps_expr (w_pe_append (w_pv 1) (w_pe_not (w_pe_callBp call_isi rfl T.n_isinstance boot_isinstance (w_pa_p (w_pv 0) (w_pa_p (w_pe_bltn rfl T.n_ValueError boot_ValueError (v := .ty "ValueError") rfl) w_pa_nil))))))
      (w_pss_cons (w_ps_set (i := 2) sc__law_kinds.nd rfl (Or.inl rfl) (w_pe_lstA (w_pa_p w_pe_str (w_pa_p w_pe_str (w_pa_p w_pe_str (w_pa_p w_pe_str (w_pa_p w_pe_str (w_pa_p w_pe_str (w_pa_p w_pe_str (w_pa_p w_pe_str (w_pa_p w_pe_str (w_pa_p w_pe_str (w_pa_p w_pe_str (w_pa_p w_pe_str w_pa_nil))))))))))))))
      (w_pss_cons (w_ps_set (i := 2) sc__law_kinds.nd rfl (Or.inl rfl) (w_pe_op op_addU (w_pv 2) (w_pe_lstA (w_pa_p w_pe_str (w_pa_p w_pe_str (w_pa_p w_pe_str (w_pa_p w_pe_str (w_pa_p w_pe_str w_pa_nil))))))))
      (w_pss_one (w_ps_ret (w_pe_lc (by intro h; exact nomatch h) (LcOk.of lc__law_kinds_0) (w_pi_zipp rfl T.n_zip (w_pa_p (w_pv 2) (w_pa_p (w_pv 1) w_pa_nil))) (fun _ _ _ _ _ => (w_pg_tupL (n := 2) (w_pgs_cons (w_pg_name (i := 0) lcn__law_kinds_0 rfl (Or.inl rfl)) (w_pgs_cons (w_pg_name (i := 1) lcn__law_kinds_0 rfl (Or.inl rfl)) w_pgs_nil)))) (fun _ _ _ _ _ => (w_pts_one (w_pt_truL (w_pv 1)))) (fun _ _ _ _ _ => (w_pv 0))))))))))))), ?_⟩
    simp_all only []
    refine isi_exc he ho KN.ec KN.k_NoRow rfl (isi_exc he ho KN.ec KN.k_NoDisk rfl (isi_exc he ho KN.ec KN.k_Full rfl (isi_exc he ho KN.ec KN.k_Stopped rfl ⟨by decide, fun p1 H1 n1 z1 => ?_⟩)))
    have he := n1.same _ _ he
    refine isi_exc he ho KN.ec KN.k_NoFile rfl (isi_exc he ho KN.ec KN.k_NoPlace rfl (isi_exc he ho KN.ec KN.k_HeldAlready rfl (isi_exc he ho KN.ec KN.k_NotHeld rfl ⟨by decide, fun p2 H2 n2 z2 => ?_⟩)))
    have he := n2.same _ _ he
    refine ⟨_, n2.same _ _ n1.at_, _, n2.at_, Nat.le_trans (show 8 ≤ 1000 by decide) sizeBig, fun p3 H3 n3 => ?_⟩
    have he := n3.same _ _ he
    refine isi_exc he ho KN.ec KN.k_NoFiles rfl (isi_exc he ho KN.ec KN.k_NoMark rfl (isi_exc he ho KN.ec KN.k_NoRoom rfl (isi_exc he ho KN.ec KN.k_Gone rfl ⟨by decide, fun p4 H4 n4 z4 => ?_⟩)))
    have he := n4.same _ _ he
    refine ⟨_, n4.same _ _ n3.at_, _, n4.at_, Nat.le_trans (show 12 ≤ 1000 by decide) sizeBig, fun p5 H5 n5 => ?_⟩
    have he := n5.same _ _ he
    refine isi_exc he ho KN.ec KN.k_NotClosed rfl (isi_exc he ho KN.ec KN.k_NotBlank rfl (isi_exc he ho KN.ec KN.k_NoDeed rfl (isi_exc he ho KN.ec KN.k_NoHouse rfl ⟨by decide, fun p6 H6 n6 z6 => ?_⟩)))
    have he := n6.same _ _ he
    refine ⟨_, n6.same _ _ n5.at_, _, n6.at_, Nat.le_trans (show 16 ≤ 1000 by decide) sizeBig, fun p7 H7 n7 => ?_⟩
    have he := n7.same _ _ he
    refine ⟨⟨_, n7.at_⟩, isi_exc he ho KN.ec KN.k_ValueError rfl ?_⟩
    have s7 : Same H H7 := n1.same.trans (n2.same.trans (n3.same.trans (n4.same.trans (n5.same.trans (n6.same.trans n7.same)))))
    have f7 : H p7 = none := (n1.same.trans (n2.same.trans (n3.same.trans (n4.same.trans (n5.same.trans n6.same))))).free n7.no
    simp_all only [n7.at_]
    refine ⟨Nat.lt_of_lt_of_le (show 16 < 1000 by decide) sizeBig, by decide, fun p8 H8 n8 z8 => ⟨by decide, fun p9 H9 n9 z9 => ⟨_, n9.same _ _ n8.at_, _, n9.at_, by decide, fun p10 H10 n10 => ?_⟩⟩⟩
    have e1 : H10 p10 = some (.lst wds) := n10.at_
    have e2 : H10 p7 = some (.lst (fnd n)) := n10.same _ _ (n9.same _ _ (n8.same _ _ upd_same))
    have s10 : Same H H10 := fun c ob e => n10.same _ _ (n9.same _ _ (n8.same _ _ (by rw [upd_ne (ne_of_none e f7)]; exact s7 c ob e)))
    refine ⟨⟨_, SqL.of e1⟩, ⟨_, SqL.of e2⟩, CompJ.zip (xs := wds) (ys := fnd n) rfl (KInv K H p10 p7 n) (fun i τ zs H' I => ?_) (fun i τ zs H' I => ⟨SqL.of I.a, SqL.of I.b⟩) ⟨⟨_, _, rfl⟩, (if_pos (Nat.zero_le n)).symm, s10, e1, e2⟩ ?_ ?_⟩
    · rw [I.zs]; split <;> simp <;> decide
    · intro N i x y p τ zs H' hx hy I hp hN
      obtain ⟨t0, t1, rfl⟩ := I.ex
      have hy' := fnd_at KN.lt hy
      subst hy'
      have hx' : wds.getD i .non = x := by rw [List.getD_eq_getElem?_getD, hx]; rfl
      refine ⟨p, [x, .bl (decide (i = n))], rfl, SqT.of upd_same, rfl, ?_⟩
      simp_all only []
      have nw : New H' p (.tup [x, .bl (decide (i = n))]) (upd H' p (.tup [x, .bl (decide (i = n))])) := .mk' hp
      by_cases hi : i = n
      · rw [decide_eq_true hi] at nw ⊢
        simp_all only []
        refine hN _ _ _ ⟨⟨_, _, rfl⟩, ?_, I.same.trans nw.same, nw.same _ _ I.a, nw.same _ _ I.b⟩
        rw [I.zs, if_pos (by omega), if_neg (by omega), ← hi, hx']; rfl
      · rw [decide_eq_false hi] at nw ⊢
        simp_all only []
        refine hN _ _ _ ⟨⟨_, _, rfl⟩, ?_, I.same.trans nw.same, nw.same _ _ I.a, nw.same _ _ I.b⟩
        rw [I.zs]
        by_cases h0 : i ≤ n
        · rw [if_pos h0, if_pos (by omega)]
        · rw [if_neg h0, if_neg (by omega)]
    · intro τ zs H' I D H'' nD
      refine q D H'' (I.same.trans nD.same) (I.same.free nD.no) ?_
      rw [nD.at_, I.zs, if_neg (by have := KN.lt; simp [wds, fnd]; omega)]
theorem Txt.kc_Full (T : Txt K mg A) : KC K A A.Full 2 := ⟨T.ec_Full, by decide, T.k_Full_ValueError, T.k_Full_NoRow, T.k_Full_NoDisk, T.k_Full_Full, T.k_Full_Stopped, T.k_Full_NoFile, T.k_Full_NoPlace, T.k_Full_HeldAlready, T.k_Full_NotHeld, T.k_Full_NoFiles, T.k_Full_NoMark, T.k_Full_NoRoom, T.k_Full_Gone, T.k_Full_NotClosed, T.k_Full_NotBlank, T.k_Full_NoDeed, T.k_Full_NoHouse⟩
theorem Txt.kc_Stopped (T : Txt K mg A) : KC K A A.Stopped 3 := ⟨T.ec_Stopped, by decide, T.k_Stopped_ValueError, T.k_Stopped_NoRow, T.k_Stopped_NoDisk, T.k_Stopped_Full, T.k_Stopped_Stopped, T.k_Stopped_NoFile, T.k_Stopped_NoPlace, T.k_Stopped_HeldAlready, T.k_Stopped_NotHeld, T.k_Stopped_NoFiles, T.k_Stopped_NoMark, T.k_Stopped_NoRoom, T.k_Stopped_Gone, T.k_Stopped_NotClosed, T.k_Stopped_NotBlank, T.k_Stopped_NoDeed, T.k_Stopped_NoHouse⟩
end
abbrev s__law_done : Stmt := top 40
section
variable {P : Program} {w : World} {K : PySem.W.Frag} {mg : Str → Option Value} {base : Heap} {A : ClsA}
def spDone (A : ClsA) : Sp := fun vs H Q _ => ∃ (p wl sl g : Addr) (cells : List Addr) (d : DM) (m way : Int) (k : Nat) (t : Str), vs = [.ref p, .ref g] ∧ DiskAt A H p wl sl cells m d ∧ DeedOk H g d way k t ∧
  ∀ H', DiskAt A H' p wl sl cells m (d.deed m way k t).2 → Keeps (p :: wl :: sl :: cells) H H' → Q (resV (d.deed m way k t).1) H'
theorem out_done (T : Txt K mg A) {Q : VK} {r : Res} {H H' : Hp} {p wl sl : Addr} {cells F : List Addr} {m : Int} {d' : DM} {σ0 : L2.St} (hσ : ∀ ea, (List.set σ0 5 (some (V.ref ea)))[5]? = some (some (.ref ea)))
    (D : DiskAt A H' p wl sl cells m d') (k : Keeps F H H') (kq : ∀ H'', DiskAt A H'' p wl sl cells m d' → Keeps F H H'' → Q (resV r) H'') :
    Out A r Q (XE (fun C σ' H' => ErrK K C ∧ PySem.W.mroIn K C (.ref A.CleanError) = some true ∧ ∀ ea oe, H' ea = none → ExcO C oe → ∃ v, (List.set σ' 5 (some (V.ref ea)))[5]? = some (some v) ∧ spKinds K A [v] (upd H' ea (.frz oe (.own 0))) (fun y H2 => rJoin (.str " ") [y] H2 Q) E0) σ0) H' := by
  cases r with
  | val v => exact kq H' D k
  | full =>
    refine ⟨A.Full, rfl, T.ek_Full, T.mro_Full, fun ea oe he ho => ⟨_, hσ ea, ea, A.Full, oe, 2, rfl, upd_same, ho, T.kc_Full, fun l H2 s2 f2 e2 => ?_⟩⟩
    show rJoin (.str " ") [.ref l] H2 Q
    rw [rJoin_sr]
    have n3 : New H' ea (.frz oe (.own 0)) (upd H' ea (.frz oe (.own 0))) := .mk' he
    exact ⟨["full"], e2, by decide, kq H2 (D.same (n3.same.trans s2)) (k.trans (Keeps.same (n3.same.trans s2)))⟩
  | stop =>
    refine ⟨A.Stopped, rfl, T.ek_Stopped, T.mro_Stopped, fun ea oe he ho => ⟨_, hσ ea, ea, A.Stopped, oe, 3, rfl, upd_same, ho, T.kc_Stopped, fun l H2 s2 f2 e2 => ?_⟩⟩
    show rJoin (.str " ") [.ref l] H2 Q
    rw [rJoin_sr]
    have n3 : New H' ea (.frz oe (.own 0)) (upd H' ea (.frz oe (.own 0))) := .mk' he
    exact ⟨["stopped"], e2, by decide, kq H2 (D.same (n3.same.trans s2)) (k.trans (Keeps.same (n3.same.trans s2)))⟩
theorem sc__law_done : FnScope ["_law_disk", "_law_deed", "_law_way", "_law_stretch", "_law_text", "_law_e"] ["_law_disk", "_law_deed"] (defScope s__law_done) := ⟨rfl, rfl, rfl, by decide +kernel, rfl, by decide +kernel, by decide +kernel⟩
theorem ok__law_done {f : Addr} {fd : FuncData} (F : Fun K "_law_done" "_law_done" s__law_done f fd) (T : Txt K mg A) (M_Disk_write : GMX P w K mg base true 3 A.Disk "write" ["self", "stretch", "text"] (spWrite A)) (M_Disk_empty : GMX P w K mg base true 2 A.Disk "empty" ["self", "stretch"] (spEmpty A)) (M_Disk_put_side : GMX P w K mg base true 3 A.Disk "put_side" ["self", "k", "text"] (spPut A)) (G__law_kinds : GF P w K mg base false 1 "_law_kinds" ["_law_e"] (spKinds K A)) : FnOk P w K mg base CX0 true 5 f fd ["_law_disk", "_law_deed"] (spDone A) := by
  refine F.ok sc__law_done (fun vs H Q E h => ?_) (fun cdv Ar outer s H vs Q E hr h => ?_)
  · obtain ⟨p, wl, sl, g, cells, d, m, way, k, t, rfl, _⟩ := h; rfl
  · obtain ⟨p, wl, sl, g, cells, d, m, way, k, t, rfl, D, O, kq⟩ := h
    obtain ⟨dx, h1⟩ := D.ob
    have h2 := O.at_
    have hu : _ < cLine := Nat.lt_of_succ_lt (hu_of hr)
    refine ⟨_, (W.h (w_pss_cons (w_ps_asg (w_pv 1) (w_pg_tupA (n := 3) (w_pgs_cons (w_pg_name (i := 2) sc__law_done.nd rfl (Or.inl rfl)) (w_pgs_cons (w_pg_name (i := 3) sc__law_done.nd rfl (Or.inl rfl)) (w_pgs_cons (w_pg_name (i := 4) sc__law_done.nd rfl (Or.inl rfl)) w_pgs_nil)))))
      (w_pss_one (w_ps_try (i := 5) rfl rfl ⟨rfl, rfl⟩ sc__law_done.nd rfl rfl T.ek_CleanError rfl T.mg_CleanError (fun pins Ex => (w_pss_cons (w_ps_if (w_pt_cmpR (op_eqU hu) (w_pv 2) w_pe_int (nomark _))
      (w_pss_one (w_ps_ret (w_pe_mX (w_pv 0) T.cl_Disk throws_try M_Disk_write hr (w_pa_p (w_pv 3) (w_pa_p (w_pv 4) w_pa_nil)))))
      w_pss_nil)
      (w_pss_cons (w_ps_if (w_pt_cmpR (op_eqU hu) (w_pv 2) w_pe_int (nomark _))
      (w_pss_one (w_ps_ret (w_pe_mX (w_pv 0) T.cl_Disk throws_try M_Disk_empty hr (w_pa_p (w_pv 3) w_pa_nil))))
      w_pss_nil)
      (w_pss_one (w_ps_ret (w_pe_mX (w_pv 0) T.cl_Disk throws_try M_Disk_put_side hr (w_pa_p (w_pe_op op_mod (w_pv 3) w_pe_int) (w_pa_p (w_pv 4) w_pa_nil)))))))) (fun pins ea => by
      have hr := hr.mark (v := some (.ref ea))
      exact (w_pss_one (w_ps_ret (w_pe_b_join w_pe_str (w_pe_g G__law_kinds hr rfl (w_pa_p (w_pv 5) w_pa_nil)))))))))), ?_⟩
    simp_all only [tTry]
    refine ⟨g, _, rfl, SqT.of h2, rfl, ?_⟩
    simp_all only [h1, fl_write, fl_empty, fl_put_side, tTry]
    unfold DM.deed at kq
    refine ite2 (fun h => ?_) (fun h => ?_)
    · rw [if_pos (of_decide_eq_true h)] at kq
      exact ⟨p, wl, sl, cells, m, d, k, t, rfl, D, O.k, O.t, O.small, fun H1 D1 k1 => out_done T (fun _ => rfl) D1 k1 kq⟩
    rw [if_neg (fun z => h (decide_eq_true z))] at kq
    refine ite2 (fun h => ?_) (fun h => ?_)
    · rw [if_pos (of_decide_eq_true h)] at kq
      exact ⟨p, wl, sl, cells, m, d, k, rfl, D, O.k, O.small, O.left, fun H1 D1 k1 => out_done T (fun _ => rfl) D1 k1 kq⟩
    rw [if_neg (fun z => h (decide_eq_true z))] at kq
    exact ⟨by decide, p, wl, sl, cells, m, d, k % 2, t, rfl, D, by rw [O.two]; exact Nat.mod_lt _ (by decide), O.two, O.t, fun H1 D1 k1 => out_done T (fun _ => rfl) D1 k1 kq⟩
end
abbrev s__law_like : Stmt := top 41
section
variable {P : Program} {w : World} {K : PySem.W.Frag} {mg : Str → Option Value} {base : Heap} {A : ClsA}
/-- the sizes that the law keeps to -/
structure Fit (d : DM) (n m : Int) : Prop where
  len : (d.rows.length : Int) = n
  n0 : 3 ≤ n
  n1 : n ≤ 16
  m0 : 2 ≤ m
  m1 : m ≤ 32
  two : d.sides.length = 2
  le : ∀ k, ((d.rows.getD k []).length : Int) ≤ m
def spLike (A : ClsA) : Sp := fun vs H Q _ => ∃ (p wl sl q rl sl2 : Addr) (cells cells2 : List Addr) (d : DM) (n m : Int), vs = [.ref p, .ref q, .int n, .int m] ∧ DiskAt A H p wl sl cells m d ∧ StAt H q rl sl2 cells2 d ∧ Fit d n m ∧ ∀ H', Same H H' → Q (.bl true) H'
theorem flat_tv {xs : List Tx} : (xs.map tv).all flatV = true := by
  rw [List.all_eq_true]
  intro v hv
  obtain ⟨x, _, rfl⟩ := List.mem_map.mp hv
  cases x <;> rfl
theorem eq_tv {xs : List Tx} : eqL (xs.map tv) (xs.map tv) = true := eqL_self flat_tv (fun v hv b => by
  obtain ⟨x, _, rfl⟩ := List.mem_map.mp hv
  cases x <;> exact fun z => nomatch z)
theorem eq_ints (a b c : Int) : eqL [V.int a, V.int b, V.int c] [V.int a, V.int b, V.int c] = true := eqL_self rfl (fun x hx d => by
  simp only [List.mem_cons, List.not_mem_nil, or_false] at hx
  rcases hx with rfl | rfl | rfl <;> exact fun z => nomatch z)
theorem told_all {d : DM} {k M : Nat} (h : (d.rows.getD k []).length ≤ M) : (List.range M).map (toldV d k) = (d.rows.getD k [] ++ List.replicate (M - (d.rows.getD k []).length) none).map tv := by
  have e : (List.range M).map (toldV d k) = ((List.range M).map fun j => (d.rows.getD k []).getD j none).map tv := by rw [List.map_map]; rfl
  rw [e]
  generalize d.rows.getD k [] = r at h
  congr 1
  apply List.ext_getElem?
  intro i
  by_cases hi : i < M
  · rw [List.getElem?_map, List.getElem?_range hi, Option.map_some]
    by_cases hr : i < r.length
    · rw [List.getElem?_append_left hr, List.getD_eq_getElem?_getD, List.getElem?_eq_getElem hr]; rfl
    · rw [List.getElem?_append_right (by omega), List.getElem?_replicate, if_pos (by omega), List.getD_eq_getElem?_getD, List.getElem?_eq_none (by omega)]; rfl
  · rw [List.getElem?_eq_none (by simp; omega), List.getElem?_eq_none (by simp; omega)]
theorem sides_two {d : DM} (h : d.sides.length = 2) : [tv (d.sides.getD 0 none), tv (d.sides.getD 1 none)] = d.sides.map tv := by
  match hs : d.sides, h with
  | [a, b], _ => rfl
structure ToldInv (H : Hp) (p : Addr) (d : DM) (k M i : Nat) (τ : L2.St) (ys : List V) (H' : Hp) : Prop where
  ex : ∃ t, τ = [t, some (V.ref p), some (.int k)]
  ys : ys = (List.range i).map (toldV d k)
  same : Same H H'
  le : i ≤ M
structure LikeInv (H : Hp) (p q : Addr) (n m : Int) (i : Nat) (σ : L2.St) (H' : Hp) : Prop where
  ex : ∃ x y, σ = [some (V.ref p), some (.ref q), some (.int n), some (.int m), x, y]
  same : Same H H'
theorem sc__law_like : FnScope ["_law_disk", "_law_state", "_law_many", "_law_wide", "_law_stretch", "_law_row_there"] ["_law_disk", "_law_state", "_law_many", "_law_wide"] (defScope s__law_like) := ⟨rfl, rfl, rfl, by decide +kernel, rfl, by decide +kernel, by decide +kernel⟩
theorem lc__law_like_0 : lcStat { kind := .function, names := [(Str.ofString ".0", .local), (Str.ofString "_law_place", .local), (Str.ofString "_law_disk", .free), (Str.ofString "_law_stretch", .free)], isGenerator := false, isCoroutine := false, more := [] } (defScope s__law_like).names ["_law_disk", "_law_state", "_law_many", "_law_wide", "_law_stretch", "_law_row_there"] ["_law_place", "_law_disk", "_law_stretch"] [none, some 0, some 4] = true := by decide +kernel
theorem lcn__law_like_0 : (["_law_place", "_law_disk", "_law_stretch"] : List Str).Nodup := by decide +kernel
theorem ok__law_like {f : Addr} {fd : FuncData} (F : Fun K "_law_like" "_law_like" s__law_like f fd) (T : Txt K mg A) (M_Disk_stretches : GM P w K mg base true 1 A.Disk "stretches" ["self"] (spRd A fun _ d => .int d.rows.length)) (M_Disk_places : GM P w K mg base true 1 A.Disk "places" ["self"] (spRd A fun m _ => .int m)) (M_Disk_signs : GM P w K mg base true 1 A.Disk "signs" ["self"] (spRd A fun _ d => .int d.cnt))
    (M_Disk_next_place : GM P w K mg base true 1 A.Disk "next_place" ["self", "stretch"] (spNext A)) (M_Disk_side : GM P w K mg base true 1 A.Disk "side" ["self", "k"] (spSide A)) (M_Disk_told : GM P w K mg base true 1 A.Disk "told" ["self", "stretch", "place"] (spTold A)) : FnOk P w K mg base CX0 true 3 f fd ["_law_disk", "_law_state", "_law_many", "_law_wide"] (spLike A) := by
  refine F.ok sc__law_like (fun vs H Q E h => ?_) (fun cdv Ar outer s H vs Q E hr h => ?_)
  · obtain ⟨p, wl, sl, q, rl, sl2, cells, cells2, d, n, m, rfl, _⟩ := h; rfl
  · obtain ⟨p, wl, sl, q, rl, sl2, cells, cells2, d, n, m, rfl, D, S, Z, kq⟩ := h
    obtain ⟨dx, h1⟩ := D.ob
    have h2 := S.ob
    have hu : _ < cLine := Nat.lt_of_succ_lt (hu_of hr)
    refine ⟨_, (W.h (w_pss_cons (w_ps_if (w_pt_cmpR (op_neU hu) (w_pe_lstA (w_pa_p (w_pe_m0 (w_pv 0) T.cl_Disk M_Disk_stretches hr) (w_pa_p (w_pe_m0 (w_pv 0) T.cl_Disk M_Disk_places hr) (w_pa_p (w_pe_m0 (w_pv 0) T.cl_Disk M_Disk_signs hr) w_pa_nil)))) (w_pe_lstA (w_pa_p (w_pv 2) (w_pa_p (w_pv 3) (w_pa_p (w_pe_ix ix_U (w_pv 1) w_pe_int (fun _ _ => rfl)) w_pa_nil)))) (nomark _))
      (w_pss_one (w_ps_ret w_pe_bl))
      w_pss_nil)
      (w_pss_cons (w_ps_if (w_pt_cmpR (op_neU hu) (w_pe_lstA (w_pa_p (w_pe_m (w_pv 0) T.cl_Disk M_Disk_side hr (w_pa_p w_pe_int w_pa_nil)) (w_pa_p (w_pe_m (w_pv 0) T.cl_Disk M_Disk_side hr (w_pa_p w_pe_int w_pa_nil)) w_pa_nil))) (w_pe_ix ix_U (w_pv 1) w_pe_int (fun _ _ => rfl)) (nomark _))
      (w_pss_one (w_ps_ret w_pe_bl))
      w_pss_nil)
      (w_pss_cons (w_ps_for PassesOwn.never (fun _ => rfl) (w_pi_range1p rfl T.n_range (w_pa_p (w_pv 2) w_pa_nil)) (w_pg_name (i := 4) sc__law_like.nd rfl (Or.inr rfl))
      (w_pss_cons (w_ps_set (i := 5) sc__law_like.nd rfl (Or.inl rfl) (w_pe_ix ix_U (w_pe_ix ix_U (w_pv 1) w_pe_int (fun _ _ => rfl)) (w_pv 4) (fun _ _ => rfl)))
      (w_pss_cons (w_ps_if (w_pt_cmpR (op_neU hu) (w_pe_m (w_pv 0) T.cl_Disk M_Disk_next_place hr (w_pa_p (w_pv 4) w_pa_nil)) (w_pe_callBp call_lenU rfl T.n_len PySem.boot_len (w_pa_p (w_pv 5) w_pa_nil)) (nomark _))
      (w_pss_one (w_ps_ret w_pe_bl))
      w_pss_nil)
      (w_pss_one (w_ps_if (w_pt_cmpR (op_neU hu) (w_pe_lc (fun _ => rfl) (LcOk.of lc__law_like_0) (w_pi_range1p rfl T.n_range (w_pa_p (w_pv 3) w_pa_nil)) (fun _ _ _ _ _ => (w_pg_name (i := 0) lcn__law_like_0 rfl (Or.inl rfl))) (fun _ _ _ _ _ => w_pts_nil) (fun _ _ _ _ _ => (w_pe_m (w_pv 1) T.cl_Disk M_Disk_told hr (w_pa_p (w_pv 2) (w_pa_p (w_pv 0) w_pa_nil))))) (w_pe_op op_addU (w_pv 5) (w_pe_op op_mulS (w_pe_lstA (w_pa_p w_pe_non w_pa_nil)) (w_pe_op op_sub (w_pv 3) (w_pe_callBp call_lenU rfl T.n_len PySem.boot_len (w_pa_p (w_pv 5) w_pa_nil))))) (nomark _))
      (w_pss_one (w_ps_ret w_pe_bl))
      w_pss_nil)))))
      (w_pss_one (w_ps_ret w_pe_bl)))))), ?_⟩
    simp_all only [h1, fl_stretches, fl_places, fl_signs]
    refine ⟨p, wl, sl, cells, m, d, rfl, D, ?_⟩
    simp_all only [h1, fl_stretches, fl_places, fl_signs]
    refine ⟨p, wl, sl, cells, m, d, rfl, D, ?_⟩
    simp_all only [h1, fl_stretches, fl_places, fl_signs]
    refine ⟨p, wl, sl, cells, m, d, rfl, D, ⟨by decide, fun a H1 a1 _ => ?_⟩⟩
    simp_all only [a1.same _ _ h2, at2]
    refine ⟨by decide, fun b H2 a2 _ => ?_⟩
    have s2 := a1.same.trans a2.same
    refine ⟨_, a2.same _ _ a1.at_, _, a2.at_, rfl, rfl, ?_⟩
    rw [Z.len, eq_ints]
    refine iteF ?_
    have g1 := s2 _ _ h1
    have g2 := s2 _ _ h2
    simp_all only [g1, fl_side]
    refine ⟨p, wl, sl, cells, m, d, 0, rfl, D.same s2, by rw [Z.two]; decide, ?_⟩
    simp_all only [g1, fl_side]
    refine ⟨p, wl, sl, cells, m, d, 1, rfl, D.same s2, by rw [Z.two]; decide, ⟨by decide, fun c H3 a3 _ => ?_⟩⟩
    have s3 := s2.trans a3.same
    simp_all only [s3 _ _ h2, at1, a3.at_, s3 _ _ S.sides]
    rw [sides_two Z.two]
    refine ⟨flat_tv, flat_tv, ?_⟩
    rw [eq_tv]
    refine iteF ?_
    have := Z.n0
    have := Z.n1
    have := Z.m0
    have := Z.m1
    refine ⟨by omega, by omega, ?_⟩
    refine ForJ.rng (LikeInv H p q n m) ⟨⟨_, _, rfl⟩, s3⟩ ?_ ?_
    · rintro i σ H4 hi ⟨⟨x, y, rfl⟩, s4⟩
      have hk : i < d.rows.length := by have := Z.len; omega
      have S4 := S.same s4
      have D4 := D.same s4
      obtain ⟨c2, hc2, ha2, hH2⟩ := S4.rows.cell hk
      have iz : (0 + (i : Int)) = (i : Int) := by omega
      rw [iz]
      have g4 := s4 _ _ h1
      simp_all only [s4 _ _ h2, at0, S4.rows.w, ha2, g4, fl_next_place, hH2, List.length_map]
      refine ⟨p, wl, sl, cells, m, d, i, rfl, D4, hk, ?_⟩
      simp_all only [hH2, List.length_map]
      rw [if_neg (by simp)]
      refine ⟨by omega, by omega, CompJ.rng (ToldInv H4 p d i m.toNat) (fun j τ ys H5 I => ?_) ⟨⟨_, rfl⟩, rfl, Same.refl _, Nat.zero_le _⟩ ?_ ?_⟩
      · rw [I.ys, List.length_map, List.length_range]
        exact small1000 (by have := I.le; omega)
      · intro N j τ ys H5 hj I hN
        obtain ⟨t, rfl⟩ := I.ex
        rw [show (0 + (j : Int)) = (j : Int) by omega]
        simp_all only [I.same _ _ g4, fl_told]
        refine ⟨p, wl, sl, cells, m, d, i, j, rfl, D4.same I.same, hk, ?_⟩
        exact hN _ _ _ ⟨⟨_, rfl⟩, by rw [I.ys, List.range_succ, List.map_append]; rfl, I.same, by omega⟩
      · intro τ ys H5 I a5 H6 n6
        have c6 := n6.same _ _ (I.same _ _ hH2)
        have hle := Z.le i
        have hy : ys = (d.rows.getD i [] ++ List.replicate (m.toNat - (d.rows.getD i []).length) none).map tv := by rw [I.ys]; exact told_all (by omega)
        refine ⟨by decide, fun e H7 n7 _ => ⟨_, .inl (n7.same _ _ c6), _, n7.at_, ?_, ?_, ?_, fun e8 H8 n8 => ⟨_, n8.same _ _ (n7.same _ _ c6), _, n8.at_, ?_, fun e9 H9 n9 => ?_⟩⟩⟩
        · rw [List.length_map]; omega
        · rw [List.length_map]; omega
        · rw [List.length_map]
          exact Nat.le_trans (show 1 * (m - ((d.rows.getD i []).length : Int)).toNat ≤ 1000 by omega) sizeBig
        · rw [List.length_map, List.flatten_replicate_singleton, List.length_replicate]
          exact Nat.le_trans (show (d.rows.getD i []).length + (m - ((d.rows.getD i []).length : Int)).toNat ≤ 1000 by omega) sizeBig
        · have hz : (d.rows.getD i []).map tv ++ (List.replicate (m - (((d.rows.getD i []).map tv).length : Int)).toNat [V.non]).flatten = ys := by
            rw [hy, List.map_append, List.flatten_replicate_singleton, List.map_replicate, List.length_map]
            have ez : (m - ((d.rows.getD i []).length : Int)).toNat = m.toNat - (d.rows.getD i []).length := by omega
            rw [ez]; rfl
          have y9 := n9.at_
          rw [hz] at y9
          have x9 := n9.same _ _ (n8.same _ _ (n7.same _ _ n6.at_))
          simp_all only [y9, x9]
          have fy : ys.all flatV = true := by rw [hy]; exact flat_tv
          have ey : eqL ys ys = true := by rw [hy]; exact eq_tv
          refine ⟨fy, fy, ?_⟩
          rw [ey]
          exact iteF ⟨⟨_, _, rfl⟩, s4.trans (I.same.trans (n6.same.trans (n7.same.trans (n8.same.trans n9.same))))⟩
    · rintro σ H4 ⟨⟨x, y, rfl⟩, s4⟩
      simp_all only []
      exact kq H4 s4
end
abbrev s__law_at : Stmt := top 28
abbrev s__law_mixed : Stmt := top 29
abbrev s__law_row : Stmt := top 30
abbrev s__law_sizes : Stmt := top 31
abbrev s__law_signs : Stmt := top 32
section
variable {P : Program} {w : World} {K : PySem.W.Frag} {mg : Str → Option Value} {base : Heap} {A : ClsA}
/-! ### the law's own readers -/
def atD (ns : List Int) (k : Int) : Int := if k < ns.length then ns.getD k.toNat 0 else 0
def spAt (K : PySem.W.Frag) : Sp := fun vs H Q _ => ∃ (a : Addr) (ns : List Int) (k : Int), vs = [.ref a, .int k] ∧ SqL K H a (ns.map V.int) ∧ 0 ≤ k ∧ Q (.int (atD ns k)) H
def spMixed : Sp := fun vs H Q _ => ∃ (n k : Int), vs = [.int n, .int k] ∧ ∀ r : Int, 1 ≤ r → r ≤ 2147483629 → Q (.int r) H
def spRow (K : PySem.W.Frag) : Sp := fun vs H Q _ => ∃ (a : Addr) (ns : List Int) (k m b : Int), vs = [.ref a, .int k, .int m, .int b] ∧ SqL K H a (ns.map V.int) ∧ 0 ≤ k ∧ 0 ≤ m ∧ m ≤ 1000 ∧ 0 < b ∧ b < 1073741824 ∧
  ∀ (l : Addr) (ds : List Int) (H' : Hp), Same H H' → H l = none → H' l = some (.lst (ds.map V.int)) → ds.length = m.toNat → (∀ d ∈ ds, 0 ≤ d ∧ d < b) → Q (.ref l) H'
theorem sc__law_at : FnScope ["_law_script", "_law_k"] ["_law_script", "_law_k"] (defScope s__law_at) := ⟨rfl, rfl, rfl, by decide +kernel, rfl, by decide +kernel, by decide +kernel⟩
theorem ok__law_at {f : Addr} {fd : FuncData} {cm : Bool} (F : Fun K "_law_at" "_law_at" s__law_at f fd) (T : Txt K mg A) : FnOk P w K mg base CX0 cm 1 f fd ["_law_script", "_law_k"] (spAt K) := by
  refine F.ok sc__law_at (fun vs H Q E h => ?_) (fun cdv Ar outer s H vs Q E hr h => ?_)
  · obtain ⟨a, ns, k, rfl, _⟩ := h; rfl
  · obtain ⟨a, ns, k, rfl, hS, hk, q⟩ := h
    refine ⟨_, pss_cons (ps_if (pt_cmpR op_lt (pv 1) (pe_callB call_len_seq rfl T.n_len PySem.boot_len (pa_cons (pv 0) pa_nil)) (nomark _))
      (pss_one (ps_ret (pe_ix ix_list (pv 0) (pv 1) (fun _ _ => rfl)))) pss_nil) (pss_one (ps_ret pe_int)), ?_⟩
    simp_all only []
    refine ⟨_, .inl hS, ?_⟩
    rw [List.length_map]
    refine ite2 (fun h => ?_) (fun h => ?_)
    · have h' : k < (ns.length : Int) := of_decide_eq_true h
      have hn : k.toNat < ns.length := by omega
      have e : atD ns k = ns[k.toNat] := by unfold atD; rw [if_pos h', List.getD_eq_getElem?_getD, List.getElem?_eq_getElem hn]; rfl
      refine ⟨a, ns.map V.int, k, .int (ns[k.toNat]), rfl, rfl, hS, ?_, by rw [← e]; exact q⟩
      have z : atI (ns.map V.int) ((k.toNat : Nat) : Int) = some (.int (ns[k.toNat])) := atI_nat (by rw [List.getElem?_map, List.getElem?_eq_getElem hn]; rfl)
      have kz : ((k.toNat : Nat) : Int) = k := by omega
      rw [kz] at z; exact z
    · have h' : ¬ k < (ns.length : Int) := fun z => h (decide_eq_true z)
      have e : atD ns k = 0 := by unfold atD; rw [if_neg h']
      rw [← e]; exact q
theorem sc__law_mixed : FnScope ["_law_number", "_law_k"] ["_law_number", "_law_k"] (defScope s__law_mixed) := ⟨rfl, rfl, rfl, by decide +kernel, rfl, by decide +kernel, by decide +kernel⟩
theorem ok__law_mixed {f : Addr} {fd : FuncData} {cm : Bool} (F : Fun K "_law_mixed" "_law_mixed" s__law_mixed f fd) (T : Txt K mg A) : FnOk P w K mg base CX0 cm 1 f fd ["_law_number", "_law_k"] spMixed := by
  refine F.ok sc__law_mixed (fun vs H Q E h => ?_) (fun cdv Ar outer s H vs Q E hr h => ?_)
  · obtain ⟨n, k, rfl, _⟩ := h; rfl
  · obtain ⟨n, k, rfl, q⟩ := h
    refine ⟨_, (W.h (w_pss_cons (w_ps_set (i := 0) sc__law_mixed.nd rfl (Or.inl rfl) (w_pe_op op_mod (w_pe_op op_addU (w_pe_op op_mod (w_pv 0) w_pe_int) (w_pe_op op_mulS w_pe_int (w_pe_op op_addU (w_pv 1) w_pe_int))) w_pe_int))
      (w_pss_one (w_ps_ret (w_pe_op op_addU w_pe_int (w_pe_op op_mod (w_pe_op op_addU (w_pe_op op_addU (w_pe_op op_mulS (w_pv 0) (w_pv 0)) (w_pe_op op_mulS w_pe_int (w_pv 0))) (w_pe_op op_mulS w_pe_int (w_pv 1))) w_pe_int)))))), ?_⟩
    simp_all only []
    generalize hm : (n % 2147483629 + 48271 * (k + 1)) % 2147483629 = m
    have m0 : 0 ≤ m := by omega
    have m1 : m < 2147483629 := by omega
    refine ⟨by decide, .inl ⟨by decide, by decide⟩, by decide, .inl ⟨by omega, by omega⟩, .inl ⟨by decide, by decide⟩, .inl ⟨by decide, by decide⟩, by decide, q _ ?_ ?_⟩ <;> omega
theorem sc__law_row : FnScope ["_law_script", "_law_k", "_law_many", "_law_base", "_law_left", "_law_found", "_law_turn"] ["_law_script", "_law_k", "_law_many", "_law_base"] (defScope s__law_row) := ⟨rfl, rfl, rfl, by decide +kernel, rfl, by decide +kernel, by decide +kernel⟩
structure RowInv (H : Hp) (l a : Addr) (k m b : Int) (i : Nat) (σ : L2.St) (H' : Hp) : Prop where
  ex : ∃ (left : Int) (ds : List Int) (tn : Option V), σ = [some (V.ref a), some (.int k), some (.int m), some (.int b), some (.int left), some (.ref l), tn] ∧
      Same H H' ∧ H' l = some (.lst (ds.map V.int)) ∧ ds.length = i ∧ ∀ d ∈ ds, 0 ≤ d ∧ d < b
theorem ok__law_row {f : Addr} {fd : FuncData} {cm : Bool} (F : Fun K "_law_row" "_law_row" s__law_row f fd) (T : Txt K mg A) (G__law_at : GF P w K mg base true 1 "_law_at" ["_law_script", "_law_k"] (spAt K)) (G__law_mixed : GF P w K mg base true 1 "_law_mixed" ["_law_number", "_law_k"] spMixed) : FnOk P w K mg base CX0 true 2 f fd ["_law_script", "_law_k", "_law_many", "_law_base"] (spRow K) := by
  refine F.ok sc__law_row (fun vs H Q E h => ?_) (fun cdv Ar outer s H vs Q E hr h => ?_)
  · obtain ⟨a, ns, k, m, b, rfl, _⟩ := h; rfl
  · obtain ⟨a, ns, k, m, b, rfl, hS, hk, hm, hm2, hb, hb2, q⟩ := h
    refine ⟨_, (W.h (w_pss_cons (w_ps_set (i := 4) sc__law_row.nd rfl (Or.inl rfl) (w_pe_op op_sub (w_pe_g G__law_at hr rfl (w_pa_p (w_pv 0) (w_pa_p (w_pv 1) w_pa_nil))) (w_pe_op op_pow w_pe_int w_pe_int)))
      (w_pss_cons (w_ps_set (i := 5) sc__law_row.nd rfl (Or.inl rfl) (w_pe_lstA w_pa_nil))
      (w_pss_cons (w_ps_for PassesOwn.never (fun _ => rfl) (w_pi_range1p rfl T.n_range (w_pa_p (w_pv 2) w_pa_nil)) (w_pg_name (i := 6) sc__law_row.nd rfl (Or.inl rfl))
      (w_pss_cons (w_ps_if (w_pt_cmpR op_lt (w_pv 4) w_pe_int (nomark _))
      (w_pss_one (w_ps_set (i := 4) sc__law_row.nd rfl (Or.inl rfl) (w_pe_g G__law_mixed hr rfl (w_pa_p (w_pe_op op_addU (w_pe_g G__law_at hr rfl (w_pa_p (w_pv 0) (w_pa_p (w_pv 1) w_pa_nil))) (w_pe_op op_mulS w_pe_int (w_pe_g G__law_at hr rfl (w_pa_p (w_pv 0) (w_pa_p (w_pe_op op_addU (w_pv 1) (w_pe_op op_mod (w_pv 6) w_pe_int)) w_pa_nil))))) (w_pa_p (w_pe_op op_addU (w_pe_op op_mulS w_pe_int (w_pv 1)) (w_pv 6)) w_pa_nil)))))
      w_pss_nil)
      (w_pss_cons (w_ps_expr (w_pe_append (w_pv 5) (w_pe_op op_mod (w_pv 4) (w_pv 3))))
      (w_pss_one (w_ps_set (i := 4) sc__law_row.nd rfl (Or.inl rfl) (w_pe_op op_fdiv (w_pv 4) (w_pv 3)))))))
      (w_pss_one (w_ps_ret (w_pv 5))))))), ?_⟩
    simp_all only []
    refine ⟨a, ns, k, rfl, hS, hk, ?_⟩
    simp_all only []
    refine ⟨⟨by decide, by decide, by decide⟩, by decide, fun l H1 nl _ => ?_⟩
    have hl := nl.no
    refine ⟨by omega, by omega, ?_⟩
    have fin : ∀ (i : Nat) (H' : Hp) (x : Int) (ds : List Int), i < m.toNat → Same H H' → H' l = some (.lst (ds.map V.int)) → ds.length = i → (∀ d ∈ ds, 0 ≤ d ∧ d < b) →
        (List.map V.int ds).length < sizeLine ∧ CDiv x b ∧ RowInv H l a k m b (i + 1) [some (V.ref a), some (.int k), some (.int m), some (.int b), some (.int (x / b)), some (.ref l), some (.int (0 + i))] (upd H' l (.lst (ds.map V.int ++ [.int (x % b)]))) := by
      intro i H' x ds hi sm hl' hlen hds
      refine ⟨by rw [List.length_map]; exact small1000 (by omega), ⟨hb, hb2⟩, ⟨x / b, ds ++ [x % b], _, rfl, fun c o e => by rw [upd_ne (ne_of_none e hl)]; exact sm c o e, by rw [upd_same, List.map_append]; rfl, by simp [hlen], fun d hd => ?_⟩⟩
      rcases List.mem_append.mp hd with hd | hd
      · exact hds d hd
      · rw [List.mem_singleton] at hd
        subst hd
        exact ⟨Int.emod_nonneg _ (by omega), Int.emod_lt_of_pos _ hb⟩
    refine ForJ.rng (RowInv H l a k m b) ⟨⟨_, [], _, rfl, nl.same, nl.at_, rfl, by simp⟩⟩ ?_ ?_
    · rintro i σ H' hi ⟨⟨left, ds, tn, rfl, sm, hl', hlen, hds⟩⟩
      simp_all only [hl', hb, hb2]
      refine ite2 (fun _ => ?_) (fun _ => ?_)
      · refine ⟨a, ns, k, rfl, sm.seq hS, hk, ?_⟩
        simp_all only [hl', hb, hb2]
        refine ⟨by decide, a, ns, _, rfl, sm.seq hS, by omega, ?_⟩
        simp_all only [hl', hb, hb2]
        refine ⟨.inl ⟨by decide, by decide⟩, .inl ⟨by decide, by decide⟩, _, _, rfl, fun r _ _ => ?_⟩
        simp_all only [hl', hb, hb2]
        exact fin i H' r ds hi sm hl' hlen hds
      · exact fin i H' left ds hi sm hl' hlen hds
    · rintro σ H' ⟨⟨left, ds, tn, rfl, sm, hl', hlen, hds⟩⟩
      simp_all only []
      exact q l ds H' sm hl hl' hlen hds
theorem atI_mem {α : Type} {xs : List α} {i : Int} (h0 : 0 ≤ i) (h1 : i < xs.length) : ∃ v, atI xs i = some v ∧ v ∈ xs := by
  have hn : i.toNat < xs.length := by omega
  have z : atI xs ((i.toNat : Nat) : Int) = some xs[i.toNat] := atI_nat (List.getElem?_eq_getElem hn)
  rw [show ((i.toNat : Nat) : Int) = i by omega] at z
  exact ⟨_, z, List.getElem_mem hn⟩
def spSizes (K : PySem.W.Frag) : Sp := fun vs H Q _ => ∃ (a : Addr) (ns : List Int), vs = [.ref a] ∧ SqL K H a (ns.map V.int) ∧ ∀ (t : Addr) (n m : Int) (H' : Hp), Same H H' → H t = none → H' t = some (.tup [.int n, .int m]) → 3 ≤ n → n ≤ 16 → 2 ≤ m → m ≤ 32 → Q (.ref t) H'
theorem sc__law_sizes : FnScope ["_law_script", "_law_digits"] ["_law_script"] (defScope s__law_sizes) := ⟨rfl, rfl, rfl, by decide +kernel, rfl, by decide +kernel, by decide +kernel⟩
theorem ok__law_sizes {f : Addr} {fd : FuncData} (F : Fun K "_law_sizes" "_law_sizes" s__law_sizes f fd) (T : Txt K mg A) (G__law_row : GF P w K mg base true 2 "_law_row" ["_law_script", "_law_k", "_law_many", "_law_base"] (spRow K)) : FnOk P w K mg base CX0 true 3 f fd ["_law_script"] (spSizes K) := by
  refine F.ok sc__law_sizes (fun vs H Q E h => ?_) (fun cdv Ar outer s H vs Q E hr h => ?_)
  · obtain ⟨a, ns, rfl, _⟩ := h; rfl
  · obtain ⟨a, ns, rfl, hS, kq⟩ := h
    refine ⟨_, (W.h (w_pss_cons (w_ps_set (i := 1) sc__law_sizes.nd rfl (Or.inl rfl) (w_pe_g G__law_row hr rfl (w_pa_p (w_pv 0) (w_pa_p w_pe_int (w_pa_p w_pe_int (w_pa_p w_pe_int w_pa_nil))))))
      (w_pss_one (w_ps_ret (w_pe_tupA (w_pa_p (w_pe_op op_addU w_pe_int (w_pe_op op_mod (w_pe_ix ix_U (w_pv 1) w_pe_int (fun _ _ => rfl)) w_pe_int)) (w_pa_p (w_pe_ix ix_U (w_pe_lstA (w_pa_p (w_pe_op op_addU w_pe_int (w_pe_op op_mod (w_pe_ix ix_U (w_pv 1) w_pe_int (fun _ _ => rfl)) w_pe_int)) (w_pa_p (w_pe_op op_addU w_pe_int (w_pe_op op_mod (w_pe_ix ix_U (w_pv 1) w_pe_int (fun _ _ => rfl)) w_pe_int)) w_pa_nil))) (w_pe_op op_fdiv (w_pe_ix ix_U (w_pv 1) w_pe_int (fun _ _ => rfl)) w_pe_int) (fun _ _ => rfl)) w_pa_nil))))))), ?_⟩
    simp_all only []
    refine ⟨a, ns, 0, 2, 100, rfl, hS, by decide, by decide, by decide, by decide, by decide, fun l ds H1 s1 f1 e1 hl hd => ?_⟩
    match ds, hl with
    | [d0, d1], _ =>
    have h0 := hd d0 (by simp)
    have h1 := hd d1 (by simp)
    have e1' : H1 l = some (.lst [.int d0, .int d1]) := e1
    simp_all only [e1', at20, at21]
    refine ⟨by decide, by decide, by decide, by decide, fun p2 H2 n2 _ => ?_⟩
    simp_all only [n2.same _ _ e1', at21, n2.at_]
    obtain ⟨v, hv, hm⟩ := atI_mem (xs := [V.int (2 + d1 % 3), V.int (2 + d1 % 31)]) (i := d1 / 50) (by omega) (by show d1 / 50 < 2; omega)
    refine ⟨⟨by decide, by decide⟩, v, hv, by decide, fun p3 H3 n3 => ?_⟩
    have s3 : Same H H2 := s1.trans n2.same
    simp only [List.mem_cons, List.not_mem_nil, or_false] at hm
    rcases hm with rfl | rfl
    · exact kq p3 _ _ H3 (s3.trans n3.same) (s3.free n3.no) n3.at_ (by omega) (by omega) (by omega) (by omega)
    · exact kq p3 _ _ H3 (s3.trans n3.same) (s3.free n3.no) n3.at_ (by omega) (by omega) (by omega) (by omega)
def spSigns : Sp := fun vs H Q _ => vs = [] ∧ ∀ x : Str, x.length ≤ 1000 → Q (.str x) H
theorem sc__law_signs : FnScope ["_law_signs_here"] [] (defScope s__law_signs) := ⟨rfl, rfl, rfl, by decide +kernel, rfl, by decide +kernel, by decide +kernel⟩
theorem ok__law_signs {f : Addr} {fd : FuncData} (F : Fun K "_law_signs" "_law_signs" s__law_signs f fd) (T : Txt K mg A) : FnOk P w K mg base CX0 true 1 f fd [] spSigns := by
  refine F.ok sc__law_signs (fun vs H Q E h => ?_) (fun cdv Ar outer s H vs Q E hr h => ?_)
  · obtain ⟨rfl, _⟩ := h; rfl
  · obtain ⟨rfl, kq⟩ := h
    refine ⟨_, (W.h (w_pss_cons (w_ps_set (i := 0) sc__law_signs.nd rfl (Or.inl rfl) w_pe_str)
      (w_pss_cons (w_ps_set (i := 0) sc__law_signs.nd rfl (Or.inl rfl) (w_pe_op op_addU (w_pv 0) w_pe_str))
      (w_pss_one (w_ps_ret (w_pe_op op_mulS (w_pv 0) w_pe_int)))))), ?_⟩
    simp_all only []
    refine ⟨by decide, by decide, by decide, by decide, by decide, kq _ ?_⟩
    rw [repS_len]
    decide
end
abbrev s__law_deeds : Stmt := top 33
section
variable {P : Program} {w : World} {K : PySem.W.Frag} {mg : Str → Option Value} {base : Heap} {A : ClsA}
structure DeedAt (H : Hp) (n : Int) (g : Addr) : Prop where
  ex : ∃ (way : Int) (k : Nat) (t : Str), H g = some (.tup [.int way, .int k, .str t]) ∧ (k : Int) < n ∧ t.length ≤ 1000
theorem DeedAt.same {H H' : Hp} {n : Int} {g : Addr} (d : DeedAt H n g) (s : Same H H') : DeedAt H' n g := by
  obtain ⟨way, k, t, h, r⟩ := d.ex
  exact ⟨way, k, t, s _ _ h, r⟩
theorem DeedAt.upd {H : Hp} {n : Int} {g l : Addr} {o : HO} (d : DeedAt H n g) (h : g ≠ l) : DeedAt (L2.upd H l o) n g := by
  obtain ⟨way, k, t, e, r⟩ := d.ex
  exact ⟨way, k, t, by rw [upd_ne h]; exact e, r⟩
def spDeeds (K : PySem.W.Frag) : Sp := fun vs H Q _ => ∃ (a : Addr) (ns : List Int) (n : Int), vs = [.ref a, .int n] ∧ SqL K H a (ns.map V.int) ∧ 3 ≤ n ∧ n ≤ 16 ∧
  ∀ (l : Addr) (gs : List Addr) (H' : Hp), Same H H' → H l = none → H' l = some (.lst (gs.map V.ref)) → 7 ≤ gs.length → gs.length ≤ 40 → (∀ g ∈ gs, DeedAt H' n g) → (∀ g ∈ gs, H g = none) → l ∉ gs → Q (.ref l) H'
structure DeedsInv (H : Hp) (a l : Addr) (n : Int) (i : Nat) (σ : L2.St) (H' : Hp) : Prop where
  ex : ∃ x1 x2 x3 x4 x5 x6, σ = [some (V.ref a), some (.int n), some (.ref l), x1, x2, x3, x4, x5, x6]
  gs : ∃ gs : List Addr, H' l = some (.lst (gs.map V.ref)) ∧ gs.length = i ∧ (∀ g ∈ gs, DeedAt H' n g) ∧ (∀ g ∈ gs, H g = none) ∧ l ∉ gs
  same : Same H H'
theorem sc__law_deeds : FnScope ["_law_script", "_law_many", "_law_found", "_law_k", "_law_way", "_law_stretch", "_law_size", "_law_far", "_law_text"] ["_law_script", "_law_many"] (defScope s__law_deeds) := ⟨rfl, rfl, rfl, by decide +kernel, rfl, by decide +kernel, by decide +kernel⟩
theorem ok__law_deeds {f : Addr} {fd : FuncData} (F : Fun K "_law_deeds" "_law_deeds" s__law_deeds f fd) (T : Txt K mg A) (G__law_row : GF P w K mg base true 2 "_law_row" ["_law_script", "_law_k", "_law_many", "_law_base"] (spRow K)) (G__law_signs : GF P w K mg base true 1 "_law_signs" [] spSigns) : FnOk P w K mg base CX0 true 3 f fd ["_law_script", "_law_many"] (spDeeds K) := by
  refine F.ok sc__law_deeds (fun vs H Q E h => ?_) (fun cdv Ar outer s H vs Q E hr h => ?_)
  · obtain ⟨a, ns, n, rfl, _⟩ := h; rfl
  · obtain ⟨a, ns, n, rfl, hS, n0, n1, kq⟩ := h
    refine ⟨_, (W.h (w_pss_cons (w_ps_set (i := 2) sc__law_deeds.nd rfl (Or.inl rfl) (w_pe_lstA w_pa_nil))
      (w_pss_cons (w_ps_for PassesOwn.never (fun _ => rfl) (w_pi_range2p rfl T.n_range (w_pa_p w_pe_int (w_pa_p (w_pe_callBp (call_maxU rfl) rfl T.n_max boot_max (w_pa_p w_pe_int (w_pa_p (w_pe_callBp (call_minU rfl) rfl T.n_min boot_min (w_pa_p (w_pe_callBp call_len_seq rfl T.n_len PySem.boot_len (w_pa_p (w_pv 0) w_pa_nil)) (w_pa_p w_pe_int w_pa_nil))) w_pa_nil))) w_pa_nil))) (w_pg_name (i := 3) sc__law_deeds.nd rfl (Or.inl rfl))
      (w_pss_cons (w_ps_asg (w_pe_g G__law_row hr rfl (w_pa_p (w_pv 0) (w_pa_p (w_pv 3) (w_pa_p w_pe_int (w_pa_p (w_pe_op op_pow w_pe_int w_pe_int) w_pa_nil))))) (w_pg_lst rfl (n := 4) (w_pgs_cons (w_pg_name (i := 4) sc__law_deeds.nd rfl (Or.inl rfl)) (w_pgs_cons (w_pg_name (i := 5) sc__law_deeds.nd rfl (Or.inl rfl)) (w_pgs_cons (w_pg_name (i := 6) sc__law_deeds.nd rfl (Or.inl rfl)) (w_pgs_cons (w_pg_name (i := 7) sc__law_deeds.nd rfl (Or.inl rfl)) w_pgs_nil))))))
      (w_pss_cons (w_ps_set (i := 8) sc__law_deeds.nd rfl (Or.inl rfl) (w_pe_slice sl_U (w_pe_slice sl_U (w_pe_g0 G__law_signs hr rfl) (w_po_some (w_pe_op op_mod (w_pe_op op_fdiv (w_pv 7) w_pe_int) w_pe_int)) w_po_none) w_po_none (w_po_some (w_pe_op op_addU w_pe_int (w_pe_ix ix_U (w_pe_lstA (w_pa_p (w_pe_op op_mod (w_pv 6) w_pe_int) (w_pa_p (w_pe_op op_mod (w_pv 6) w_pe_int) (w_pa_p (w_pe_op op_mod (w_pv 6) w_pe_int) w_pa_nil)))) (w_pe_op op_mod (w_pe_op op_fdiv (w_pv 7) w_pe_int) w_pe_int) (fun _ _ => rfl))))))
      (w_pss_cons (w_ps_set (i := 4) sc__law_deeds.nd rfl (Or.inl rfl) (w_pe_ix ix_U (w_pe_lstA (w_pa_p w_pe_int (w_pa_p w_pe_int (w_pa_p w_pe_int (w_pa_p w_pe_int (w_pa_p w_pe_int (w_pa_p w_pe_int (w_pa_p w_pe_int (w_pa_p w_pe_int w_pa_nil))))))))) (w_pe_op op_mod (w_pv 4) w_pe_int) (fun _ _ => rfl)))
      (w_pss_one (w_ps_expr (w_pe_append (w_pv 2) (w_pe_tupA (w_pa_p (w_pv 4) (w_pa_p (w_pe_ix ix_U (w_pe_lstA (w_pa_p (w_pe_op op_mod (w_pv 5) (w_pv 1)) (w_pa_p (w_pe_op op_mod (w_pv 5) w_pe_int) (w_pa_p (w_pe_op op_mod (w_pv 5) w_pe_int) w_pa_nil)))) (w_pe_op op_mod (w_pe_op op_fdiv (w_pv 7) w_pe_int) w_pe_int) (fun _ _ => rfl)) (w_pa_p (w_pv 8) w_pa_nil)))))))))))
      (w_pss_one (w_ps_ret (w_pv 2)))))), ?_⟩
    simp_all only []
    refine ⟨by decide, fun l H1 n1' _ => ⟨_, .inl (n1'.same.seq hS), by decide, by decide, ?_⟩⟩
    generalize hM : (if (if (41 : Int) < ((ns.map V.int).length : Int) then (41 : Int) else ((ns.map V.int).length : Int)) > 8 then (if (41 : Int) < ((ns.map V.int).length : Int) then (41 : Int) else ((ns.map V.int).length : Int)) else 8) = M
    have hM2 : 8 ≤ M ∧ M ≤ 41 := by
      subst hM
      split <;> (try split) <;> omega
    have hl := n1'.no
    refine ⟨by omega, by omega, ForJ.rng (DeedsInv H a l n) ⟨⟨_, _, _, _, _, _, rfl⟩, ⟨[], n1'.at_, rfl, by simp, by simp, by simp⟩, n1'.same⟩ ?_ ?_⟩
    · rintro i σ H2 hi I
      obtain ⟨x1, x2, x3, x4, x5, x6, rfl⟩ := I.ex
      obtain ⟨gs, hg, hgl, hga, hgf, hgn⟩ := I.gs
      simp_all only []
      refine ⟨⟨by decide, by decide, by decide⟩, a, ns, 1 + i, 4, _, rfl, I.same.seq hS, by omega, by decide, by decide, by decide, by decide, fun r ds H3 s3 f3 e3 hdl hd => ?_⟩
      match ds, hdl with
      | [d0, d1, d2, d3], _ =>
      have h0 := hd d0 (by simp)
      have h1 := hd d1 (by simp)
      have h2 := hd d2 (by simp)
      have h3 := hd d3 (by simp)
      have e3' : H3 r = some (.lst [.int d0, .int d1, .int d2, .int d3]) := e3
      refine ⟨r, _, rfl, SqL.of e3', rfl, ?_⟩
      simp_all only []
      refine ⟨rfl, fun x hx => ?_⟩
      simp_all only [Nat.le_trans hx sizeBig]
      obtain ⟨v1, hv1, hm1⟩ := atI_mem (xs := [V.int (d2 % 24), V.int (d2 % 3), V.int (d2 % 400)]) (i := d3 / 6 % 3) (by omega) (by show d3 / 6 % 3 < 3; omega)
      obtain ⟨j1, rfl⟩ : ∃ j, v1 = .int j := by
        simp only [List.mem_cons, List.not_mem_nil, or_false] at hm1
        rcases hm1 with rfl | rfl | rfl <;> exact ⟨_, rfl⟩
      refine ⟨⟨by decide, by decide⟩, by decide, by decide, by decide, by decide, by decide, fun p4 H4 n4 _ => ⟨⟨by decide, by decide⟩, by decide, _, .inl n4.at_, _, hv1, ?_⟩⟩
      simp_all only []
      refine ⟨Nat.le_trans (Nat.le_trans (Txt.slice_le x _ _) hx) sizeBig, by decide, fun p5 H5 n5 _ => ⟨by decide, _, .inl n5.at_, ?_⟩⟩
      obtain ⟨v2, hv2, hm2⟩ := atI_mem (xs := [V.int 0, V.int 0, V.int 0, V.int 0, V.int 0, V.int 1, V.int 2, V.int 0]) (i := d0 % 8) (by omega) (by show d0 % 8 < 8; omega)
      obtain ⟨j2, rfl⟩ : ∃ j, v2 = .int j := by
        simp only [List.mem_cons, List.not_mem_nil, or_false] at hm2
        rcases hm2 with rfl | rfl | rfl | rfl | rfl | rfl | rfl | rfl <;> exact ⟨_, rfl⟩
      have s5 : Same H2 H5 := s3.trans (n4.same.trans n5.same)
      refine ⟨_, hv2, ⟨_, s5 _ _ hg⟩, by omega, by decide, by decide, by decide, fun p6 H6 n6 _ => ⟨⟨by decide, by decide⟩, by decide, _, .inl n6.at_, ?_⟩⟩
      obtain ⟨v3, hv3, hm3⟩ := atI_mem (xs := [V.int (d1 % n), V.int (d1 % 2), V.int (d1 % 3)]) (i := d3 / 18 % 3) (by omega) (by show d3 / 18 % 3 < 3; omega)
      have hn0 : 0 ≤ d1 % n := Int.emod_nonneg _ (by omega)
      have hn1 : d1 % n < n := Int.emod_lt_of_pos _ (by omega)
      obtain ⟨j3, rfl, hj3⟩ : ∃ j : Nat, v3 = .int j ∧ (j : Int) < n := by
        simp only [List.mem_cons, List.not_mem_nil, or_false] at hm3
        rcases hm3 with rfl | rfl | rfl
        · exact ⟨(d1 % n).toNat, by rw [Int.toNat_of_nonneg hn0], by omega⟩
        · exact ⟨(d1 % 2).toNat, by rw [Int.toNat_of_nonneg (by omega)], by omega⟩
        · exact ⟨(d1 % 3).toNat, by rw [Int.toNat_of_nonneg (by omega)], by omega⟩
      refine ⟨_, hv3, ?_⟩
      have s6 : Same H2 H6 := s5.trans n6.same
      refine ⟨by decide, fun g H7 n7 => ?_⟩
      have s7 : Same H2 H7 := s6.trans n7.same
      have gl : g ≠ l := fun z => by
        have := n7.no
        rw [z, s6 _ _ hg] at this
        cases this
      refine ⟨_, s7 _ _ hg, by rw [List.length_map]; exact small1000 (by omega), ⟨⟨_, _, _, _, _, _, rfl⟩, ⟨gs ++ [g], by rw [upd_same, List.map_append]; rfl, by simp [hgl], fun b hb => ?_, fun b hb => ?_, ?_⟩, fun c o e => by rw [upd_ne (ne_of_none e hl)]; exact s7 _ _ (I.same c o e)⟩⟩
      · rcases List.mem_append.mp hb with hb | hb
        · exact ((hga b hb).same s7).upd (fun z => hgn (by rw [← z]; exact hb))
        · rw [List.mem_singleton] at hb
          subst hb
          exact ⟨j2, j3, _, by rw [upd_ne gl]; exact n7.at_, hj3, Nat.le_trans (Txt.slice_le _ _ _) (Nat.le_trans (Txt.slice_le x _ _) hx)⟩
      · rcases List.mem_append.mp hb with hb | hb
        · exact hgf b hb
        · rw [List.mem_singleton] at hb
          subst hb
          exact (I.same.trans s6).free n7.no
      · rw [List.mem_append, List.mem_singleton]
        rintro (z | z)
        · exact hgn z
        · exact gl z.symm
    · rintro σ H2 I
      obtain ⟨x1, x2, x3, x4, x5, x6, rfl⟩ := I.ex
      obtain ⟨gs, hg, hgl, hga, hgf, hgn⟩ := I.gs
      simp_all only []
      exact kq l gs H2 I.same hl hg (by omega) (by omega) hga hgf hgn
end
abbrev s_law : Stmt := top 42
section
variable {P : Program} {w : World} {K : PySem.W.Frag} {mg : Str → Option Value} {base : Heap} {A : ClsA}
def Disj (F G : List Addr) : Prop := ∀ x ∈ F, x ∉ G
theorem Disj.symm {F G : List Addr} (h : Disj F G) : Disj G F := fun x hx hy => h x hy hx
structure Ok (d : DM) (n m : Int) : Prop where
  fit : Fit d n m
  left : ∀ l, d.left = some l → 0 ≤ l
theorem dn_some {l N : Int} : dn (some l) N ≤ l := by
  show (if l < N then l else N) ≤ l
  split <;> omega
theorem Ok.spend {d : DM} {n m N : Int} (o : Ok d n m) : Ok (d.spend N) n m := by
  refine ⟨⟨o.fit.len, o.fit.n0, o.fit.n1, o.fit.m0, o.fit.m1, o.fit.two, o.fit.le⟩, fun l h => ?_⟩
  have h' : d.left.map (· - dn d.left N) = some l := h
  cases hl : d.left with
  | none => rw [hl] at h'; cases h'
  | some x =>
    rw [hl] at h'
    have e : x - dn (some x) N = l := Option.some.inj h'
    have := dn_some (l := x) (N := N)
    omega
theorem Ok.setRow {d : DM} {n m : Int} {k : Nat} {r : List Tx} (o : Ok d n m) (h : (r.length : Int) ≤ m) : Ok { d with rows := d.rows.set k r } n m := by
  refine ⟨⟨by rw [List.length_set]; exact o.fit.len, o.fit.n0, o.fit.n1, o.fit.m0, o.fit.m1, o.fit.two, fun j => ?_⟩, o.left⟩
  have := o.fit.m0
  by_cases hj : j = k
  · subst hj
    by_cases hlt : j < d.rows.length
    · simp [List.getD_eq_getElem?_getD, hlt]; exact h
    · simp [List.getD_eq_getElem?_getD, hlt]; omega
  · have := o.fit.le j
    simp only [List.getD_eq_getElem?_getD] at this ⊢
    rw [List.getElem?_set_ne (Ne.symm hj)]
    exact this
theorem Ok.setSide {d : DM} {n m : Int} {k : Nat} {x : Tx} (o : Ok d n m) : Ok { d with sides := d.sides.set k x } n m :=
  ⟨⟨o.fit.len, o.fit.n0, o.fit.n1, o.fit.m0, o.fit.m1, by rw [List.length_set]; exact o.fit.two, o.fit.le⟩, o.left⟩
theorem Ok.deed {d : DM} {n m way : Int} {k : Nat} {t : Str} (o : Ok d n m) : Ok (d.deed m way k t).2 n m := by
  have hle := o.fit.le k
  have := o.fit.m0
  unfold DM.deed
  split
  · unfold DM.write
    split
    · exact o
    · split
      · exact o
      · split
        · exact o.spend
        · refine Ok.setRow o.spend ?_
          rw [List.length_append]
          simp only [List.length_singleton]
          omega
  · split
    · unfold DM.empty
      split
      · exact o
      · split
        · refine Ok.setRow o.spend ?_
          simp only [List.length_append, List.length_replicate, List.length_drop]
          have h2 : dn d.left ((d.rows.getD k []).length : Int) ≤ (d.rows.getD k []).length := dn_le
          omega
        · refine Ok.setRow o.spend ?_
          show ((0 : Nat) : Int) ≤ m
          omega
    · unfold DM.put
      split
      · exact o
      · split
        · exact o.spend
        · exact Ok.setSide o.spend
theorem Ok.copy {d : DM} {n m : Int} (o : Ok d n m) : Ok d.copy n m := ⟨⟨o.fit.len, o.fit.n0, o.fit.n1, o.fit.m0, o.fit.m1, o.fit.two, o.fit.le⟩, fun _ h => nomatch h⟩
theorem Ok.deedOk {H : Hp} {g : Addr} {d : DM} {n m way : Int} {k : Nat} {t : Str} (o : Ok d n m) (h : H g = some (.tup [.int way, .int k, .str t])) (hk : (k : Int) < n) (ht : t.length ≤ 1000) : DeedOk H g d way k t :=
  ⟨h, by have := o.fit.len; omega, o.fit.two, ht, fun j => by have := o.fit.le j; have := o.fit.m1; omega, o.left⟩
structure Two (A : ClsA) (H : Hp) (p q : Addr) (F : List Addr) (m : Int) (d e : DM) : Prop where
  ex : ∃ (wl sl rl sl2 : Addr) (cells cells2 : List Addr), DiskAt A H p wl sl cells m d ∧ StAt H q rl sl2 cells2 e ∧ Disj (p :: wl :: sl :: cells) (q :: rl :: sl2 :: cells2) ∧ F = (p :: wl :: sl :: cells) ++ (q :: rl :: sl2 :: cells2)
theorem Two.keep {H H' : Hp} {p q : Addr} {F G : List Addr} {m : Int} {d e : DM} (t : Two A H p q F m d e) (k : Keeps G H H') (h : Disj F G) : Two A H' p q F m d e := by
  obtain ⟨wl, sl, rl, sl2, cells, cells2, D, S, dj, rfl⟩ := t.ex
  exact ⟨wl, sl, rl, sl2, cells, cells2, D.keep k fun x hx => h x (List.mem_append_left _ hx), S.keep k fun x hx => h x (List.mem_append_right _ hx), dj, rfl⟩
theorem Two.same {H H' : Hp} {p q : Addr} {F : List Addr} {m : Int} {d e : DM} (t : Two A H p q F m d e) (s : Same H H') : Two A H' p q F m d e := t.keep (G := []) (Keeps.same s) (fun _ _ z => nomatch z)
theorem Two.alloc {H : Hp} {p q : Addr} {F : List Addr} {m : Int} {d e : DM} (t : Two A H p q F m d e) : ∀ x ∈ F, ∃ o, H x = some o := by
  obtain ⟨wl, sl, rl, sl2, cells, cells2, D, S, dj, rfl⟩ := t.ex
  intro x hx
  obtain ⟨dx, h1⟩ := D.ob
  rcases List.mem_append.mp hx with hx | hx
  · rcases List.mem_cons.mp hx with rfl | hx
    · exact ⟨_, h1⟩
    rcases List.mem_cons.mp hx with rfl | hx
    · exact ⟨_, D.rows.w⟩
    rcases List.mem_cons.mp hx with rfl | hx
    · exact ⟨_, D.sides⟩
    obtain ⟨i, hi⟩ := List.getElem?_of_mem hx
    exact ⟨_, D.rows.at_ i x hi⟩
  · rcases List.mem_cons.mp hx with rfl | hx
    · exact ⟨_, S.ob⟩
    rcases List.mem_cons.mp hx with rfl | hx
    · exact ⟨_, S.rows.w⟩
    rcases List.mem_cons.mp hx with rfl | hx
    · exact ⟨_, S.sides⟩
    obtain ⟨i, hi⟩ := List.getElem?_of_mem hx
    exact ⟨_, S.rows.at_ i x hi⟩
theorem two_due {H : Hp} {p q g : Addr} {F : List Addr} {m way : Int} {k : Nat} {t : Str} {d e : DM} {Q : VK} {E : XK} (w : Two A H p q F m d e) (O : DeedOk H g e way k t)
    (kq : ∀ H1, Two A H1 p q F m d (e.deed m way k t).2 → Keeps F H H1 → Q (resV (e.deed m way k t).1) H1) : spDue [.ref q, .int m, .ref g] H Q E := by
  obtain ⟨wl, sl, rl, sl2, cells, cells2, D, S, dj, rfl⟩ := w.ex
  exact ⟨q, rl, sl2, g, cells2, e, m, way, k, t, rfl, S, O, fun H1 S1 k1 => kq H1 ⟨wl, sl, rl, sl2, cells, cells2, D.keep k1 dj, S1, dj, rfl⟩ (k1.mono fun x hx => List.mem_append_right _ hx)⟩
theorem two_done {H : Hp} {p q g : Addr} {F : List Addr} {m way : Int} {k : Nat} {t : Str} {d e : DM} {Q : VK} {E : XK} (w : Two A H p q F m d e) (O : DeedOk H g d way k t)
    (kq : ∀ H1, Two A H1 p q F m (d.deed m way k t).2 e → Keeps F H H1 → Q (resV (d.deed m way k t).1) H1) : spDone A [.ref p, .ref g] H Q E := by
  obtain ⟨wl, sl, rl, sl2, cells, cells2, D, S, dj, rfl⟩ := w.ex
  exact ⟨p, wl, sl, g, cells, d, m, way, k, t, rfl, D, O, fun H1 D1 k1 => kq H1 ⟨wl, sl, rl, sl2, cells, cells2, D1, S.keep k1 dj.symm, dj, rfl⟩ (k1.mono fun x hx => List.mem_append_left _ hx)⟩
theorem two_like {H : Hp} {p q : Addr} {F : List Addr} {n m : Int} {d : DM} {Q : VK} {E : XK} (w : Two A H p q F m d d) (o : Ok d n m) (kq : ∀ H', Same H H' → Q (.bl true) H') : spLike A [.ref p, .ref q, .int n, .int m] H Q E := by
  obtain ⟨wl, sl, rl, sl2, cells, cells2, D, S, dj, rfl⟩ := w.ex
  exact ⟨p, wl, sl, q, rl, sl2, cells, cells2, d, n, m, rfl, D, S, o.fit, kq⟩
theorem res_flat {d : DM} {m way : Int} {k : Nat} {t : Str} : (∃ z, resV (d.deed m way k t).1 = .str z) ∨ (∃ z, resV (d.deed m way k t).1 = .int z) ∨ resV (d.deed m way k t).1 = .non := by
  unfold DM.deed DM.write DM.empty DM.put
  repeat' split
  all_goals first | exact .inl ⟨_, rfl⟩ | exact .inr (.inl ⟨_, rfl⟩) | exact .inr (.inr rfl) | skip
end
section
variable {P : Program} {w : World} {K : PySem.W.Frag} {mg : Str → Option Value} {base : Heap} {A : ClsA}
theorem res_scal {d : DM} {m way : Int} {k : Nat} {t : Str} : scal (resV (d.deed m way k t).1) (resV (d.deed m way k t).1) = true := by
  rcases res_flat (d := d) (m := m) (way := way) (k := k) (t := t) with ⟨z, h⟩ | ⟨z, h⟩ | h <;> rw [h] <;> rfl
theorem st_mk {H3 H4 H5 H6 : Hp} {rl sl q : Addr} {cells : List Addr} {d : DM} (s : Same H3 H4) (R : Rows H4 rl cells d.rows) (nd : (rl :: cells).Nodup) (fr : ∀ x ∈ rl :: cells, H3 x = none) (n5 : New H4 sl (.lst (d.sides.map tv)) H5)
    (n6 : New H5 q (.lst [.ref rl, .ref sl, .int d.cnt, lv d.left, .bl d.st]) H6) : StAt H6 q rl sl cells d ∧ ∀ x ∈ q :: rl :: sl :: cells, H3 x = none := by
  have al4 : ∀ x ∈ rl :: cells, ∃ o, H4 x = some o := by
    intro x hx
    rcases List.mem_cons.mp hx with rfl | hx
    · exact ⟨_, R.w⟩
    · obtain ⟨i, hi⟩ := List.getElem?_of_mem hx
      exact ⟨_, R.at_ i x hi⟩
  have sl4 : ∀ x ∈ rl :: cells, x ≠ sl := fun x hx => by
    obtain ⟨o, ho⟩ := al4 x hx
    exact ne_of_none ho n5.no
  have q5 : ∀ x ∈ rl :: cells, x ≠ q := fun x hx => by
    obtain ⟨o, ho⟩ := al4 x hx
    exact ne_of_none (n5.same _ _ ho) n6.no
  have qs : sl ≠ q := ne_of_none n5.at_ n6.no
  have hn := List.nodup_cons.mp nd
  refine ⟨⟨n6.at_, R.keep fun b o e _ => n6.same _ _ (n5.same _ _ e), n6.same _ _ n5.at_, ?_⟩, fun x hx => ?_⟩
  · simp only [List.nodup_cons, List.mem_cons, not_or]
    exact ⟨⟨fun z => q5 rl (by simp) z.symm, fun z => qs z.symm, fun z => q5 q (by simp [z]) rfl⟩, ⟨sl4 rl (by simp), hn.1⟩, fun z => sl4 sl (by simp [z]) rfl, hn.2⟩
  · simp only [List.mem_cons] at hx
    rcases hx with rfl | rfl | rfl | hx
    · exact (s.trans n5.same).free n6.no
    · exact fr _ (by simp)
    · exact s.free n5.no
    · exact fr _ (by simp [hx])
theorem comp_rows {H3 : Hp} {n : Int} {Qf : VK} (h1 : n ≤ 16) (k : ∀ (rl : Addr) (cells : List Addr) (H4 : Hp), Same H3 H4 → Rows H4 rl cells (List.replicate n.toNat []) → (rl :: cells).Nodup → (∀ x ∈ rl :: cells, H3 x = none) → Qf (.ref rl) H4) :
    CompJ (Itr 0 n.toNat) (gName 0) tAll (tLstA tNil) [none] H3 Qf := by
  refine CompJ.rng (CellInv H3) (fun i τ ys H' I => ?_) ⟨⟨_, rfl⟩, ⟨[], rfl, rfl, by simp, List.nodup_nil⟩, Same.refl _, by decide⟩ ?_ ?_
  · obtain ⟨cells, e, l, _⟩ := I.ex
    rw [e, List.length_map, l]
    exact small1000 (Nat.le_trans I.le (by decide))
  · intro N i τ ys H' hi I hN
    obtain ⟨t, rfl⟩ := I.τ
    obtain ⟨cells, e, l, hc, hcn⟩ := I.ex
    simp_all only []
    refine ⟨by decide, fun c H2 n2 _ => hN _ _ _ ⟨⟨_, rfl⟩, ⟨cells ++ [c], by rw [e, List.map_append]; rfl, by simp [l], fun b hb => ?_, ?_⟩, I.same.trans n2.same, by omega⟩⟩
    · rcases List.mem_append.mp hb with hb | hb
      · exact ⟨n2.same _ _ (hc b hb).1, (hc b hb).2⟩
      · rw [List.mem_singleton] at hb; subst hb; exact ⟨n2.at_, I.same.free n2.no⟩
    · refine List.nodup_append.mpr ⟨hcn, by simp, fun a ha b hb => ?_⟩
      rw [List.mem_singleton] at hb
      subst hb
      exact ne_of_none (hc a ha).1 n2.no
  · intro τ ys H1 I D H2 nD
    obtain ⟨cells, e, l, hc, hcn⟩ := I.ex
    have hD : D ∉ cells := fun z => ne_of_none (hc D z).1 nD.no rfl
    refine k D cells H2 (I.same.trans nD.same) ⟨by rw [nD.at_, e], by rw [List.length_replicate]; exact l, fun i c hc' => ?_⟩ (List.nodup_cons.mpr ⟨hD, hcn⟩) (fun x hx => ?_)
    · have hm := List.mem_of_getElem? hc'
      have hi : i < n.toNat := by rw [← l]; exact (List.getElem?_eq_some_iff.mp hc').1
      rw [nD.same _ _ (hc c hm).1, List.getD_eq_getElem?_getD, List.getElem?_replicate, if_pos hi]
      rfl
    · rcases List.mem_cons.mp hx with rfl | hx
      · exact I.same.free nD.no
      · exact (hc x hx).2
theorem two_mk {H H1 H3 H6 : Hp} {p q wl sl rl sl2 : Addr} {cells cells2 : List Addr} {m : Int} {d e : DM} (D : DiskAt A H3 p wl sl cells m d) (s36 : Same H3 H6) (S : StAt H6 q rl sl2 cells2 e) (fr : ∀ x ∈ q :: rl :: sl2 :: cells2, H3 x = none) (s03 : Same H H3)
    (fd : ∀ x ∈ p :: wl :: sl :: cells, H x = none) : ∃ F, Two A H6 p q F m d e ∧ ∀ x ∈ F, H x = none := by
  refine ⟨(p :: wl :: sl :: cells) ++ (q :: rl :: sl2 :: cells2), ⟨wl, sl, rl, sl2, cells, cells2, D.same s36, S, fun x hx hy => ?_, rfl⟩, fun x hx => ?_⟩
  · have h0 := fr x hy
    obtain ⟨dx, h1⟩ := D.ob
    rcases List.mem_cons.mp hx with rfl | hx
    · rw [h1] at h0; cases h0
    rcases List.mem_cons.mp hx with rfl | hx
    · rw [D.rows.w] at h0; cases h0
    rcases List.mem_cons.mp hx with rfl | hx
    · rw [D.sides] at h0; cases h0
    obtain ⟨i, hi⟩ := List.getElem?_of_mem hx
    rw [D.rows.at_ i x hi] at h0; cases h0
  · rcases List.mem_append.mp hx with hx | hx
    · exact fd x hx
    · exact s03.free (fr x hx)
theorem disj_fresh {H H' : Hp} {p q : Addr} {F G : List Addr} {m : Int} {d e : DM} (t : Two A H p q F m d e) (h : ∀ x ∈ G, H x = none) : Disj F G := fun x hx hy => by
  obtain ⟨o, ho⟩ := t.alloc x hx
  rw [h x hy] at ho
  cases ho
theorem ok_new {n m : Int} (n0 : 3 ≤ n) (n1 : n ≤ 16) (m0 : 2 ≤ m) (m1 : m ≤ 32) : Ok (DM.new n.toNat) n m := by
  refine ⟨⟨?_, n0, n1, m0, m1, rfl, fun k => ?_⟩, fun _ h => nomatch h⟩
  · show ((List.replicate n.toNat ([] : List Tx)).length : Int) = n
    rw [List.length_replicate]; omega
  · have : ((DM.new n.toNat).rows.getD k []) = [] := by
      show (List.replicate n.toNat ([] : List Tx)).getD k [] = []
      rw [List.getD_eq_getElem?_getD, List.getElem?_replicate]
      split <;> rfl
    rw [this]
    show ((0 : Nat) : Int) ≤ m
    omega
theorem atI_any {α : Type} {xs : List α} {i : Int} (h0 : -(xs.length : Int) ≤ i) (h1 : i < xs.length) : ∃ v, atI xs i = some v ∧ v ∈ xs := by
  by_cases h : 0 ≤ i
  · exact atI_mem h h1
  · have hj : (i + xs.length).toNat < xs.length := by omega
    refine ⟨xs[(i + xs.length).toNat], ?_, List.getElem_mem hj⟩
    unfold atI ixN
    rw [if_neg h, if_pos h0]
    exact List.getElem?_eq_getElem hj
theorem DeedAt.keep {H H' : Hp} {n : Int} {g : Addr} {F : List Addr} (d : DeedAt H n g) (k : Keeps F H H') (h : g ∉ F) : DeedAt H' n g := by
  obtain ⟨way, j, t, e, r⟩ := d.ex
  exact ⟨way, j, t, k _ _ e h, r⟩
theorem comp_copy {H1 : Hp} {rl : Addr} {cells : List Addr} {rows : List (List Tx)} {Qf : VK} (R : Rows H1 rl cells rows) (h16 : rows.length ≤ 16) (k : ∀ (r' : Addr) (cs : List Addr) (H4 : Hp), Same H1 H4 → Rows H4 r' cs rows → (r' :: cs).Nodup → (∀ x ∈ r' :: cs, H1 x = none) → Qf (.ref r') H4) :
    CompJ (Itl K rl) (gName 0) tAll (tCB uListOf (tCons (tVar 0) tNil)) [none] H1 Qf := by
  refine CompJ.lst (xs := cells.map V.ref) (CpInv H1 rows) (fun i τ ys H' I => ?_) (fun i τ ys H' I => SqL.of (I.same _ _ R.w)) ⟨⟨_, rfl⟩, ⟨[], rfl, rfl, by simp, by simp, List.nodup_nil⟩, Same.refl _, by decide⟩ ?_ ?_
  · obtain ⟨cs, e, l, _⟩ := I.ex
    rw [e, List.length_map, l]
    exact small1000 (Nat.le_trans I.le (by decide))
  · intro N i v τ ys H' hi I hN
    obtain ⟨t, rfl⟩ := I.τ
    obtain ⟨cs, e, l, hc, hf, hcn⟩ := I.ex
    rw [List.getElem?_map] at hi
    obtain ⟨c, hci, rfl⟩ := Option.map_eq_some_iff.mp hi
    have hcc := I.same _ _ (R.at_ i c hci)
    have hil : i < cells.length := (List.getElem?_eq_some_iff.mp hci).1
    simp_all only [hcc]
    intro c2 H4 n4
    refine hN _ _ _ ⟨⟨_, rfl⟩, ⟨cs ++ [c2], by rw [e, List.map_append]; rfl, by simp [l], fun j b hb => ?_, fun b hb => ?_, ?_⟩, I.same.trans n4.same, by have := R.len; omega⟩
    · by_cases hj : j < cs.length
      · rw [List.getElem?_append_left hj] at hb
        exact n4.same _ _ (hc j b hb)
      · have hjl : j < (cs ++ [c2]).length := (List.getElem?_eq_some_iff.mp hb).1
        have hj2 : j = cs.length := by rw [List.length_append] at hjl; simp at hjl; omega
        rw [hj2, List.getElem?_append_right (Nat.le_refl _)] at hb
        simp at hb
        subst hb
        rw [hj2, l]
        exact n4.at_
    · rcases List.mem_append.mp hb with hb | hb
      · exact hf b hb
      · rw [List.mem_singleton] at hb; subst hb; exact I.same.free n4.no
    · refine List.nodup_append.mpr ⟨hcn, by simp, fun a ha b hb => ?_⟩
      rw [List.mem_singleton] at hb
      subst hb
      obtain ⟨j, hj⟩ := List.getElem?_of_mem ha
      exact ne_of_none (hc j a hj) n4.no
  · intro τ ys H4 I W H5 nW
    obtain ⟨cs, e, l, hc, hf, hcn⟩ := I.ex
    rw [List.length_map] at l
    have hW : W ∉ cs := fun z => by
      obtain ⟨j, hj⟩ := List.getElem?_of_mem z
      exact ne_of_none (hc j W hj) nW.no rfl
    refine k W cs H5 (I.same.trans nW.same) ⟨by rw [nW.at_, e], by rw [l, R.len], fun i c hc' => nW.same _ _ (hc i c hc')⟩ (List.nodup_cons.mpr ⟨hW, hcn⟩) (fun x hx => ?_)
    rcases List.mem_cons.mp hx with rfl | hx
    · exact I.same.free nW.no
    · exact hf x hx
/-- the first pair, the second pair and the deeds -/
structure Wd (A : ClsA) (n m : Int) (p1 q1 p2 q2 l : Addr) (F1 F2 gs : List Addr) (H : Hp) : Prop where
  one : ∃ d, Two A H p1 q1 F1 m d d ∧ Ok d n m
  two : ∃ d, Two A H p2 q2 F2 m d d ∧ Ok d n m
  atl : H l = some (.lst (gs.map V.ref))
  ded : ∀ g ∈ gs, DeedAt H n g
  d12 : Disj F1 F2
  d1 : Disj F1 (l :: gs)
  d2 : Disj F2 (l :: gs)
structure Wt (A : ClsA) (n m : Int) (l : Addr) (F1 F2 gs : List Addr) (o b : Addr) (F3 : List Addr) (H : Hp) : Prop where
  three : ∃ d, Two A H o b F3 m d d ∧ Ok d n m
  d1 : Disj F1 F3
  d2 : Disj F2 F3
  d3 : Disj F3 (l :: gs)
section
variable {n m : Int} {p1 q1 p2 q2 l o b : Addr} {F1 F2 F3 gs : List Addr} {H H' : Hp} {d : DM}
theorem Wd.same (W : Wd A n m p1 q1 p2 q2 l F1 F2 gs H) (s : Same H H') : Wd A n m p1 q1 p2 q2 l F1 F2 gs H' := by
  obtain ⟨d, t, od⟩ := W.one
  obtain ⟨e, u, oe⟩ := W.two
  exact ⟨⟨d, t.same s, od⟩, ⟨e, u.same s, oe⟩, s _ _ W.atl, fun g hg => (W.ded g hg).same s, W.d12, W.d1, W.d2⟩
theorem Wd.op1 (W : Wd A n m p1 q1 p2 q2 l F1 F2 gs H) (k : Keeps F1 H H') (t : Two A H' p1 q1 F1 m d d) (od : Ok d n m) : Wd A n m p1 q1 p2 q2 l F1 F2 gs H' := by
  obtain ⟨e, u, oe⟩ := W.two
  exact ⟨⟨d, t, od⟩, ⟨e, u.keep k W.d12.symm, oe⟩, k _ _ W.atl (fun z => W.d1 l z (by simp)), fun g hg => (W.ded g hg).keep k (fun z => W.d1 g z (by simp [hg])), W.d12, W.d1, W.d2⟩
theorem Wd.op2 (W : Wd A n m p1 q1 p2 q2 l F1 F2 gs H) (k : Keeps F2 H H') (t : Two A H' p2 q2 F2 m d d) (od : Ok d n m) : Wd A n m p1 q1 p2 q2 l F1 F2 gs H' := by
  obtain ⟨e, u, oe⟩ := W.one
  exact ⟨⟨e, u.keep k W.d12, oe⟩, ⟨d, t, od⟩, k _ _ W.atl (fun z => W.d2 l z (by simp)), fun g hg => (W.ded g hg).keep k (fun z => W.d2 g z (by simp [hg])), W.d12, W.d1, W.d2⟩
theorem Wd.op3 (W : Wd A n m p1 q1 p2 q2 l F1 F2 gs H) (k : Keeps F3 H H') (d1 : Disj F1 F3) (d2 : Disj F2 F3) (d3 : Disj F3 (l :: gs)) : Wd A n m p1 q1 p2 q2 l F1 F2 gs H' := by
  obtain ⟨d, t, od⟩ := W.one
  obtain ⟨e, u, oe⟩ := W.two
  exact ⟨⟨d, t.keep k d1, od⟩, ⟨e, u.keep k d2, oe⟩, k _ _ W.atl (fun z => d3 l z (by simp)), fun g hg => (W.ded g hg).keep k (fun z => d3 g z (by simp [hg])), W.d12, W.d1, W.d2⟩
theorem Wt.same (W : Wt A n m l F1 F2 gs o b F3 H) (s : Same H H') : Wt A n m l F1 F2 gs o b F3 H' := by
  obtain ⟨d, t, od⟩ := W.three
  exact ⟨⟨d, t.same s, od⟩, W.d1, W.d2, W.d3⟩
theorem Wt.op1 (W : Wt A n m l F1 F2 gs o b F3 H) (k : Keeps F1 H H') : Wt A n m l F1 F2 gs o b F3 H' := by
  obtain ⟨d, t, od⟩ := W.three
  exact ⟨⟨d, t.keep k W.d1.symm, od⟩, W.d1, W.d2, W.d3⟩
theorem Wt.op2 (W : Wt A n m l F1 F2 gs o b F3 H) (k : Keeps F2 H H') : Wt A n m l F1 F2 gs o b F3 H' := by
  obtain ⟨d, t, od⟩ := W.three
  exact ⟨⟨d, t.keep k W.d2.symm, od⟩, W.d1, W.d2, W.d3⟩
end
structure LInv (A : ClsA) (n m : Int) (a p1 q1 p2 q2 l : Addr) (F1 F2 gs : List Addr) (i : Nat) (σ : L2.St) (H : Hp) : Prop where
  ex : ∃ x8 x9 x10 x11 x12 x13, σ = [some (V.ref a), some (.int n), some (.int m), some (.ref p1), some (.ref q1), some (.ref p2), some (.ref q2), some (.ref l), x8, x9, x10, x11, x12, x13] ∧
    (gs.length / 2 < i → ∃ o b F3, x10 = some (V.ref o) ∧ x11 = some (V.ref b) ∧ Wt A n m l F1 F2 gs o b F3 H)
  wd : Wd A n m p1 q1 p2 q2 l F1 F2 gs H
structure RInv (A : ClsA) (n m : Int) (a p1 q1 p2 q2 l o b : Addr) (F1 F2 F3 gs : List Addr) (r : Addr) (ys : List V) (i : Nat) (σ : L2.St) (H : Hp) : Prop where
  ex : ∃ x8 x9 x12 x13, σ = [some (V.ref a), some (.int n), some (.int m), some (.ref p1), some (.ref q1), some (.ref p2), some (.ref q2), some (.ref l), x8, x9, some (.ref o), some (.ref b), x12, x13]
  wd : Wd A n m p1 q1 p2 q2 l F1 F2 gs H
  wt : Wt A n m l F1 F2 gs o b F3 H
  r : H r = some (.lst ys)
def spLaw (K : PySem.W.Frag) : Sp := fun vs H Q _ => ∃ (a : Addr) (ns : List Int), vs = [.ref a] ∧ SqL K H a (ns.map V.int) ∧ ns.length ≤ 63 ∧ ∀ H', Q (.bl true) H'
theorem sc_law : FnScope ["_law_script", "_law_many", "_law_wide", "_law_disk", "_law_state", "_law_twin", "_law_far", "_law_deeds_here", "_law_k", "_law_deed", "_law_other", "_law_before", "_law_due_here", "_law_late"] ["_law_script"] (defScope s_law) := ⟨rfl, rfl, rfl, by decide +kernel, rfl, by decide +kernel, by decide +kernel⟩
theorem lc_law_0 : lcStat { kind := .function, names := [(Str.ofString ".0", .local), (Str.ofString "_law_k", .local)], isGenerator := false, isCoroutine := false, more := [] } (defScope s_law).names ["_law_script", "_law_many", "_law_wide", "_law_disk", "_law_state", "_law_twin", "_law_far", "_law_deeds_here", "_law_k", "_law_deed", "_law_other", "_law_before", "_law_due_here", "_law_late"] ["_law_k"] [none] = true := by decide +kernel
theorem lcn_law_0 : (["_law_k"] : List Str).Nodup := by decide +kernel
theorem lc_law_1 : lcStat { kind := .function, names := [(Str.ofString ".0", .local), (Str.ofString "_law_k", .local)], isGenerator := false, isCoroutine := false, more := [] } (defScope s_law).names ["_law_script", "_law_many", "_law_wide", "_law_disk", "_law_state", "_law_twin", "_law_far", "_law_deeds_here", "_law_k", "_law_deed", "_law_other", "_law_before", "_law_due_here", "_law_late"] ["_law_k"] [none] = true := by decide +kernel
theorem lcn_law_1 : (["_law_k"] : List Str).Nodup := by decide +kernel
theorem lc_law_2 : lcStat { kind := .function, names := [(Str.ofString ".0", .local), (Str.ofString "_law_texts", .local), (Str.ofString "list", .globalImplicit)], isGenerator := false, isCoroutine := false, more := [] } (defScope s_law).names ["_law_script", "_law_many", "_law_wide", "_law_disk", "_law_state", "_law_twin", "_law_far", "_law_deeds_here", "_law_k", "_law_deed", "_law_other", "_law_before", "_law_due_here", "_law_late"] ["_law_texts"] [none] = true := by decide +kernel
theorem lcn_law_2 : (["_law_texts"] : List Str).Nodup := by decide +kernel
theorem ok_law {f : Addr} {fd : FuncData} (F : Fun K "law" "law" s_law f fd) (T : Txt K mg A) (G__law_sizes : GF P w K mg base true 3 "_law_sizes" ["_law_script"] (spSizes K)) (G_Disk : GCX P w K mg base true 3 "Disk" A.Disk ["self", "stretches", "places"] (spInit A)) (G__law_deeds : GF P w K mg base true 3 "_law_deeds" ["_law_script", "_law_many"] (spDeeds K))
    (G__law_like : GF P w K mg base true 3 "_law_like" ["_law_disk", "_law_state", "_law_many", "_law_wide"] (spLike A)) (G__law_due : GF P w K mg base true 3 "_law_due" ["_law_state", "_law_wide", "_law_deed"] spDue) (G__law_done : GF P w K mg base true 5 "_law_done" ["_law_disk", "_law_deed"] (spDone A)) (M_Disk_copied : GM P w K mg base true 5 A.Disk "copied" ["self"] (spCopied A)) : FnOk P w K mg base CX0 true 6 f fd ["_law_script"] (spLaw K) := by
  refine F.ok sc_law (fun vs H Q E h => ?_) (fun cdv Ar outer s H vs Q E hr h => ?_)
  · obtain ⟨a, ns, rfl, _⟩ := h; rfl
  · obtain ⟨a, ns, rfl, hS, hl, kq⟩ := h
    have hu : _ < cLine := Nat.lt_of_succ_lt (hu_of hr)
    have Th := throws_none (X := (cxOf CX0 true P w K mg base ["_law_script", "_law_many", "_law_wide", "_law_disk", "_law_state", "_law_twin", "_law_far", "_law_deeds_here", "_law_k", "_law_deed", "_law_other", "_law_before", "_law_due_here", "_law_late"] "law" (defScope s_law) f cdv Ar outer s H E).nox)
    refine ⟨_, (W.h (w_pss_cons (w_ps_asg (w_pe_g G__law_sizes hr rfl (w_pa_p (w_pv 0) w_pa_nil)) (w_pg_tupA (n := 2) (w_pgs_cons (w_pg_name (i := 1) sc_law.nd rfl (Or.inl rfl)) (w_pgs_cons (w_pg_name (i := 2) sc_law.nd rfl (Or.inl rfl)) w_pgs_nil))))
      (w_pss_cons (w_ps_set (i := 3) sc_law.nd rfl (Or.inl rfl) (w_pe_cX Th G_Disk hr rfl (w_pa_p (w_pv 1) (w_pa_p (w_pv 2) w_pa_nil))))
      (w_pss_cons (w_ps_set (i := 4) sc_law.nd rfl (Or.inl rfl) (w_pe_lstA (w_pa_p (w_pe_lc (fun _ => rfl) (LcOk.of lc_law_0) (w_pi_range1p rfl T.n_range (w_pa_p (w_pv 1) w_pa_nil)) (fun _ _ _ _ _ => (w_pg_name (i := 0) lcn_law_0 rfl (Or.inl rfl))) (fun _ _ _ _ _ => w_pts_nil) (fun _ _ _ _ _ => (w_pe_lstA w_pa_nil))) (w_pa_p (w_pe_lstA (w_pa_p w_pe_non (w_pa_p w_pe_non w_pa_nil))) (w_pa_p w_pe_int (w_pa_p w_pe_non (w_pa_p w_pe_bl w_pa_nil)))))))
      (w_pss_cons (w_ps_set (i := 5) sc_law.nd rfl (Or.inl rfl) (w_pe_cX Th G_Disk hr rfl (w_pa_p (w_pv 1) (w_pa_p (w_pv 2) w_pa_nil))))
      (w_pss_cons (w_ps_set (i := 6) sc_law.nd rfl (Or.inl rfl) (w_pe_lstA (w_pa_p (w_pe_lc (fun _ => rfl) (LcOk.of lc_law_1) (w_pi_range1p rfl T.n_range (w_pa_p (w_pv 1) w_pa_nil)) (fun _ _ _ _ _ => (w_pg_name (i := 0) lcn_law_1 rfl (Or.inl rfl))) (fun _ _ _ _ _ => w_pts_nil) (fun _ _ _ _ _ => (w_pe_lstA w_pa_nil))) (w_pa_p (w_pe_lstA (w_pa_p w_pe_non (w_pa_p w_pe_non w_pa_nil))) (w_pa_p w_pe_int (w_pa_p w_pe_non (w_pa_p w_pe_bl w_pa_nil)))))))
      (w_pss_cons (w_ps_set (i := 7) sc_law.nd rfl (Or.inl rfl) (w_pe_g G__law_deeds hr rfl (w_pa_p (w_pv 0) (w_pa_p (w_pv 1) w_pa_nil))))
      (w_pss_cons (w_ps_if (w_pt_not (w_pt_tru (w_pe_g G__law_like hr rfl (w_pa_p (w_pv 3) (w_pa_p (w_pv 4) (w_pa_p (w_pv 1) (w_pa_p (w_pv 2) w_pa_nil)))))))
      (w_pss_one (w_ps_ret w_pe_bl))
      w_pss_nil)
      (w_pss_cons (w_ps_for PassesOwn.never (fun _ => rfl) (w_pi_enumL rfl T.n_enumerate (w_pa_p (w_pv 7) w_pa_nil)) (w_pg_tupA (n := 2) (w_pgs_cons (w_pg_name (i := 8) sc_law.nd rfl (Or.inl rfl)) (w_pgs_cons (w_pg_name (i := 9) sc_law.nd rfl (Or.inl rfl)) w_pgs_nil)))
      (w_pss_cons (w_ps_if (w_pt_cmpR (op_eqU hu) (w_pv 8) (w_pe_op op_fdiv (w_pe_callBp call_lenU rfl T.n_len PySem.boot_len (w_pa_p (w_pv 7) w_pa_nil)) w_pe_int) (nomark _))
      (w_pss_cons (w_ps_set (i := 10) sc_law.nd rfl (Or.inl rfl) (w_pe_m0 (w_pv 3) T.cl_Disk M_Disk_copied hr))
      (w_pss_one (w_ps_set (i := 11) sc_law.nd rfl (Or.inl rfl) (w_pe_lstA (w_pa_p (w_pe_lc (fun _ => rfl) (LcOk.of lc_law_2) (w_pi_list (w_pe_ix ix_U (w_pv 4) w_pe_int (fun _ _ => rfl))) (fun _ _ _ _ _ => (w_pg_name (i := 0) lcn_law_2 rfl (Or.inl rfl))) (fun _ _ _ _ _ => w_pts_nil) (fun _ _ _ _ _ => (w_pe_callTyp call_listU rfl T.n_list boot_list (w_pa_p (w_pv 0) w_pa_nil)))) (w_pa_p (w_pe_callTyp call_listU rfl T.n_list boot_list (w_pa_p (w_pe_ix ix_U (w_pv 4) w_pe_int (fun _ _ => rfl)) w_pa_nil)) (w_pa_p (w_pe_ix ix_U (w_pv 4) w_pe_int (fun _ _ => rfl)) (w_pa_p w_pe_non (w_pa_p w_pe_bl w_pa_nil)))))))))
      w_pss_nil)
      (w_pss_cons (w_ps_set (i := 12) sc_law.nd rfl (Or.inl rfl) (w_pe_g G__law_due hr rfl (w_pa_p (w_pv 4) (w_pa_p (w_pv 2) (w_pa_p (w_pv 9) w_pa_nil)))))
      (w_pss_cons (w_ps_if (w_pt (w_pw_or (w_pt_cmpR (op_neU hu) (w_pe_g G__law_done hr rfl (w_pa_p (w_pv 3) (w_pa_p (w_pv 9) w_pa_nil))) (w_pv 12) (nomark _)) (w_pw_or1 (w_pt_not (w_pt_tru (w_pe_g G__law_like hr rfl (w_pa_p (w_pv 3) (w_pa_p (w_pv 4) (w_pa_p (w_pv 1) (w_pa_p (w_pv 2) w_pa_nil))))))))))
      (w_pss_one (w_ps_ret w_pe_bl))
      w_pss_nil)
      (w_pss_cons (w_ps_set (i := 13) sc_law.nd rfl (Or.inl rfl) (w_pe_ix ix_U (w_pv 7) (w_pe_op op_sub (w_pv 8) w_pe_int) (fun _ _ => rfl)))
      (w_pss_one (w_ps_if (w_pt (w_pw_or (w_pt_cmpR (op_neU hu) (w_pe_g G__law_done hr rfl (w_pa_p (w_pv 5) (w_pa_p (w_pv 13) w_pa_nil))) (w_pe_g G__law_due hr rfl (w_pa_p (w_pv 6) (w_pa_p (w_pv 2) (w_pa_p (w_pv 13) w_pa_nil)))) (nomark _)) (w_pw_or1 (w_pt_not (w_pt_tru (w_pe_g G__law_like hr rfl (w_pa_p (w_pv 5) (w_pa_p (w_pv 6) (w_pa_p (w_pv 1) (w_pa_p (w_pv 2) w_pa_nil))))))))))
      (w_pss_one (w_ps_ret w_pe_bl))
      w_pss_nil)))))))
      (w_pss_cons (w_ps_if (w_pt_not (w_pt_tru (w_pe_g G__law_like hr rfl (w_pa_p (w_pv 10) (w_pa_p (w_pv 11) (w_pa_p (w_pv 1) (w_pa_p (w_pv 2) w_pa_nil)))))))
      (w_pss_one (w_ps_ret w_pe_bl))
      w_pss_nil)
      (w_pss_cons (w_ps_for PassesOwn.never (fun _ => rfl) (w_pi_list (w_pe_rev (w_pv 7))) (w_pg_name (i := 9) sc_law.nd rfl (Or.inl rfl))
      (w_pss_one (w_ps_if (w_pt_cmpR (op_neU hu) (w_pe_g G__law_done hr rfl (w_pa_p (w_pv 10) (w_pa_p (w_pv 9) w_pa_nil))) (w_pe_g G__law_due hr rfl (w_pa_p (w_pv 11) (w_pa_p (w_pv 2) (w_pa_p (w_pv 9) w_pa_nil)))) (nomark _))
      (w_pss_one (w_ps_ret w_pe_bl))
      w_pss_nil)))
      (w_pss_cons (w_ps_if (w_pt_not (w_pt_tru (w_pe_g G__law_like hr rfl (w_pa_p (w_pv 5) (w_pa_p (w_pv 6) (w_pa_p (w_pv 1) (w_pa_p (w_pv 2) w_pa_nil)))))))
      (w_pss_one (w_ps_ret w_pe_bl))
      w_pss_nil)
      (w_pss_one (w_ps_ret (w_pe_and (w_pe_g G__law_like hr rfl (w_pa_p (w_pv 3) (w_pa_p (w_pv 4) (w_pa_p (w_pv 1) (w_pa_p (w_pv 2) w_pa_nil))))) (w_pe_one (w_pe_g G__law_like hr rfl (w_pa_p (w_pv 10) (w_pa_p (w_pv 11) (w_pa_p (w_pv 1) (w_pa_p (w_pv 2) w_pa_nil))))))))))))))))))))), ?_⟩
    simp_all only []
    refine ⟨a, ns, rfl, hS, fun t n m H1 s1 f1 e1 n0 n1 m0 m1 => ?_⟩
    refine ⟨t, _, rfl, SqT.of e1, rfl, ?_⟩
    simp_all only []
    intro p1 dx1 H2 i2
    refine ⟨p1, dx1, n, m, rfl, i2.at_, n0, n1, m0, m1, fun wl sl cells H3 D3 kp3 fr3 => ⟨rfl, by omega, by omega, comp_rows n1 fun rl cells2 H4 s4 R4 nd4 fr4 => ⟨by decide, fun sl2 H5 n5 _ => ⟨by decide, fun q1 H6 n6 _ => ?_⟩⟩⟩⟩
    obtain ⟨S6, fr6⟩ := st_mk (d := DM.new n.toNat) s4 R4 nd4 fr4 n5 n6
    have s13 : Same H1 H3 := fun b o e => kp3 b o (i2.same b o e) (ne_of_none e i2.no)
    obtain ⟨F1, W6, fF1⟩ := two_mk (H := H1) (H1 := H1) D3 (s4.trans (n5.same.trans n6.same)) S6 fr6 s13 (fun x hx => by
      rcases List.mem_cons.mp hx with rfl | hx
      · exact i2.no
      · exact i2.same.free (fr3 x hx))
    have s16 : Same H1 H6 := s13.trans (s4.trans (n5.same.trans n6.same))
    intro p2 dx2 H7 i7
    refine ⟨p2, dx2, n, m, rfl, i7.at_, n0, n1, m0, m1, fun wl' sl' cells' H8 D8 kp8 fr8 => ⟨rfl, by omega, by omega, comp_rows n1 fun rl' cells2' H9 s9 R9 nd9 fr9 => ⟨by decide, fun sl2' H10 n10 _ => ⟨by decide, fun q2 H11 n11 _ => ?_⟩⟩⟩⟩
    obtain ⟨S11, fr11⟩ := st_mk (d := DM.new n.toNat) s9 R9 nd9 fr9 n10 n11
    have s68 : Same H6 H8 := fun b o e => kp8 b o (i7.same b o e) (ne_of_none e i7.no)
    obtain ⟨F2, W11, fF2⟩ := two_mk (H := H6) (H1 := H6) D8 (s9.trans (n10.same.trans n11.same)) S11 fr11 s68 (fun x hx => by
      rcases List.mem_cons.mp hx with rfl | hx
      · exact i7.no
      · exact i7.same.free (fr8 x hx))
    have dj12 : Disj F1 F2 := disj_fresh (H' := H6) W6 fF2
    have s611 : Same H6 H11 := s68.trans (s9.trans (n10.same.trans n11.same))
    have V11 := W6.same s611
    have okN := ok_new n0 n1 m0 m1
    refine ⟨a, ns, n, rfl, (s1.trans (s16.trans s611)).seq hS, n0, n1, fun l gs H12 s12 f12 e12 l7 l40 dg fg lg => ?_⟩
    have fG : ∀ x ∈ l :: gs, H11 x = none := fun x hx => by
      rcases List.mem_cons.mp hx with rfl | hx
      · exact f12
      · exact fg x hx
    have dG1 : Disj F1 (l :: gs) := disj_fresh (H' := H11) V11 fG
    have dG2 : Disj F2 (l :: gs) := disj_fresh (H' := H11) W11 fG
    refine two_like (V11.same s12) okN fun H13 s13' => ?_
    simp_all only []
    have s1113 := s12.trans s13'
    have X1 := V11.same s1113
    have X2 := W11.same s1113
    have e13 := s13' _ _ e12
    have dg13 : ∀ g ∈ gs, DeedAt H13 n g := fun g hg => (dg g hg).same s13'
    refine ⟨⟨_, SqL.of e13⟩, ?_⟩
    refine ForJ.enum (xs := gs.map V.ref) (LInv A n m a p1 q1 p2 q2 l F1 F2 gs) ⟨⟨_, _, _, _, _, _, rfl, fun hh => absurd hh (Nat.not_lt_zero _)⟩, ⟨⟨_, X1, okN⟩, ⟨_, X2, okN⟩, e13, dg13, dj12, dG1, dG2⟩⟩ (fun i σ H' _ I => SqL.of I.wd.atl) ?_ ?_
    · rintro i x p σ H' hx I hp
      obtain ⟨x8, x9, x10, x11, x12, x13, rfl, hT⟩ := I.ex
      rw [List.getElem?_map] at hx
      obtain ⟨g, hgi, rfl⟩ := Option.map_eq_some_iff.mp hx
      have hgm := List.mem_of_getElem? hgi
      have hil : i < gs.length := (List.getElem?_eq_some_iff.mp hgi).1
      refine ⟨p, _, rfl, SqT.of upd_same, rfl, ?_⟩
      have nw : New H' p (.tup [.int i, .ref g]) (upd H' p (.tup [.int i, .ref g])) := .mk' hp
      generalize upd H' p (.tup [.int i, .ref g]) = H0 at nw ⊢
      have W00 := I.wd.same nw.same
      simp_all only [W00.atl, List.length_map]
      refine ⟨⟨by decide, by decide⟩, ?_⟩
      refine ite2 (fun hh => ?_) (fun hh => ?_)
      · have hih : (i : Int) = (gs.length : Int) / 2 := of_decide_eq_true hh
        obtain ⟨d0, w0, od0⟩ := W00.one
        obtain ⟨wlx, slx, rlx, sl2x, cellsx, cells2x, D0, S0, dj0, hF0⟩ := w0.ex
        obtain ⟨dx0, hd0⟩ := D0.ob
        have := od0.fit.len
        simp_all only [hd0, fl_copied]
        refine ⟨p1, wlx, slx, cellsx, m, d0, rfl, D0, by omega, by omega, m0, m1, fun p' wl' sl' cells' Hx Dx sx frx => ?_⟩
        have Sx := S0.same sx
        simp_all only [Sx.ob, at0, Sx.rows.w]
        refine ⟨⟨_, SqL.of Sx.rows.w⟩, comp_copy Sx.rows (by omega) fun r' cs Hy sy Ry ndy fry => ?_⟩
        have Sy := Sx.same sy
        simp_all only [Sy.ob, at1, Sy.sides]
        intro sn Hz nz
        have Sz := Sy.same nz.same
        simp_all only [Sz.ob, at2]
        refine ⟨by decide, fun b Hw nb _ => ?_⟩
        obtain ⟨Sb, frb⟩ := st_mk (d := d0.copy) sy Ry ndy fry nz nb
        have sw : Same H0 Hw := sx.trans (sy.trans (nz.same.trans nb.same))
        obtain ⟨F3, w3, fF3⟩ := two_mk (H := H0) (H1 := H0) Dx (sy.trans (nz.same.trans nb.same)) Sb frb sx frx
        have W0 := W00.same sw
        obtain ⟨e0, v0, oe0⟩ := W00.two
        have T0 : gs.length / 2 < i + 1 → ∃ o b' F3, some (V.ref p') = some (V.ref o) ∧ some (V.ref b) = some (V.ref b') ∧ Wt A n m l F1 F2 gs o b' F3 Hw := fun _ => ⟨p', b, F3, rfl, rfl, ⟨_, w3, od0.copy⟩, disj_fresh (H' := H0) w0 fF3, disj_fresh (H' := H0) v0 fF3, fun x hx hy => by
          have hz := fF3 x hx
          rcases List.mem_cons.mp hy with rfl | hy
          · rw [W00.atl] at hz; cases hz
          · obtain ⟨_, _, _, ee, _⟩ := (W00.ded x hy).ex
            rw [ee] at hz; cases hz⟩
        obtain ⟨way, k, t, eg, hk, ht⟩ := (W0.ded g hgm).ex
        obtain ⟨d, w1, od⟩ := W0.one
        refine two_due w1 (od.deedOk eg hk ht) fun Ha wa ka => ?_
        have ega := ka _ _ eg (fun z => W0.d1 g z (by simp [hgm]))
        refine two_done wa (od.deedOk ega hk ht) fun Hb wb kb => ?_
        rw [uEq_same res_scal]
        simp_all only []
        refine two_like wb od.deed fun Hc sc => ?_
        simp_all only []
        have Wc := (W0.op1 (ka.trans kb) wb od.deed).same sc
        obtain ⟨v2, hv2, hm2⟩ := atI_any (xs := gs.map V.ref) (i := (i : Int) - 2) (by rw [List.length_map]; omega) (by rw [List.length_map]; omega)
        obtain ⟨g2, hg2, rfl⟩ := List.mem_map.mp hm2
        simp_all only [Wc.atl, hv2]
        obtain ⟨way2, k2, t2, eg2, hk2, ht2⟩ := (Wc.ded g2 hg2).ex
        obtain ⟨e, w2, oe⟩ := Wc.two
        refine two_done w2 (oe.deedOk eg2 hk2 ht2) fun Hd wd kd => ?_
        have egd := kd _ _ eg2 (fun z => Wc.d2 g2 z (by simp [hg2]))
        refine two_due wd (oe.deedOk egd hk2 ht2) fun He we ke => ?_
        rw [uEq_same res_scal]
        simp_all only []
        refine two_like we oe.deed fun Hf sf => ?_
        simp_all only []
        exact ⟨⟨_, _, _, _, _, _, rfl, fun hh => by
          obtain ⟨o, b, F3, e1, e2, wt⟩ := T0 hh
          exact ⟨o, b, F3, e1, e2, (((wt.op1 (ka.trans kb)).same sc).op2 (kd.trans ke)).same sf⟩⟩, (Wc.op2 (kd.trans ke) we oe.deed).same sf⟩
      · have hih : i ≠ gs.length / 2 := fun z => hh (decide_eq_true (by omega))
        have W0 := W00
        have T0 : gs.length / 2 < i + 1 → ∃ o b F3, x10 = some (V.ref o) ∧ x11 = some (V.ref b) ∧ Wt A n m l F1 F2 gs o b F3 H0 := fun h => by
          obtain ⟨o, b, F3, e1, e2, wt⟩ := hT (by omega)
          exact ⟨o, b, F3, e1, e2, wt.same nw.same⟩
        obtain ⟨way, k, t, eg, hk, ht⟩ := (W0.ded g hgm).ex
        obtain ⟨d, w1, od⟩ := W0.one
        refine two_due w1 (od.deedOk eg hk ht) fun Ha wa ka => ?_
        have ega := ka _ _ eg (fun z => W0.d1 g z (by simp [hgm]))
        refine two_done wa (od.deedOk ega hk ht) fun Hb wb kb => ?_
        rw [uEq_same res_scal]
        simp_all only []
        refine two_like wb od.deed fun Hc sc => ?_
        simp_all only []
        have Wc := (W0.op1 (ka.trans kb) wb od.deed).same sc
        obtain ⟨v2, hv2, hm2⟩ := atI_any (xs := gs.map V.ref) (i := (i : Int) - 2) (by rw [List.length_map]; omega) (by rw [List.length_map]; omega)
        obtain ⟨g2, hg2, rfl⟩ := List.mem_map.mp hm2
        simp_all only [Wc.atl, hv2]
        obtain ⟨way2, k2, t2, eg2, hk2, ht2⟩ := (Wc.ded g2 hg2).ex
        obtain ⟨e, w2, oe⟩ := Wc.two
        refine two_done w2 (oe.deedOk eg2 hk2 ht2) fun Hd wd kd => ?_
        have egd := kd _ _ eg2 (fun z => Wc.d2 g2 z (by simp [hg2]))
        refine two_due wd (oe.deedOk egd hk2 ht2) fun He we ke => ?_
        rw [uEq_same res_scal]
        simp_all only []
        refine two_like we oe.deed fun Hf sf => ?_
        simp_all only []
        exact ⟨⟨_, _, _, _, _, _, rfl, fun hh => by
          obtain ⟨o, b, F3, e1, e2, wt⟩ := T0 hh
          exact ⟨o, b, F3, e1, e2, (((wt.op1 (ka.trans kb)).same sc).op2 (kd.trans ke)).same sf⟩⟩, (Wc.op2 (kd.trans ke) we oe.deed).same sf⟩
    · rintro σ H' I
      obtain ⟨x8, x9, x10, x11, x12, x13, rfl, hT⟩ := I.ex
      rw [List.length_map] at hT
      obtain ⟨o, b, F3, rfl, rfl, wt⟩ := hT (by omega)
      simp_all only []
      obtain ⟨c0, w3, o3⟩ := wt.three
      refine two_like w3 o3 fun Ha sa => ?_
      have Wa := I.wd.same sa
      simp_all only [Wa.atl]
      intro ys hys hyl r Hb nb
      have rF3 : r ∉ F3 := fun z => by
        obtain ⟨o', ho'⟩ := w3.alloc r z
        exact ne_of_none (sa _ _ ho') nb.no rfl
      refine ⟨⟨_, SqL.of nb.at_⟩, ForJ.lst (xs := ys) (RInv A n m a p1 q1 p2 q2 l o b F1 F2 F3 gs r ys) ⟨⟨_, _, _, _, rfl⟩, Wa.same nb.same, (wt.same sa).same nb.same, nb.at_⟩ (fun i σ H' _ J => SqL.of J.r) ?_ ?_⟩
      · rintro i x σ Hc hx J
        obtain ⟨x8, x9, x12, x13, rfl⟩ := J.ex
        have hxm := hys x (List.mem_of_getElem? hx)
        obtain ⟨g, hgm, rfl⟩ := List.mem_map.mp hxm
        simp_all only []
        obtain ⟨way, k, t, eg, hk, ht⟩ := (J.wd.ded g hgm).ex
        obtain ⟨c, w4, oc⟩ := J.wt.three
        refine two_done w4 (oc.deedOk eg hk ht) fun Hd wd kd => ?_
        have egd := kd _ _ eg (fun z => J.wt.d3 g z (by simp [hgm]))
        refine two_due wd (oc.deedOk egd hk ht) fun He we ke => ?_
        rw [uEq_same res_scal]
        simp_all only []
        exact ⟨⟨_, _, _, _, rfl⟩, J.wd.op3 (kd.trans ke) J.wt.d1 J.wt.d2 J.wt.d3, ⟨⟨_, we, oc.deed⟩, J.wt.d1, J.wt.d2, J.wt.d3⟩, ke _ _ (kd _ _ J.r rF3) rF3⟩
      · rintro σ Hc J
        obtain ⟨x8, x9, x12, x13, rfl⟩ := J.ex
        simp_all only []
        obtain ⟨e, w2, oe⟩ := J.wd.two
        refine two_like w2 oe fun Hd sd => ?_
        simp_all only []
        obtain ⟨d, w1, od⟩ := J.wd.one
        refine two_like (w1.same sd) od fun He se => ?_
        simp_all only []
        obtain ⟨c, w4, oc⟩ := J.wt.three
        refine two_like ((w4.same sd).same se) oc fun Hf sf => ?_
        exact kq _
end
theorem all_mk {l : PySem.W.OpenLaw} {w : World} {K : PySem.W.Frag} {h : Heap} {mg : Str → Option Value} {fa : Addr} {a_CleanError : Addr} {a_NoRow : Addr} {a_NoDisk : Addr} {a_Full : Addr} {a_Stopped : Addr} {a_NoFile : Addr} {a_NoPlace : Addr} {a_HeldAlready : Addr} {a_NotHeld : Addr} {a_NoFiles : Addr} {a_NoMark : Addr} {a_NoRoom : Addr} {a_Gone : Addr} {a_NotClosed : Addr} {a_NotBlank : Addr} {a_NoDeed : Addr} {a_NoHouse : Addr} {a_Disk : Addr} {f_is_whole : Addr} {od_is_whole an_is_whole : Option Addr} {sl_is_whole : Array (Option Value)} {oc_is_whole kV_is_whole dc_is_whole pm_is_whole cd_is_whole ct_is_whole : Value} {f_is_within : Addr} {od_is_within an_is_within : Option Addr} {sl_is_within : Array (Option Value)} {oc_is_within kV_is_within dc_is_within pm_is_within cd_is_within ct_is_within : Value} {f_Disk___init__ : Addr} {od_Disk___init__ an_Disk___init__ : Option Addr} {sl_Disk___init__ : Array (Option Value)} {oc_Disk___init__ kV_Disk___init__ dc_Disk___init__ pm_Disk___init__ cd_Disk___init__ ct_Disk___init__ : Value} {f_Disk_stretches : Addr} {od_Disk_stretches an_Disk_stretches : Option Addr} {sl_Disk_stretches : Array (Option Value)} {oc_Disk_stretches kV_Disk_stretches dc_Disk_stretches pm_Disk_stretches cd_Disk_stretches ct_Disk_stretches : Value} {f_Disk_places : Addr} {od_Disk_places an_Disk_places : Option Addr} {sl_Disk_places : Array (Option Value)} {oc_Disk_places kV_Disk_places dc_Disk_places pm_Disk_places cd_Disk_places ct_Disk_places : Value} {f_Disk_next_place : Addr} {od_Disk_next_place an_Disk_next_place : Option Addr} {sl_Disk_next_place : Array (Option Value)} {oc_Disk_next_place kV_Disk_next_place dc_Disk_next_place pm_Disk_next_place cd_Disk_next_place ct_Disk_next_place : Value} {f_Disk_told : Addr} {od_Disk_told an_Disk_told : Option Addr} {sl_Disk_told : Array (Option Value)} {oc_Disk_told kV_Disk_told dc_Disk_told pm_Disk_told cd_Disk_told ct_Disk_told : Value} {f_Disk_side : Addr} {od_Disk_side an_Disk_side : Option Addr} {sl_Disk_side : Array (Option Value)} {oc_Disk_side kV_Disk_side dc_Disk_side pm_Disk_side cd_Disk_side ct_Disk_side : Value} {f_Disk_signs : Addr} {od_Disk_signs an_Disk_signs : Option Addr} {sl_Disk_signs : Array (Option Value)} {oc_Disk_signs kV_Disk_signs dc_Disk_signs pm_Disk_signs cd_Disk_signs ct_Disk_signs : Value} {f_Disk_write : Addr} {od_Disk_write an_Disk_write : Option Addr} {sl_Disk_write : Array (Option Value)} {oc_Disk_write kV_Disk_write dc_Disk_write pm_Disk_write cd_Disk_write ct_Disk_write : Value} {f_Disk_put_side : Addr} {od_Disk_put_side an_Disk_put_side : Option Addr} {sl_Disk_put_side : Array (Option Value)} {oc_Disk_put_side kV_Disk_put_side dc_Disk_put_side pm_Disk_put_side cd_Disk_put_side ct_Disk_put_side : Value} {f_Disk_empty : Addr} {od_Disk_empty an_Disk_empty : Option Addr} {sl_Disk_empty : Array (Option Value)} {oc_Disk_empty kV_Disk_empty dc_Disk_empty pm_Disk_empty cd_Disk_empty ct_Disk_empty : Value} {f_Disk_copied : Addr} {od_Disk_copied an_Disk_copied : Option Addr} {sl_Disk_copied : Array (Option Value)} {oc_Disk_copied kV_Disk_copied dc_Disk_copied pm_Disk_copied cd_Disk_copied ct_Disk_copied : Value} {f_Disk_refuse_if_stopped : Addr} {od_Disk_refuse_if_stopped an_Disk_refuse_if_stopped : Option Addr} {sl_Disk_refuse_if_stopped : Array (Option Value)} {oc_Disk_refuse_if_stopped kV_Disk_refuse_if_stopped dc_Disk_refuse_if_stopped pm_Disk_refuse_if_stopped cd_Disk_refuse_if_stopped ct_Disk_refuse_if_stopped : Value} {f_Disk_spend : Addr} {od_Disk_spend an_Disk_spend : Option Addr} {sl_Disk_spend : Array (Option Value)} {oc_Disk_spend kV_Disk_spend dc_Disk_spend pm_Disk_spend cd_Disk_spend ct_Disk_spend : Value} {f_Disk_first_signs : Addr} {od_Disk_first_signs an_Disk_first_signs : Option Addr} {sl_Disk_first_signs : Array (Option Value)} {oc_Disk_first_signs kV_Disk_first_signs dc_Disk_first_signs pm_Disk_first_signs cd_Disk_first_signs ct_Disk_first_signs : Value} {f__law_at : Addr} {od__law_at an__law_at : Option Addr} {sl__law_at : Array (Option Value)} {oc__law_at kV__law_at dc__law_at pm__law_at cd__law_at ct__law_at : Value} {f__law_mixed : Addr} {od__law_mixed an__law_mixed : Option Addr} {sl__law_mixed : Array (Option Value)} {oc__law_mixed kV__law_mixed dc__law_mixed pm__law_mixed cd__law_mixed ct__law_mixed : Value} {f__law_row : Addr} {od__law_row an__law_row : Option Addr} {sl__law_row : Array (Option Value)} {oc__law_row kV__law_row dc__law_row pm__law_row cd__law_row ct__law_row : Value} {f__law_sizes : Addr} {od__law_sizes an__law_sizes : Option Addr} {sl__law_sizes : Array (Option Value)} {oc__law_sizes kV__law_sizes dc__law_sizes pm__law_sizes cd__law_sizes ct__law_sizes : Value} {f__law_signs : Addr} {od__law_signs an__law_signs : Option Addr} {sl__law_signs : Array (Option Value)} {oc__law_signs kV__law_signs dc__law_signs pm__law_signs cd__law_signs ct__law_signs : Value} {f__law_deeds : Addr} {od__law_deeds an__law_deeds : Option Addr} {sl__law_deeds : Array (Option Value)} {oc__law_deeds kV__law_deeds dc__law_deeds pm__law_deeds cd__law_deeds ct__law_deeds : Value} {f__law_spent : Addr} {od__law_spent an__law_spent : Option Addr} {sl__law_spent : Array (Option Value)} {oc__law_spent kV__law_spent dc__law_spent pm__law_spent cd__law_spent ct__law_spent : Value} {f__law_wrote : Addr} {od__law_wrote an__law_wrote : Option Addr} {sl__law_wrote : Array (Option Value)} {oc__law_wrote kV__law_wrote dc__law_wrote pm__law_wrote cd__law_wrote ct__law_wrote : Value} {f__law_emptied : Addr} {od__law_emptied an__law_emptied : Option Addr} {sl__law_emptied : Array (Option Value)} {oc__law_emptied kV__law_emptied dc__law_emptied pm__law_emptied cd__law_emptied ct__law_emptied : Value} {f__law_put : Addr} {od__law_put an__law_put : Option Addr} {sl__law_put : Array (Option Value)} {oc__law_put kV__law_put dc__law_put pm__law_put cd__law_put ct__law_put : Value} {f__law_due : Addr} {od__law_due an__law_due : Option Addr} {sl__law_due : Array (Option Value)} {oc__law_due kV__law_due dc__law_due pm__law_due cd__law_due ct__law_due : Value} {f__law_kinds : Addr} {od__law_kinds an__law_kinds : Option Addr} {sl__law_kinds : Array (Option Value)} {oc__law_kinds kV__law_kinds dc__law_kinds pm__law_kinds cd__law_kinds ct__law_kinds : Value} {f__law_done : Addr} {od__law_done an__law_done : Option Addr} {sl__law_done : Array (Option Value)} {oc__law_done kV__law_done dc__law_done pm__law_done cd__law_done ct__law_done : Value} {f__law_like : Addr} {od__law_like an__law_like : Option Addr} {sl__law_like : Array (Option Value)} {oc__law_like kV__law_like dc__law_like pm__law_like cd__law_like ct__law_like : Value} {f_law : Addr} {od_law an_law : Option Addr} {sl_law : Array (Option Value)} {oc_law kV_law dc_law pm_law cd_law ct_law : Value} {t_LEAST_STRETCHES : Tok} {t_MOST_STRETCHES : Tok} {t_LEAST_PLACES : Tok} {t_MOST_PLACES : Tok} (X : K.In h) (G : h.Ns mainGlobals mg) (hfa : mg "law" = some (.ref fa))
    (c_CleanError : PySem.W.nsIn K mainGlobals "CleanError" = some (some (.ref a_CleanError)))
    (c_NoRow : PySem.W.nsIn K mainGlobals "NoRow" = some (some (.ref a_NoRow)))
    (c_NoDisk : PySem.W.nsIn K mainGlobals "NoDisk" = some (some (.ref a_NoDisk)))
    (c_Full : PySem.W.nsIn K mainGlobals "Full" = some (some (.ref a_Full)))
    (c_Stopped : PySem.W.nsIn K mainGlobals "Stopped" = some (some (.ref a_Stopped)))
    (c_NoFile : PySem.W.nsIn K mainGlobals "NoFile" = some (some (.ref a_NoFile)))
    (c_NoPlace : PySem.W.nsIn K mainGlobals "NoPlace" = some (some (.ref a_NoPlace)))
    (c_HeldAlready : PySem.W.nsIn K mainGlobals "HeldAlready" = some (some (.ref a_HeldAlready)))
    (c_NotHeld : PySem.W.nsIn K mainGlobals "NotHeld" = some (some (.ref a_NotHeld)))
    (c_NoFiles : PySem.W.nsIn K mainGlobals "NoFiles" = some (some (.ref a_NoFiles)))
    (c_NoMark : PySem.W.nsIn K mainGlobals "NoMark" = some (some (.ref a_NoMark)))
    (c_NoRoom : PySem.W.nsIn K mainGlobals "NoRoom" = some (some (.ref a_NoRoom)))
    (c_Gone : PySem.W.nsIn K mainGlobals "Gone" = some (some (.ref a_Gone)))
    (c_NotClosed : PySem.W.nsIn K mainGlobals "NotClosed" = some (some (.ref a_NotClosed)))
    (c_NotBlank : PySem.W.nsIn K mainGlobals "NotBlank" = some (some (.ref a_NotBlank)))
    (c_NoDeed : PySem.W.nsIn K mainGlobals "NoDeed" = some (some (.ref a_NoDeed)))
    (c_NoHouse : PySem.W.nsIn K mainGlobals "NoHouse" = some (some (.ref a_NoHouse)))
    (c_Disk : PySem.W.nsIn K mainGlobals "Disk" = some (some (.ref a_Disk)))
    (ais_whole : PySem.W.nsIn K mainGlobals "is_whole" = some (some (.ref f_is_whole)))
    (lis_whole : K.lookup f_is_whole = some ⟨oc_is_whole, od_is_whole, .func (PySem.W.fnOf "is_whole" "is_whole" (defArgs s_is_whole) (defBody s_is_whole) (defScope s_is_whole) .none kV_is_whole dc_is_whole pm_is_whole an_is_whole cd_is_whole ct_is_whole), sl_is_whole⟩)
    (dis_whole : PySem.W.codeIn K cd_is_whole "is_whole" = true)
    (kis_whole : PySem.W.keepIn K (.ref f_is_whole) = true)
    (ais_within : PySem.W.nsIn K mainGlobals "is_within" = some (some (.ref f_is_within)))
    (lis_within : K.lookup f_is_within = some ⟨oc_is_within, od_is_within, .func (PySem.W.fnOf "is_within" "is_within" (defArgs s_is_within) (defBody s_is_within) (defScope s_is_within) .none kV_is_within dc_is_within pm_is_within an_is_within cd_is_within ct_is_within), sl_is_within⟩)
    (dis_within : PySem.W.codeIn K cd_is_within "is_within" = true)
    (kis_within : PySem.W.keepIn K (.ref f_is_within) = true)
    (aDisk___init__ : PySem.W.findIn K (.ref a_Disk) "__init__" = some (some (.ref f_Disk___init__)))
    (iDisk___init__ : PySem.W.isFn K (.ref f_Disk___init__) = true)
    (lDisk___init__ : K.lookup f_Disk___init__ = some ⟨oc_Disk___init__, od_Disk___init__, .func (PySem.W.fnOf "__init__" "Disk.__init__" (defArgs s_Disk___init__) (defBody s_Disk___init__) (defScope s_Disk___init__) .none kV_Disk___init__ dc_Disk___init__ pm_Disk___init__ an_Disk___init__ cd_Disk___init__ ct_Disk___init__), sl_Disk___init__⟩)
    (dDisk___init__ : PySem.W.codeIn K cd_Disk___init__ "Disk.__init__" = true)
    (kDisk___init__ : PySem.W.keepIn K (.ref f_Disk___init__) = true)
    (aDisk_stretches : PySem.W.findIn K (.ref a_Disk) "stretches" = some (some (.ref f_Disk_stretches)))
    (iDisk_stretches : PySem.W.isFn K (.ref f_Disk_stretches) = true)
    (lDisk_stretches : K.lookup f_Disk_stretches = some ⟨oc_Disk_stretches, od_Disk_stretches, .func (PySem.W.fnOf "stretches" "Disk.stretches" (defArgs s_Disk_stretches) (defBody s_Disk_stretches) (defScope s_Disk_stretches) .none kV_Disk_stretches dc_Disk_stretches pm_Disk_stretches an_Disk_stretches cd_Disk_stretches ct_Disk_stretches), sl_Disk_stretches⟩)
    (dDisk_stretches : PySem.W.codeIn K cd_Disk_stretches "Disk.stretches" = true)
    (kDisk_stretches : PySem.W.keepIn K (.ref f_Disk_stretches) = true)
    (aDisk_places : PySem.W.findIn K (.ref a_Disk) "places" = some (some (.ref f_Disk_places)))
    (iDisk_places : PySem.W.isFn K (.ref f_Disk_places) = true)
    (lDisk_places : K.lookup f_Disk_places = some ⟨oc_Disk_places, od_Disk_places, .func (PySem.W.fnOf "places" "Disk.places" (defArgs s_Disk_places) (defBody s_Disk_places) (defScope s_Disk_places) .none kV_Disk_places dc_Disk_places pm_Disk_places an_Disk_places cd_Disk_places ct_Disk_places), sl_Disk_places⟩)
    (dDisk_places : PySem.W.codeIn K cd_Disk_places "Disk.places" = true)
    (kDisk_places : PySem.W.keepIn K (.ref f_Disk_places) = true)
    (aDisk_next_place : PySem.W.findIn K (.ref a_Disk) "next_place" = some (some (.ref f_Disk_next_place)))
    (iDisk_next_place : PySem.W.isFn K (.ref f_Disk_next_place) = true)
    (lDisk_next_place : K.lookup f_Disk_next_place = some ⟨oc_Disk_next_place, od_Disk_next_place, .func (PySem.W.fnOf "next_place" "Disk.next_place" (defArgs s_Disk_next_place) (defBody s_Disk_next_place) (defScope s_Disk_next_place) .none kV_Disk_next_place dc_Disk_next_place pm_Disk_next_place an_Disk_next_place cd_Disk_next_place ct_Disk_next_place), sl_Disk_next_place⟩)
    (dDisk_next_place : PySem.W.codeIn K cd_Disk_next_place "Disk.next_place" = true)
    (kDisk_next_place : PySem.W.keepIn K (.ref f_Disk_next_place) = true)
    (aDisk_told : PySem.W.findIn K (.ref a_Disk) "told" = some (some (.ref f_Disk_told)))
    (iDisk_told : PySem.W.isFn K (.ref f_Disk_told) = true)
    (lDisk_told : K.lookup f_Disk_told = some ⟨oc_Disk_told, od_Disk_told, .func (PySem.W.fnOf "told" "Disk.told" (defArgs s_Disk_told) (defBody s_Disk_told) (defScope s_Disk_told) .none kV_Disk_told dc_Disk_told pm_Disk_told an_Disk_told cd_Disk_told ct_Disk_told), sl_Disk_told⟩)
    (dDisk_told : PySem.W.codeIn K cd_Disk_told "Disk.told" = true)
    (kDisk_told : PySem.W.keepIn K (.ref f_Disk_told) = true)
    (aDisk_side : PySem.W.findIn K (.ref a_Disk) "side" = some (some (.ref f_Disk_side)))
    (iDisk_side : PySem.W.isFn K (.ref f_Disk_side) = true)
    (lDisk_side : K.lookup f_Disk_side = some ⟨oc_Disk_side, od_Disk_side, .func (PySem.W.fnOf "side" "Disk.side" (defArgs s_Disk_side) (defBody s_Disk_side) (defScope s_Disk_side) .none kV_Disk_side dc_Disk_side pm_Disk_side an_Disk_side cd_Disk_side ct_Disk_side), sl_Disk_side⟩)
    (dDisk_side : PySem.W.codeIn K cd_Disk_side "Disk.side" = true)
    (kDisk_side : PySem.W.keepIn K (.ref f_Disk_side) = true)
    (aDisk_signs : PySem.W.findIn K (.ref a_Disk) "signs" = some (some (.ref f_Disk_signs)))
    (iDisk_signs : PySem.W.isFn K (.ref f_Disk_signs) = true)
    (lDisk_signs : K.lookup f_Disk_signs = some ⟨oc_Disk_signs, od_Disk_signs, .func (PySem.W.fnOf "signs" "Disk.signs" (defArgs s_Disk_signs) (defBody s_Disk_signs) (defScope s_Disk_signs) .none kV_Disk_signs dc_Disk_signs pm_Disk_signs an_Disk_signs cd_Disk_signs ct_Disk_signs), sl_Disk_signs⟩)
    (dDisk_signs : PySem.W.codeIn K cd_Disk_signs "Disk.signs" = true)
    (kDisk_signs : PySem.W.keepIn K (.ref f_Disk_signs) = true)
    (aDisk_write : PySem.W.findIn K (.ref a_Disk) "write" = some (some (.ref f_Disk_write)))
    (iDisk_write : PySem.W.isFn K (.ref f_Disk_write) = true)
    (lDisk_write : K.lookup f_Disk_write = some ⟨oc_Disk_write, od_Disk_write, .func (PySem.W.fnOf "write" "Disk.write" (defArgs s_Disk_write) (defBody s_Disk_write) (defScope s_Disk_write) .none kV_Disk_write dc_Disk_write pm_Disk_write an_Disk_write cd_Disk_write ct_Disk_write), sl_Disk_write⟩)
    (dDisk_write : PySem.W.codeIn K cd_Disk_write "Disk.write" = true)
    (kDisk_write : PySem.W.keepIn K (.ref f_Disk_write) = true)
    (aDisk_put_side : PySem.W.findIn K (.ref a_Disk) "put_side" = some (some (.ref f_Disk_put_side)))
    (iDisk_put_side : PySem.W.isFn K (.ref f_Disk_put_side) = true)
    (lDisk_put_side : K.lookup f_Disk_put_side = some ⟨oc_Disk_put_side, od_Disk_put_side, .func (PySem.W.fnOf "put_side" "Disk.put_side" (defArgs s_Disk_put_side) (defBody s_Disk_put_side) (defScope s_Disk_put_side) .none kV_Disk_put_side dc_Disk_put_side pm_Disk_put_side an_Disk_put_side cd_Disk_put_side ct_Disk_put_side), sl_Disk_put_side⟩)
    (dDisk_put_side : PySem.W.codeIn K cd_Disk_put_side "Disk.put_side" = true)
    (kDisk_put_side : PySem.W.keepIn K (.ref f_Disk_put_side) = true)
    (aDisk_empty : PySem.W.findIn K (.ref a_Disk) "empty" = some (some (.ref f_Disk_empty)))
    (iDisk_empty : PySem.W.isFn K (.ref f_Disk_empty) = true)
    (lDisk_empty : K.lookup f_Disk_empty = some ⟨oc_Disk_empty, od_Disk_empty, .func (PySem.W.fnOf "empty" "Disk.empty" (defArgs s_Disk_empty) (defBody s_Disk_empty) (defScope s_Disk_empty) .none kV_Disk_empty dc_Disk_empty pm_Disk_empty an_Disk_empty cd_Disk_empty ct_Disk_empty), sl_Disk_empty⟩)
    (dDisk_empty : PySem.W.codeIn K cd_Disk_empty "Disk.empty" = true)
    (kDisk_empty : PySem.W.keepIn K (.ref f_Disk_empty) = true)
    (aDisk_copied : PySem.W.findIn K (.ref a_Disk) "copied" = some (some (.ref f_Disk_copied)))
    (iDisk_copied : PySem.W.isFn K (.ref f_Disk_copied) = true)
    (lDisk_copied : K.lookup f_Disk_copied = some ⟨oc_Disk_copied, od_Disk_copied, .func (PySem.W.fnOf "copied" "Disk.copied" (defArgs s_Disk_copied) (defBody s_Disk_copied) (defScope s_Disk_copied) .none kV_Disk_copied dc_Disk_copied pm_Disk_copied an_Disk_copied cd_Disk_copied ct_Disk_copied), sl_Disk_copied⟩)
    (dDisk_copied : PySem.W.codeIn K cd_Disk_copied "Disk.copied" = true)
    (kDisk_copied : PySem.W.keepIn K (.ref f_Disk_copied) = true)
    (aDisk_refuse_if_stopped : PySem.W.findIn K (.ref a_Disk) "refuse_if_stopped" = some (some (.ref f_Disk_refuse_if_stopped)))
    (iDisk_refuse_if_stopped : PySem.W.isFn K (.ref f_Disk_refuse_if_stopped) = true)
    (lDisk_refuse_if_stopped : K.lookup f_Disk_refuse_if_stopped = some ⟨oc_Disk_refuse_if_stopped, od_Disk_refuse_if_stopped, .func (PySem.W.fnOf "refuse_if_stopped" "Disk.refuse_if_stopped" (defArgs s_Disk_refuse_if_stopped) (defBody s_Disk_refuse_if_stopped) (defScope s_Disk_refuse_if_stopped) .none kV_Disk_refuse_if_stopped dc_Disk_refuse_if_stopped pm_Disk_refuse_if_stopped an_Disk_refuse_if_stopped cd_Disk_refuse_if_stopped ct_Disk_refuse_if_stopped), sl_Disk_refuse_if_stopped⟩)
    (dDisk_refuse_if_stopped : PySem.W.codeIn K cd_Disk_refuse_if_stopped "Disk.refuse_if_stopped" = true)
    (kDisk_refuse_if_stopped : PySem.W.keepIn K (.ref f_Disk_refuse_if_stopped) = true)
    (aDisk_spend : PySem.W.findIn K (.ref a_Disk) "spend" = some (some (.ref f_Disk_spend)))
    (iDisk_spend : PySem.W.isFn K (.ref f_Disk_spend) = true)
    (lDisk_spend : K.lookup f_Disk_spend = some ⟨oc_Disk_spend, od_Disk_spend, .func (PySem.W.fnOf "spend" "Disk.spend" (defArgs s_Disk_spend) (defBody s_Disk_spend) (defScope s_Disk_spend) .none kV_Disk_spend dc_Disk_spend pm_Disk_spend an_Disk_spend cd_Disk_spend ct_Disk_spend), sl_Disk_spend⟩)
    (dDisk_spend : PySem.W.codeIn K cd_Disk_spend "Disk.spend" = true)
    (kDisk_spend : PySem.W.keepIn K (.ref f_Disk_spend) = true)
    (aDisk_first_signs : PySem.W.findIn K (.ref a_Disk) "first_signs" = some (some (.ref f_Disk_first_signs)))
    (iDisk_first_signs : PySem.W.isFn K (.ref f_Disk_first_signs) = true)
    (lDisk_first_signs : K.lookup f_Disk_first_signs = some ⟨oc_Disk_first_signs, od_Disk_first_signs, .func (PySem.W.fnOf "first_signs" "Disk.first_signs" (defArgs s_Disk_first_signs) (defBody s_Disk_first_signs) (defScope s_Disk_first_signs) .none kV_Disk_first_signs dc_Disk_first_signs pm_Disk_first_signs an_Disk_first_signs cd_Disk_first_signs ct_Disk_first_signs), sl_Disk_first_signs⟩)
    (dDisk_first_signs : PySem.W.codeIn K cd_Disk_first_signs "Disk.first_signs" = true)
    (kDisk_first_signs : PySem.W.keepIn K (.ref f_Disk_first_signs) = true)
    (a_law_at : PySem.W.nsIn K mainGlobals "_law_at" = some (some (.ref f__law_at)))
    (l_law_at : K.lookup f__law_at = some ⟨oc__law_at, od__law_at, .func (PySem.W.fnOf "_law_at" "_law_at" (defArgs s__law_at) (defBody s__law_at) (defScope s__law_at) .none kV__law_at dc__law_at pm__law_at an__law_at cd__law_at ct__law_at), sl__law_at⟩)
    (d_law_at : PySem.W.codeIn K cd__law_at "_law_at" = true)
    (k_law_at : PySem.W.keepIn K (.ref f__law_at) = true)
    (a_law_mixed : PySem.W.nsIn K mainGlobals "_law_mixed" = some (some (.ref f__law_mixed)))
    (l_law_mixed : K.lookup f__law_mixed = some ⟨oc__law_mixed, od__law_mixed, .func (PySem.W.fnOf "_law_mixed" "_law_mixed" (defArgs s__law_mixed) (defBody s__law_mixed) (defScope s__law_mixed) .none kV__law_mixed dc__law_mixed pm__law_mixed an__law_mixed cd__law_mixed ct__law_mixed), sl__law_mixed⟩)
    (d_law_mixed : PySem.W.codeIn K cd__law_mixed "_law_mixed" = true)
    (k_law_mixed : PySem.W.keepIn K (.ref f__law_mixed) = true)
    (a_law_row : PySem.W.nsIn K mainGlobals "_law_row" = some (some (.ref f__law_row)))
    (l_law_row : K.lookup f__law_row = some ⟨oc__law_row, od__law_row, .func (PySem.W.fnOf "_law_row" "_law_row" (defArgs s__law_row) (defBody s__law_row) (defScope s__law_row) .none kV__law_row dc__law_row pm__law_row an__law_row cd__law_row ct__law_row), sl__law_row⟩)
    (d_law_row : PySem.W.codeIn K cd__law_row "_law_row" = true)
    (k_law_row : PySem.W.keepIn K (.ref f__law_row) = true)
    (a_law_sizes : PySem.W.nsIn K mainGlobals "_law_sizes" = some (some (.ref f__law_sizes)))
    (l_law_sizes : K.lookup f__law_sizes = some ⟨oc__law_sizes, od__law_sizes, .func (PySem.W.fnOf "_law_sizes" "_law_sizes" (defArgs s__law_sizes) (defBody s__law_sizes) (defScope s__law_sizes) .none kV__law_sizes dc__law_sizes pm__law_sizes an__law_sizes cd__law_sizes ct__law_sizes), sl__law_sizes⟩)
    (d_law_sizes : PySem.W.codeIn K cd__law_sizes "_law_sizes" = true)
    (k_law_sizes : PySem.W.keepIn K (.ref f__law_sizes) = true)
    (a_law_signs : PySem.W.nsIn K mainGlobals "_law_signs" = some (some (.ref f__law_signs)))
    (l_law_signs : K.lookup f__law_signs = some ⟨oc__law_signs, od__law_signs, .func (PySem.W.fnOf "_law_signs" "_law_signs" (defArgs s__law_signs) (defBody s__law_signs) (defScope s__law_signs) .none kV__law_signs dc__law_signs pm__law_signs an__law_signs cd__law_signs ct__law_signs), sl__law_signs⟩)
    (d_law_signs : PySem.W.codeIn K cd__law_signs "_law_signs" = true)
    (k_law_signs : PySem.W.keepIn K (.ref f__law_signs) = true)
    (a_law_deeds : PySem.W.nsIn K mainGlobals "_law_deeds" = some (some (.ref f__law_deeds)))
    (l_law_deeds : K.lookup f__law_deeds = some ⟨oc__law_deeds, od__law_deeds, .func (PySem.W.fnOf "_law_deeds" "_law_deeds" (defArgs s__law_deeds) (defBody s__law_deeds) (defScope s__law_deeds) .none kV__law_deeds dc__law_deeds pm__law_deeds an__law_deeds cd__law_deeds ct__law_deeds), sl__law_deeds⟩)
    (d_law_deeds : PySem.W.codeIn K cd__law_deeds "_law_deeds" = true)
    (k_law_deeds : PySem.W.keepIn K (.ref f__law_deeds) = true)
    (a_law_spent : PySem.W.nsIn K mainGlobals "_law_spent" = some (some (.ref f__law_spent)))
    (l_law_spent : K.lookup f__law_spent = some ⟨oc__law_spent, od__law_spent, .func (PySem.W.fnOf "_law_spent" "_law_spent" (defArgs s__law_spent) (defBody s__law_spent) (defScope s__law_spent) .none kV__law_spent dc__law_spent pm__law_spent an__law_spent cd__law_spent ct__law_spent), sl__law_spent⟩)
    (d_law_spent : PySem.W.codeIn K cd__law_spent "_law_spent" = true)
    (k_law_spent : PySem.W.keepIn K (.ref f__law_spent) = true)
    (a_law_wrote : PySem.W.nsIn K mainGlobals "_law_wrote" = some (some (.ref f__law_wrote)))
    (l_law_wrote : K.lookup f__law_wrote = some ⟨oc__law_wrote, od__law_wrote, .func (PySem.W.fnOf "_law_wrote" "_law_wrote" (defArgs s__law_wrote) (defBody s__law_wrote) (defScope s__law_wrote) .none kV__law_wrote dc__law_wrote pm__law_wrote an__law_wrote cd__law_wrote ct__law_wrote), sl__law_wrote⟩)
    (d_law_wrote : PySem.W.codeIn K cd__law_wrote "_law_wrote" = true)
    (k_law_wrote : PySem.W.keepIn K (.ref f__law_wrote) = true)
    (a_law_emptied : PySem.W.nsIn K mainGlobals "_law_emptied" = some (some (.ref f__law_emptied)))
    (l_law_emptied : K.lookup f__law_emptied = some ⟨oc__law_emptied, od__law_emptied, .func (PySem.W.fnOf "_law_emptied" "_law_emptied" (defArgs s__law_emptied) (defBody s__law_emptied) (defScope s__law_emptied) .none kV__law_emptied dc__law_emptied pm__law_emptied an__law_emptied cd__law_emptied ct__law_emptied), sl__law_emptied⟩)
    (d_law_emptied : PySem.W.codeIn K cd__law_emptied "_law_emptied" = true)
    (k_law_emptied : PySem.W.keepIn K (.ref f__law_emptied) = true)
    (a_law_put : PySem.W.nsIn K mainGlobals "_law_put" = some (some (.ref f__law_put)))
    (l_law_put : K.lookup f__law_put = some ⟨oc__law_put, od__law_put, .func (PySem.W.fnOf "_law_put" "_law_put" (defArgs s__law_put) (defBody s__law_put) (defScope s__law_put) .none kV__law_put dc__law_put pm__law_put an__law_put cd__law_put ct__law_put), sl__law_put⟩)
    (d_law_put : PySem.W.codeIn K cd__law_put "_law_put" = true)
    (k_law_put : PySem.W.keepIn K (.ref f__law_put) = true)
    (a_law_due : PySem.W.nsIn K mainGlobals "_law_due" = some (some (.ref f__law_due)))
    (l_law_due : K.lookup f__law_due = some ⟨oc__law_due, od__law_due, .func (PySem.W.fnOf "_law_due" "_law_due" (defArgs s__law_due) (defBody s__law_due) (defScope s__law_due) .none kV__law_due dc__law_due pm__law_due an__law_due cd__law_due ct__law_due), sl__law_due⟩)
    (d_law_due : PySem.W.codeIn K cd__law_due "_law_due" = true)
    (k_law_due : PySem.W.keepIn K (.ref f__law_due) = true)
    (a_law_kinds : PySem.W.nsIn K mainGlobals "_law_kinds" = some (some (.ref f__law_kinds)))
    (l_law_kinds : K.lookup f__law_kinds = some ⟨oc__law_kinds, od__law_kinds, .func (PySem.W.fnOf "_law_kinds" "_law_kinds" (defArgs s__law_kinds) (defBody s__law_kinds) (defScope s__law_kinds) .none kV__law_kinds dc__law_kinds pm__law_kinds an__law_kinds cd__law_kinds ct__law_kinds), sl__law_kinds⟩)
    (d_law_kinds : PySem.W.codeIn K cd__law_kinds "_law_kinds" = true)
    (k_law_kinds : PySem.W.keepIn K (.ref f__law_kinds) = true)
    (a_law_done : PySem.W.nsIn K mainGlobals "_law_done" = some (some (.ref f__law_done)))
    (l_law_done : K.lookup f__law_done = some ⟨oc__law_done, od__law_done, .func (PySem.W.fnOf "_law_done" "_law_done" (defArgs s__law_done) (defBody s__law_done) (defScope s__law_done) .none kV__law_done dc__law_done pm__law_done an__law_done cd__law_done ct__law_done), sl__law_done⟩)
    (d_law_done : PySem.W.codeIn K cd__law_done "_law_done" = true)
    (k_law_done : PySem.W.keepIn K (.ref f__law_done) = true)
    (a_law_like : PySem.W.nsIn K mainGlobals "_law_like" = some (some (.ref f__law_like)))
    (l_law_like : K.lookup f__law_like = some ⟨oc__law_like, od__law_like, .func (PySem.W.fnOf "_law_like" "_law_like" (defArgs s__law_like) (defBody s__law_like) (defScope s__law_like) .none kV__law_like dc__law_like pm__law_like an__law_like cd__law_like ct__law_like), sl__law_like⟩)
    (d_law_like : PySem.W.codeIn K cd__law_like "_law_like" = true)
    (k_law_like : PySem.W.keepIn K (.ref f__law_like) = true)
    (alaw : PySem.W.nsIn K mainGlobals "law" = some (some (.ref f_law)))
    (llaw : K.lookup f_law = some ⟨oc_law, od_law, .func (PySem.W.fnOf "law" "law" (defArgs s_law) (defBody s_law) (defScope s_law) .none kV_law dc_law pm_law an_law cd_law ct_law), sl_law⟩)
    (dlaw : PySem.W.codeIn K cd_law "law" = true)
    (klaw : PySem.W.keepIn K (.ref f_law) = true)
    (z_ValueError : PySem.W.nsIn K mainGlobals "ValueError" = some none)
    (z_bool : PySem.W.nsIn K mainGlobals "bool" = some none)
    (z_enumerate : PySem.W.nsIn K mainGlobals "enumerate" = some none)
    (z_int : PySem.W.nsIn K mainGlobals "int" = some none)
    (z_isinstance : PySem.W.nsIn K mainGlobals "isinstance" = some none)
    (z_len : PySem.W.nsIn K mainGlobals "len" = some none)
    (z_list : PySem.W.nsIn K mainGlobals "list" = some none)
    (z_max : PySem.W.nsIn K mainGlobals "max" = some none)
    (z_min : PySem.W.nsIn K mainGlobals "min" = some none)
    (z_range : PySem.W.nsIn K mainGlobals "range" = some none)
    (z_zip : PySem.W.nsIn K mainGlobals "zip" = some none)
    (v_LEAST_STRETCHES : PySem.W.nsIn K mainGlobals "LEAST_STRETCHES" = some (some (.int 3 t_LEAST_STRETCHES)))
    (v_MOST_STRETCHES : PySem.W.nsIn K mainGlobals "MOST_STRETCHES" = some (some (.int 16 t_MOST_STRETCHES)))
    (v_LEAST_PLACES : PySem.W.nsIn K mainGlobals "LEAST_PLACES" = some (some (.int 2 t_LEAST_PLACES)))
    (v_MOST_PLACES : PySem.W.nsIn K mainGlobals "MOST_PLACES" = some (some (.int 32 t_MOST_PLACES)))
    (ek_CleanError : PySem.W.excIn K a_CleanError [.type "ValueError", .type "Exception", .type "BaseException", .type "object"] "ValueError.__new__" = true)
    (ek_NoDisk : PySem.W.excIn K a_NoDisk [.type "ValueError", .type "Exception", .type "BaseException", .type "object"] "ValueError.__new__" = true)
    (ek_Full : PySem.W.excIn K a_Full [.type "ValueError", .type "Exception", .type "BaseException", .type "object"] "ValueError.__new__" = true)
    (ek_Stopped : PySem.W.excIn K a_Stopped [.type "ValueError", .type "Exception", .type "BaseException", .type "object"] "ValueError.__new__" = true)
    (ga_Full : PySem.W.findIn K (.ref a_Full) "__getattribute__" = some (some (.builtin "BaseException.__getattribute__")))
    (gr_Full : PySem.W.findIn K (.ref a_Full) "__getattr__" = some none)
    (clx_Full : PySem.W.findIn K (.ref a_Full) "__class__" = some (some (.builtin "object.__class__")))
    (ob_Full : PySem.W.mroIn K a_Full (.type "object") = some true)
    (ba_Full : PySem.W.mroIn K a_Full (.type "BaseException") = some true)
    (mro_Full : PySem.W.mroIn K a_Full (.ref a_CleanError) = some true)
    (kk_Full_ValueError : PySem.W.kitOne K (.ref a_Full) (.type "ValueError") = some true)
    (kk_Full_NoRow : PySem.W.kitOne K (.ref a_Full) (.ref a_NoRow) = some false)
    (kk_Full_NoDisk : PySem.W.kitOne K (.ref a_Full) (.ref a_NoDisk) = some false)
    (kk_Full_Full : PySem.W.kitOne K (.ref a_Full) (.ref a_Full) = some true)
    (kk_Full_Stopped : PySem.W.kitOne K (.ref a_Full) (.ref a_Stopped) = some false)
    (kk_Full_NoFile : PySem.W.kitOne K (.ref a_Full) (.ref a_NoFile) = some false)
    (kk_Full_NoPlace : PySem.W.kitOne K (.ref a_Full) (.ref a_NoPlace) = some false)
    (kk_Full_HeldAlready : PySem.W.kitOne K (.ref a_Full) (.ref a_HeldAlready) = some false)
    (kk_Full_NotHeld : PySem.W.kitOne K (.ref a_Full) (.ref a_NotHeld) = some false)
    (kk_Full_NoFiles : PySem.W.kitOne K (.ref a_Full) (.ref a_NoFiles) = some false)
    (kk_Full_NoMark : PySem.W.kitOne K (.ref a_Full) (.ref a_NoMark) = some false)
    (kk_Full_NoRoom : PySem.W.kitOne K (.ref a_Full) (.ref a_NoRoom) = some false)
    (kk_Full_Gone : PySem.W.kitOne K (.ref a_Full) (.ref a_Gone) = some false)
    (kk_Full_NotClosed : PySem.W.kitOne K (.ref a_Full) (.ref a_NotClosed) = some false)
    (kk_Full_NotBlank : PySem.W.kitOne K (.ref a_Full) (.ref a_NotBlank) = some false)
    (kk_Full_NoDeed : PySem.W.kitOne K (.ref a_Full) (.ref a_NoDeed) = some false)
    (kk_Full_NoHouse : PySem.W.kitOne K (.ref a_Full) (.ref a_NoHouse) = some false)
    (ga_Stopped : PySem.W.findIn K (.ref a_Stopped) "__getattribute__" = some (some (.builtin "BaseException.__getattribute__")))
    (gr_Stopped : PySem.W.findIn K (.ref a_Stopped) "__getattr__" = some none)
    (clx_Stopped : PySem.W.findIn K (.ref a_Stopped) "__class__" = some (some (.builtin "object.__class__")))
    (ob_Stopped : PySem.W.mroIn K a_Stopped (.type "object") = some true)
    (ba_Stopped : PySem.W.mroIn K a_Stopped (.type "BaseException") = some true)
    (mro_Stopped : PySem.W.mroIn K a_Stopped (.ref a_CleanError) = some true)
    (kk_Stopped_ValueError : PySem.W.kitOne K (.ref a_Stopped) (.type "ValueError") = some true)
    (kk_Stopped_NoRow : PySem.W.kitOne K (.ref a_Stopped) (.ref a_NoRow) = some false)
    (kk_Stopped_NoDisk : PySem.W.kitOne K (.ref a_Stopped) (.ref a_NoDisk) = some false)
    (kk_Stopped_Full : PySem.W.kitOne K (.ref a_Stopped) (.ref a_Full) = some false)
    (kk_Stopped_Stopped : PySem.W.kitOne K (.ref a_Stopped) (.ref a_Stopped) = some true)
    (kk_Stopped_NoFile : PySem.W.kitOne K (.ref a_Stopped) (.ref a_NoFile) = some false)
    (kk_Stopped_NoPlace : PySem.W.kitOne K (.ref a_Stopped) (.ref a_NoPlace) = some false)
    (kk_Stopped_HeldAlready : PySem.W.kitOne K (.ref a_Stopped) (.ref a_HeldAlready) = some false)
    (kk_Stopped_NotHeld : PySem.W.kitOne K (.ref a_Stopped) (.ref a_NotHeld) = some false)
    (kk_Stopped_NoFiles : PySem.W.kitOne K (.ref a_Stopped) (.ref a_NoFiles) = some false)
    (kk_Stopped_NoMark : PySem.W.kitOne K (.ref a_Stopped) (.ref a_NoMark) = some false)
    (kk_Stopped_NoRoom : PySem.W.kitOne K (.ref a_Stopped) (.ref a_NoRoom) = some false)
    (kk_Stopped_Gone : PySem.W.kitOne K (.ref a_Stopped) (.ref a_Gone) = some false)
    (kk_Stopped_NotClosed : PySem.W.kitOne K (.ref a_Stopped) (.ref a_NotClosed) = some false)
    (kk_Stopped_NotBlank : PySem.W.kitOne K (.ref a_Stopped) (.ref a_NotBlank) = some false)
    (kk_Stopped_NoDeed : PySem.W.kitOne K (.ref a_Stopped) (.ref a_NoDeed) = some false)
    (kk_Stopped_NoHouse : PySem.W.kitOne K (.ref a_Stopped) (.ref a_NoHouse) = some false)
    (pg_Disk : PySem.W.plainGet K a_Disk Str.empty = true)
    (hdd_Disk : PySem.W.hasDictIn K a_Disk = true)
    (po_Disk : PySem.W.plainOver K a_Disk = true)
    (sa_Disk : PySem.W.findIn K (.ref a_Disk) "__setattr__" = some (some (.builtin "object.__setattr__")))
    (mk_Disk : PySem.W.makesIn K a_Disk = true)
    (kc_Disk : PySem.W.keepIn K (.ref a_Disk) = true)
    (na_at_sides : PySem.W.findIn K (.ref a_Disk) "at_sides" = some none)
    (na_counted : PySem.W.findIn K (.ref a_Disk) "counted" = some none)
    (na_has_stopped : PySem.W.findIn K (.ref a_Disk) "has_stopped" = some none)
    (na_left : PySem.W.findIn K (.ref a_Disk) "left" = some none)
    (na_width : PySem.W.findIn K (.ref a_Disk) "width" = some none)
    (na_written : PySem.W.findIn K (.ref a_Disk) "written" = some none) :
    ∃ fd : FuncData, (∀ (s : Shared) (v : Value), BindsTo s fd ⟨[v], []⟩ [("_law_script", v)]) ∧ ∀ base : Heap, K.In base → base.Ns mainGlobals mg → FnOk l.prog w K mg base CX0 true 6 fa fd ["_law_script"] (spLaw K) := by
  have e := hfa.symm.trans (PySem.W.mg_of X G alaw)
  cases e
  have T : Txt K mg ⟨a_CleanError, a_NoRow, a_NoDisk, a_Full, a_Stopped, a_NoFile, a_NoPlace, a_HeldAlready, a_NotHeld, a_NoFiles, a_NoMark, a_NoRoom, a_Gone, a_NotClosed, a_NotBlank, a_NoDeed, a_NoHouse, a_Disk⟩ := ⟨PySem.W.mg_none_of X G z_ValueError, PySem.W.mg_none_of X G z_bool, PySem.W.mg_none_of X G z_enumerate, PySem.W.mg_none_of X G z_int, PySem.W.mg_none_of X G z_isinstance, PySem.W.mg_none_of X G z_len, PySem.W.mg_none_of X G z_list, PySem.W.mg_none_of X G z_max, PySem.W.mg_none_of X G z_min, PySem.W.mg_none_of X G z_range, PySem.W.mg_none_of X G z_zip, ⟨_, PySem.W.mg_of X G v_LEAST_STRETCHES, ⟨_, rfl⟩⟩, ⟨_, PySem.W.mg_of X G v_MOST_STRETCHES, ⟨_, rfl⟩⟩, ⟨_, PySem.W.mg_of X G v_LEAST_PLACES, ⟨_, rfl⟩⟩, ⟨_, PySem.W.mg_of X G v_MOST_PLACES, ⟨_, rfl⟩⟩, PySem.W.mg_of X G c_CleanError, PySem.W.mg_of X G c_NoRow, PySem.W.mg_of X G c_NoDisk, PySem.W.mg_of X G c_Full, PySem.W.mg_of X G c_Stopped, PySem.W.mg_of X G c_NoFile, PySem.W.mg_of X G c_NoPlace, PySem.W.mg_of X G c_HeldAlready, PySem.W.mg_of X G c_NotHeld, PySem.W.mg_of X G c_NoFiles, PySem.W.mg_of X G c_NoMark, PySem.W.mg_of X G c_NoRoom, PySem.W.mg_of X G c_Gone, PySem.W.mg_of X G c_NotClosed, PySem.W.mg_of X G c_NotBlank, PySem.W.mg_of X G c_NoDeed, PySem.W.mg_of X G c_NoHouse, PySem.W.mg_of X G c_Disk, ek_CleanError, ek_NoDisk, ek_Full, ek_Stopped, ⟨ek_Full, ga_Full, gr_Full, clx_Full, ob_Full, ba_Full⟩, mro_Full, kk_Full_ValueError, kk_Full_NoRow, kk_Full_NoDisk, kk_Full_Full, kk_Full_Stopped, kk_Full_NoFile, kk_Full_NoPlace, kk_Full_HeldAlready, kk_Full_NotHeld, kk_Full_NoFiles, kk_Full_NoMark, kk_Full_NoRoom, kk_Full_Gone, kk_Full_NotClosed, kk_Full_NotBlank, kk_Full_NoDeed, kk_Full_NoHouse, ⟨ek_Stopped, ga_Stopped, gr_Stopped, clx_Stopped, ob_Stopped, ba_Stopped⟩, mro_Stopped, kk_Stopped_ValueError, kk_Stopped_NoRow, kk_Stopped_NoDisk, kk_Stopped_Full, kk_Stopped_Stopped, kk_Stopped_NoFile, kk_Stopped_NoPlace, kk_Stopped_HeldAlready, kk_Stopped_NotHeld, kk_Stopped_NoFiles, kk_Stopped_NoMark, kk_Stopped_NoRoom, kk_Stopped_Gone, kk_Stopped_NotClosed, kk_Stopped_NotBlank, kk_Stopped_NoDeed, kk_Stopped_NoHouse, ⟨pg_Disk, hdd_Disk, po_Disk, sa_Disk⟩, na_at_sides, na_counted, na_has_stopped, na_left, na_width, na_written⟩
  have Fis_whole := fun_mk (st := s_is_whole) lis_whole dis_whole kis_whole
  have bis_whole := Fis_whole.binds (ps := ["value"]) fun _ _ _ _ _ _ us hl => match us, hl with | [_], _ => rfl
  have Fis_within := fun_mk (st := s_is_within) lis_within dis_within kis_within
  have bis_within := Fis_within.binds (ps := ["value", "least", "most"]) fun _ _ _ _ _ _ us hl => match us, hl with | [_, _, _], _ => rfl
  have FDisk___init__ := fun_mk (st := s_Disk___init__) lDisk___init__ dDisk___init__ kDisk___init__
  have bDisk___init__ := FDisk___init__.binds (ps := ["self", "stretches", "places"]) fun _ _ _ _ _ _ us hl => match us, hl with | [_, _, _], _ => rfl
  have FDisk_stretches := fun_mk (st := s_Disk_stretches) lDisk_stretches dDisk_stretches kDisk_stretches
  have bDisk_stretches := FDisk_stretches.binds (ps := ["self"]) fun _ _ _ _ _ _ us hl => match us, hl with | [_], _ => rfl
  have FDisk_places := fun_mk (st := s_Disk_places) lDisk_places dDisk_places kDisk_places
  have bDisk_places := FDisk_places.binds (ps := ["self"]) fun _ _ _ _ _ _ us hl => match us, hl with | [_], _ => rfl
  have FDisk_next_place := fun_mk (st := s_Disk_next_place) lDisk_next_place dDisk_next_place kDisk_next_place
  have bDisk_next_place := FDisk_next_place.binds (ps := ["self", "stretch"]) fun _ _ _ _ _ _ us hl => match us, hl with | [_, _], _ => rfl
  have FDisk_told := fun_mk (st := s_Disk_told) lDisk_told dDisk_told kDisk_told
  have bDisk_told := FDisk_told.binds (ps := ["self", "stretch", "place"]) fun _ _ _ _ _ _ us hl => match us, hl with | [_, _, _], _ => rfl
  have FDisk_side := fun_mk (st := s_Disk_side) lDisk_side dDisk_side kDisk_side
  have bDisk_side := FDisk_side.binds (ps := ["self", "k"]) fun _ _ _ _ _ _ us hl => match us, hl with | [_, _], _ => rfl
  have FDisk_signs := fun_mk (st := s_Disk_signs) lDisk_signs dDisk_signs kDisk_signs
  have bDisk_signs := FDisk_signs.binds (ps := ["self"]) fun _ _ _ _ _ _ us hl => match us, hl with | [_], _ => rfl
  have FDisk_write := fun_mk (st := s_Disk_write) lDisk_write dDisk_write kDisk_write
  have bDisk_write := FDisk_write.binds (ps := ["self", "stretch", "text"]) fun _ _ _ _ _ _ us hl => match us, hl with | [_, _, _], _ => rfl
  have FDisk_put_side := fun_mk (st := s_Disk_put_side) lDisk_put_side dDisk_put_side kDisk_put_side
  have bDisk_put_side := FDisk_put_side.binds (ps := ["self", "k", "text"]) fun _ _ _ _ _ _ us hl => match us, hl with | [_, _, _], _ => rfl
  have FDisk_empty := fun_mk (st := s_Disk_empty) lDisk_empty dDisk_empty kDisk_empty
  have bDisk_empty := FDisk_empty.binds (ps := ["self", "stretch"]) fun _ _ _ _ _ _ us hl => match us, hl with | [_, _], _ => rfl
  have FDisk_copied := fun_mk (st := s_Disk_copied) lDisk_copied dDisk_copied kDisk_copied
  have bDisk_copied := FDisk_copied.binds (ps := ["self"]) fun _ _ _ _ _ _ us hl => match us, hl with | [_], _ => rfl
  have FDisk_refuse_if_stopped := fun_mk (st := s_Disk_refuse_if_stopped) lDisk_refuse_if_stopped dDisk_refuse_if_stopped kDisk_refuse_if_stopped
  have bDisk_refuse_if_stopped := FDisk_refuse_if_stopped.binds (ps := ["self"]) fun _ _ _ _ _ _ us hl => match us, hl with | [_], _ => rfl
  have FDisk_spend := fun_mk (st := s_Disk_spend) lDisk_spend dDisk_spend kDisk_spend
  have bDisk_spend := FDisk_spend.binds (ps := ["self", "many"]) fun _ _ _ _ _ _ us hl => match us, hl with | [_, _], _ => rfl
  have FDisk_first_signs := fun_mk (st := s_Disk_first_signs) lDisk_first_signs dDisk_first_signs kDisk_first_signs
  have bDisk_first_signs := FDisk_first_signs.binds (ps := ["self", "text"]) fun _ _ _ _ _ _ us hl => match us, hl with | [_, _], _ => rfl
  have F_law_at := fun_mk (st := s__law_at) l_law_at d_law_at k_law_at
  have b_law_at := F_law_at.binds (ps := ["_law_script", "_law_k"]) fun _ _ _ _ _ _ us hl => match us, hl with | [_, _], _ => rfl
  have F_law_mixed := fun_mk (st := s__law_mixed) l_law_mixed d_law_mixed k_law_mixed
  have b_law_mixed := F_law_mixed.binds (ps := ["_law_number", "_law_k"]) fun _ _ _ _ _ _ us hl => match us, hl with | [_, _], _ => rfl
  have F_law_row := fun_mk (st := s__law_row) l_law_row d_law_row k_law_row
  have b_law_row := F_law_row.binds (ps := ["_law_script", "_law_k", "_law_many", "_law_base"]) fun _ _ _ _ _ _ us hl => match us, hl with | [_, _, _, _], _ => rfl
  have F_law_sizes := fun_mk (st := s__law_sizes) l_law_sizes d_law_sizes k_law_sizes
  have b_law_sizes := F_law_sizes.binds (ps := ["_law_script"]) fun _ _ _ _ _ _ us hl => match us, hl with | [_], _ => rfl
  have F_law_signs := fun_mk (st := s__law_signs) l_law_signs d_law_signs k_law_signs
  have b_law_signs := F_law_signs.binds (ps := []) fun _ _ _ _ _ _ us hl => match us, hl with | [], _ => rfl
  have F_law_deeds := fun_mk (st := s__law_deeds) l_law_deeds d_law_deeds k_law_deeds
  have b_law_deeds := F_law_deeds.binds (ps := ["_law_script", "_law_many"]) fun _ _ _ _ _ _ us hl => match us, hl with | [_, _], _ => rfl
  have F_law_spent := fun_mk (st := s__law_spent) l_law_spent d_law_spent k_law_spent
  have b_law_spent := F_law_spent.binds (ps := ["_law_state", "_law_many"]) fun _ _ _ _ _ _ us hl => match us, hl with | [_, _], _ => rfl
  have F_law_wrote := fun_mk (st := s__law_wrote) l_law_wrote d_law_wrote k_law_wrote
  have b_law_wrote := F_law_wrote.binds (ps := ["_law_state", "_law_wide", "_law_stretch", "_law_text"]) fun _ _ _ _ _ _ us hl => match us, hl with | [_, _, _, _], _ => rfl
  have F_law_emptied := fun_mk (st := s__law_emptied) l_law_emptied d_law_emptied k_law_emptied
  have b_law_emptied := F_law_emptied.binds (ps := ["_law_state", "_law_stretch"]) fun _ _ _ _ _ _ us hl => match us, hl with | [_, _], _ => rfl
  have F_law_put := fun_mk (st := s__law_put) l_law_put d_law_put k_law_put
  have b_law_put := F_law_put.binds (ps := ["_law_state", "_law_k", "_law_text"]) fun _ _ _ _ _ _ us hl => match us, hl with | [_, _, _], _ => rfl
  have F_law_due := fun_mk (st := s__law_due) l_law_due d_law_due k_law_due
  have b_law_due := F_law_due.binds (ps := ["_law_state", "_law_wide", "_law_deed"]) fun _ _ _ _ _ _ us hl => match us, hl with | [_, _, _], _ => rfl
  have F_law_kinds := fun_mk (st := s__law_kinds) l_law_kinds d_law_kinds k_law_kinds
  have b_law_kinds := F_law_kinds.binds (ps := ["_law_e"]) fun _ _ _ _ _ _ us hl => match us, hl with | [_], _ => rfl
  have F_law_done := fun_mk (st := s__law_done) l_law_done d_law_done k_law_done
  have b_law_done := F_law_done.binds (ps := ["_law_disk", "_law_deed"]) fun _ _ _ _ _ _ us hl => match us, hl with | [_, _], _ => rfl
  have F_law_like := fun_mk (st := s__law_like) l_law_like d_law_like k_law_like
  have b_law_like := F_law_like.binds (ps := ["_law_disk", "_law_state", "_law_many", "_law_wide"]) fun _ _ _ _ _ _ us hl => match us, hl with | [_, _, _, _], _ => rfl
  have Flaw := fun_mk (st := s_law) llaw dlaw klaw
  have blaw := Flaw.binds (ps := ["_law_script"]) fun _ _ _ _ _ _ us hl => match us, hl with | [_], _ => rfl
  refine ⟨PySem.W.fnOf "law" "law" (defArgs s_law) (defBody s_law) (defScope s_law) .none kV_law dc_law pm_law an_law cd_law ct_law, fun s v => .of_eq rfl, fun base _ _ => ?_⟩
  have G_is_whole : GF l.prog w K mg base true 1 "is_whole" ["value"] (spWhole) := ⟨_, _, ok_is_whole Fis_whole T, PySem.W.mg_of X G ais_whole, kis_whole, bis_whole⟩
  have G_is_within : GF l.prog w K mg base true 2 "is_within" ["value", "least", "most"] (spWithin) := ⟨_, _, ok_is_within Fis_within T G_is_whole, PySem.W.mg_of X G ais_within, kis_within, bis_within⟩
  have G_Disk : GCX l.prog w K mg base true 3 "Disk" a_Disk ["self", "stretches", "places"] (spInit _) := ⟨_, _, ok_Disk_init FDisk___init__ T G_is_within, PySem.W.mg_of X G c_Disk, ⟨mk_Disk, aDisk___init__, iDisk___init__, kc_Disk⟩, bDisk___init__⟩
  have M_Disk_stretches : GM l.prog w K mg base true 1 a_Disk "stretches" ["self"] (spRd _ fun _ d => .int d.rows.length) := ⟨_, _, ok_Disk_stretches FDisk_stretches T, ⟨aDisk_stretches, iDisk_stretches, kDisk_stretches⟩, bDisk_stretches⟩
  have M_Disk_places : GM l.prog w K mg base true 1 a_Disk "places" ["self"] (spRd _ fun m _ => .int m) := ⟨_, _, ok_Disk_places FDisk_places T, ⟨aDisk_places, iDisk_places, kDisk_places⟩, bDisk_places⟩
  have M_Disk_signs : GM l.prog w K mg base true 1 a_Disk "signs" ["self"] (spRd _ fun _ d => .int d.cnt) := ⟨_, _, ok_Disk_signs FDisk_signs T, ⟨aDisk_signs, iDisk_signs, kDisk_signs⟩, bDisk_signs⟩
  have M_Disk_next_place : GM l.prog w K mg base true 1 a_Disk "next_place" ["self", "stretch"] (spNext _) := ⟨_, _, ok_Disk_next_place FDisk_next_place T, ⟨aDisk_next_place, iDisk_next_place, kDisk_next_place⟩, bDisk_next_place⟩
  have M_Disk_side : GM l.prog w K mg base true 1 a_Disk "side" ["self", "k"] (spSide _) := ⟨_, _, ok_Disk_side FDisk_side T, ⟨aDisk_side, iDisk_side, kDisk_side⟩, bDisk_side⟩
  have M_Disk_told : GM l.prog w K mg base true 1 a_Disk "told" ["self", "stretch", "place"] (spTold _) := ⟨_, _, ok_Disk_told FDisk_told T, ⟨aDisk_told, iDisk_told, kDisk_told⟩, bDisk_told⟩
  have M_Disk_refuse_if_stopped : GMX l.prog w K mg base true 1 a_Disk "refuse_if_stopped" ["self"] (spRefuse _) := ⟨_, _, ok_Disk_refuse_if_stopped FDisk_refuse_if_stopped T, ⟨aDisk_refuse_if_stopped, iDisk_refuse_if_stopped, kDisk_refuse_if_stopped⟩, bDisk_refuse_if_stopped⟩
  have M_Disk_spend : GM l.prog w K mg base true 1 a_Disk "spend" ["self", "many"] (spSpend _) := ⟨_, _, ok_Disk_spend FDisk_spend T, ⟨aDisk_spend, iDisk_spend, kDisk_spend⟩, bDisk_spend⟩
  have M_Disk_first_signs : GMX l.prog w K mg base true 2 a_Disk "first_signs" ["self", "text"] (spFirst _) := ⟨_, _, ok_Disk_first_signs FDisk_first_signs T M_Disk_spend M_Disk_refuse_if_stopped, ⟨aDisk_first_signs, iDisk_first_signs, kDisk_first_signs⟩, bDisk_first_signs⟩
  have M_Disk_write : GMX l.prog w K mg base true 3 a_Disk "write" ["self", "stretch", "text"] (spWrite _) := ⟨_, _, ok_Disk_write FDisk_write T M_Disk_first_signs M_Disk_refuse_if_stopped, ⟨aDisk_write, iDisk_write, kDisk_write⟩, bDisk_write⟩
  have M_Disk_put_side : GMX l.prog w K mg base true 3 a_Disk "put_side" ["self", "k", "text"] (spPut _) := ⟨_, _, ok_Disk_put_side FDisk_put_side T M_Disk_first_signs M_Disk_refuse_if_stopped, ⟨aDisk_put_side, iDisk_put_side, kDisk_put_side⟩, bDisk_put_side⟩
  have M_Disk_empty : GMX l.prog w K mg base true 2 a_Disk "empty" ["self", "stretch"] (spEmpty _) := ⟨_, _, ok_Disk_empty FDisk_empty T M_Disk_spend M_Disk_refuse_if_stopped, ⟨aDisk_empty, iDisk_empty, kDisk_empty⟩, bDisk_empty⟩
  have M_Disk_copied : GM l.prog w K mg base true 5 a_Disk "copied" ["self"] (spCopied _) := ⟨_, _, ok_Disk_copied FDisk_copied T M_Disk_stretches G_Disk, ⟨aDisk_copied, iDisk_copied, kDisk_copied⟩, bDisk_copied⟩
  have G__law_at : GF l.prog w K mg base true 1 "_law_at" ["_law_script", "_law_k"] (spAt K) := ⟨_, _, ok__law_at F_law_at T, PySem.W.mg_of X G a_law_at, k_law_at, b_law_at⟩
  have G__law_mixed : GF l.prog w K mg base true 1 "_law_mixed" ["_law_number", "_law_k"] (spMixed) := ⟨_, _, ok__law_mixed F_law_mixed T, PySem.W.mg_of X G a_law_mixed, k_law_mixed, b_law_mixed⟩
  have G__law_row : GF l.prog w K mg base true 2 "_law_row" ["_law_script", "_law_k", "_law_many", "_law_base"] (spRow K) := ⟨_, _, ok__law_row (cm := true) F_law_row T G__law_at G__law_mixed, PySem.W.mg_of X G a_law_row, k_law_row, b_law_row⟩
  have G__law_sizes : GF l.prog w K mg base true 3 "_law_sizes" ["_law_script"] (spSizes K) := ⟨_, _, ok__law_sizes F_law_sizes T G__law_row, PySem.W.mg_of X G a_law_sizes, k_law_sizes, b_law_sizes⟩
  have G__law_signs : GF l.prog w K mg base true 1 "_law_signs" [] (spSigns) := ⟨_, _, ok__law_signs F_law_signs T, PySem.W.mg_of X G a_law_signs, k_law_signs, b_law_signs⟩
  have G__law_deeds : GF l.prog w K mg base true 3 "_law_deeds" ["_law_script", "_law_many"] (spDeeds K) := ⟨_, _, ok__law_deeds F_law_deeds T G__law_row G__law_signs, PySem.W.mg_of X G a_law_deeds, k_law_deeds, b_law_deeds⟩
  have G__law_spent : GF l.prog w K mg base true 1 "_law_spent" ["_law_state", "_law_many"] (spSpent) := ⟨_, _, ok__law_spent F_law_spent T, PySem.W.mg_of X G a_law_spent, k_law_spent, b_law_spent⟩
  have G__law_wrote : GF l.prog w K mg base true 2 "_law_wrote" ["_law_state", "_law_wide", "_law_stretch", "_law_text"] (spWrote) := ⟨_, _, ok__law_wrote F_law_wrote T G__law_spent, PySem.W.mg_of X G a_law_wrote, k_law_wrote, b_law_wrote⟩
  have G__law_emptied : GF l.prog w K mg base true 2 "_law_emptied" ["_law_state", "_law_stretch"] (spEmptied) := ⟨_, _, ok__law_emptied F_law_emptied T G__law_spent, PySem.W.mg_of X G a_law_emptied, k_law_emptied, b_law_emptied⟩
  have G__law_put : GF l.prog w K mg base true 2 "_law_put" ["_law_state", "_law_k", "_law_text"] (spPutL) := ⟨_, _, ok__law_put F_law_put T G__law_spent, PySem.W.mg_of X G a_law_put, k_law_put, b_law_put⟩
  have G__law_due : GF l.prog w K mg base true 3 "_law_due" ["_law_state", "_law_wide", "_law_deed"] (spDue) := ⟨_, _, ok__law_due F_law_due T G__law_wrote G__law_emptied G__law_put, PySem.W.mg_of X G a_law_due, k_law_due, b_law_due⟩
  have G__law_kinds : GF l.prog w K mg base false 1 "_law_kinds" ["_law_e"] (spKinds K _) := ⟨_, _, ok__law_kinds F_law_kinds T, PySem.W.mg_of X G a_law_kinds, k_law_kinds, b_law_kinds⟩
  have G__law_done : GF l.prog w K mg base true 5 "_law_done" ["_law_disk", "_law_deed"] (spDone _) := ⟨_, _, ok__law_done F_law_done T M_Disk_write M_Disk_empty M_Disk_put_side G__law_kinds, PySem.W.mg_of X G a_law_done, k_law_done, b_law_done⟩
  have G__law_like : GF l.prog w K mg base true 3 "_law_like" ["_law_disk", "_law_state", "_law_many", "_law_wide"] (spLike _) := ⟨_, _, ok__law_like F_law_like T M_Disk_stretches M_Disk_places M_Disk_signs M_Disk_next_place M_Disk_side M_Disk_told, PySem.W.mg_of X G a_law_like, k_law_like, b_law_like⟩
  exact ok_law Flaw T G__law_sizes G_Disk G__law_deeds G__law_like G__law_due G__law_done M_Disk_copied
theorem walk {l : PySem.W.OpenLaw} {q : Program} {loose : List Str} {XP : (Str → Option Value) → Heap → Prop} {YP : World → Heap → Prop} {d : DefRec} {K : Params → PySem.W.Frag} (hn : l.most = some 63) (hdf : d.params.defaults = [])
    (hY : ∀ (w : World) (h : Heap), YP w h → (K w.params).In h)
    (F : ∀ (w : World) (mg : Str → Option Value) (fa : Addr) (h : Heap), (K w.params).In h → h.Ns mainGlobals mg → mg d.name = some (.ref fa) →
      ∃ fd : FuncData, (∀ (s : Shared) (u : Value), BindsTo s fd ⟨[u], []⟩ [("_law_script", u)]) ∧ ∀ base : Heap, (K w.params).In base → base.Ns mainGlobals mg → FnOk l.prog w (K w.params) mg base CX0 true 6 fa fd ["_law_script"] (spLaw (K w.params))) :
    PySem.W.WalkO q loose XP YP l.row.toRowW d [] (fun f vs => PySem.call f vs) :=
  L2.walk_of (n := 63) (k := 6) (x := "_law_script") (CX := fun _ => CX0) (sp := fun w => spLaw (K w.params)) hn (by decide) hdf ⟨fun _ => rfl, by decide, by decide, rfl⟩ hY F (fun _ _ a ns hl _ hS => ⟨a, ns, rfl, hS, hl, fun _ => rfl⟩) fun _ _ _ _ _ z => z

end K14
set_option Elab.async false
/-! names that keep the head from laying twins of its long states: with them the object file is over its size -/
def PySem.W.Fast.tw3917036192710727818 : Nat := 0
def PySem.W.Fast.tw2314511974881199942 : Nat := 0
def PySem.W.Fast.tw6998199609536925980 : Nat := 0
def PySem.W.Fast.tw7046284376984472234 : Nat := 0
def PySem.W.Fast.tw16492225143143615313 : Nat := 0
def PySem.W.Fast.tw17508371497781117597 : Nat := 0
def PySem.W.Fast.tw11192900701977125515 : Nat := 0
def PySem.W.Fast.tw6335937680028073831 : Nat := 0
def PySem.W.Fast.tw11666700329237541702 : Nat := 0
def PySem.W.Fast.tw529530869679445107 : Nat := 0
def PySem.W.Fast.tw17306432872331925470 : Nat := 0
def PySem.W.Fast.tw13164215279317793747 : Nat := 0
def PySem.W.Fast.tw4933756953973930370 : Nat := 0
def PySem.W.Fast.tw16392627779839610321 : Nat := 0
def PySem.W.Fast.tw6429834102778624820 : Nat := 0
def PySem.W.Fast.tw15157291401755126358 : Nat := 0
open PySem PySem.W PyProof.Rows
set_option maxRecDepth 100000 in
set_option maxHeartbeats 0 in
theorem PySem.Challenge.cw_cleanrows_k14_disks_written_holds : PySem.Challenge.rw_cleanrows_k14_disks_written.Holds := by
  w_on; o_law; k_head; (case hw => w_witness2)
  k_fill
  refine K14.walk (l := PySem.Challenge.rw_cleanrows_k14_disks_written) rfl rfl (fun w h Y => PySem.W.kIn_of Y) ?F
  case F =>
    intro w mg fa h KX G hmg
    refine' K14.all_mk KX G hmg ?c_CleanError ?c_NoRow ?c_NoDisk ?c_Full ?c_Stopped ?c_NoFile ?c_NoPlace ?c_HeldAlready ?c_NotHeld ?c_NoFiles ?c_NoMark ?c_NoRoom ?c_Gone ?c_NotClosed ?c_NotBlank ?c_NoDeed ?c_NoHouse ?c_Disk ?ais_whole ?lis_whole ?dis_whole ?kis_whole ?ais_within ?lis_within ?dis_within ?kis_within ?aDisk___init__ ?iDisk___init__ ?lDisk___init__ ?dDisk___init__ ?kDisk___init__ ?aDisk_stretches ?iDisk_stretches ?lDisk_stretches ?dDisk_stretches ?kDisk_stretches ?aDisk_places ?iDisk_places ?lDisk_places ?dDisk_places ?kDisk_places ?aDisk_next_place ?iDisk_next_place ?lDisk_next_place ?dDisk_next_place ?kDisk_next_place ?aDisk_told ?iDisk_told ?lDisk_told ?dDisk_told ?kDisk_told ?aDisk_side ?iDisk_side ?lDisk_side ?dDisk_side ?kDisk_side ?aDisk_signs ?iDisk_signs ?lDisk_signs ?dDisk_signs ?kDisk_signs ?aDisk_write ?iDisk_write ?lDisk_write ?dDisk_write ?kDisk_write ?aDisk_put_side ?iDisk_put_side ?lDisk_put_side ?dDisk_put_side ?kDisk_put_side ?aDisk_empty ?iDisk_empty ?lDisk_empty ?dDisk_empty ?kDisk_empty ?aDisk_copied ?iDisk_copied ?lDisk_copied ?dDisk_copied ?kDisk_copied ?aDisk_refuse_if_stopped ?iDisk_refuse_if_stopped ?lDisk_refuse_if_stopped ?dDisk_refuse_if_stopped ?kDisk_refuse_if_stopped ?aDisk_spend ?iDisk_spend ?lDisk_spend ?dDisk_spend ?kDisk_spend ?aDisk_first_signs ?iDisk_first_signs ?lDisk_first_signs ?dDisk_first_signs ?kDisk_first_signs ?a_law_at ?l_law_at ?d_law_at ?k_law_at ?a_law_mixed ?l_law_mixed ?d_law_mixed ?k_law_mixed ?a_law_row ?l_law_row ?d_law_row ?k_law_row ?a_law_sizes ?l_law_sizes ?d_law_sizes ?k_law_sizes ?a_law_signs ?l_law_signs ?d_law_signs ?k_law_signs ?a_law_deeds ?l_law_deeds ?d_law_deeds ?k_law_deeds ?a_law_spent ?l_law_spent ?d_law_spent ?k_law_spent ?a_law_wrote ?l_law_wrote ?d_law_wrote ?k_law_wrote ?a_law_emptied ?l_law_emptied ?d_law_emptied ?k_law_emptied ?a_law_put ?l_law_put ?d_law_put ?k_law_put ?a_law_due ?l_law_due ?d_law_due ?k_law_due ?a_law_kinds ?l_law_kinds ?d_law_kinds ?k_law_kinds ?a_law_done ?l_law_done ?d_law_done ?k_law_done ?a_law_like ?l_law_like ?d_law_like ?k_law_like ?alaw ?llaw ?dlaw ?klaw ?z_ValueError ?z_bool ?z_enumerate ?z_int ?z_isinstance ?z_len ?z_list ?z_max ?z_min ?z_range ?z_zip ?v_LEAST_STRETCHES ?v_MOST_STRETCHES ?v_LEAST_PLACES ?v_MOST_PLACES ?ek_CleanError ?ek_NoDisk ?ek_Full ?ek_Stopped ?ga_Full ?gr_Full ?clx_Full ?ob_Full ?ba_Full ?mro_Full ?kk_Full_ValueError ?kk_Full_NoRow ?kk_Full_NoDisk ?kk_Full_Full ?kk_Full_Stopped ?kk_Full_NoFile ?kk_Full_NoPlace ?kk_Full_HeldAlready ?kk_Full_NotHeld ?kk_Full_NoFiles ?kk_Full_NoMark ?kk_Full_NoRoom ?kk_Full_Gone ?kk_Full_NotClosed ?kk_Full_NotBlank ?kk_Full_NoDeed ?kk_Full_NoHouse ?ga_Stopped ?gr_Stopped ?clx_Stopped ?ob_Stopped ?ba_Stopped ?mro_Stopped ?kk_Stopped_ValueError ?kk_Stopped_NoRow ?kk_Stopped_NoDisk ?kk_Stopped_Full ?kk_Stopped_Stopped ?kk_Stopped_NoFile ?kk_Stopped_NoPlace ?kk_Stopped_HeldAlready ?kk_Stopped_NotHeld ?kk_Stopped_NoFiles ?kk_Stopped_NoMark ?kk_Stopped_NoRoom ?kk_Stopped_Gone ?kk_Stopped_NotClosed ?kk_Stopped_NotBlank ?kk_Stopped_NoDeed ?kk_Stopped_NoHouse ?pg_Disk ?hdd_Disk ?po_Disk ?sa_Disk ?mk_Disk ?kc_Disk ?na_at_sides ?na_counted ?na_has_stopped ?na_left ?na_width ?na_written
    (case c_CleanError => first | k_is | kit_is | k_exc)
    (case c_NoRow => first | k_is | kit_is | k_exc)
    (case c_NoDisk => first | k_is | kit_is | k_exc)
    (case c_Full => first | k_is | kit_is | k_exc)
    (case c_Stopped => first | k_is | kit_is | k_exc)
    (case c_NoFile => first | k_is | kit_is | k_exc)
    (case c_NoPlace => first | k_is | kit_is | k_exc)
    (case c_HeldAlready => first | k_is | kit_is | k_exc)
    (case c_NotHeld => first | k_is | kit_is | k_exc)
    (case c_NoFiles => first | k_is | kit_is | k_exc)
    (case c_NoMark => first | k_is | kit_is | k_exc)
    (case c_NoRoom => first | k_is | kit_is | k_exc)
    (case c_Gone => first | k_is | kit_is | k_exc)
    (case c_NotClosed => first | k_is | kit_is | k_exc)
    (case c_NotBlank => first | k_is | kit_is | k_exc)
    (case c_NoDeed => first | k_is | kit_is | k_exc)
    (case c_NoHouse => first | k_is | kit_is | k_exc)
    (case c_Disk => first | k_is | kit_is | k_exc)
    (case ais_whole => first | k_is | kit_is | k_exc)
    (case lis_whole => first | k_is | kit_is | k_exc)
    (case dis_whole => first | k_is | kit_is | k_exc)
    (case kis_whole => first | k_is | kit_is | k_exc)
    (case ais_within => first | k_is | kit_is | k_exc)
    (case lis_within => first | k_is | kit_is | k_exc)
    (case dis_within => first | k_is | kit_is | k_exc)
    (case kis_within => first | k_is | kit_is | k_exc)
    (case aDisk___init__ => first | k_is | kit_is | k_exc)
    (case iDisk___init__ => first | k_is | kit_is | k_exc)
    (case lDisk___init__ => first | k_is | kit_is | k_exc)
    (case dDisk___init__ => first | k_is | kit_is | k_exc)
    (case kDisk___init__ => first | k_is | kit_is | k_exc)
    (case aDisk_stretches => first | k_is | kit_is | k_exc)
    (case iDisk_stretches => first | k_is | kit_is | k_exc)
    (case lDisk_stretches => first | k_is | kit_is | k_exc)
    (case dDisk_stretches => first | k_is | kit_is | k_exc)
    (case kDisk_stretches => first | k_is | kit_is | k_exc)
    (case aDisk_places => first | k_is | kit_is | k_exc)
    (case iDisk_places => first | k_is | kit_is | k_exc)
    (case lDisk_places => first | k_is | kit_is | k_exc)
    (case dDisk_places => first | k_is | kit_is | k_exc)
    (case kDisk_places => first | k_is | kit_is | k_exc)
    (case aDisk_next_place => first | k_is | kit_is | k_exc)
    (case iDisk_next_place => first | k_is | kit_is | k_exc)
    (case lDisk_next_place => first | k_is | kit_is | k_exc)
    (case dDisk_next_place => first | k_is | kit_is | k_exc)
    (case kDisk_next_place => first | k_is | kit_is | k_exc)
    (case aDisk_told => first | k_is | kit_is | k_exc)
    (case iDisk_told => first | k_is | kit_is | k_exc)
    (case lDisk_told => first | k_is | kit_is | k_exc)
    (case dDisk_told => first | k_is | kit_is | k_exc)
    (case kDisk_told => first | k_is | kit_is | k_exc)
    (case aDisk_side => first | k_is | kit_is | k_exc)
    (case iDisk_side => first | k_is | kit_is | k_exc)
    (case lDisk_side => first | k_is | kit_is | k_exc)
    (case dDisk_side => first | k_is | kit_is | k_exc)
    (case kDisk_side => first | k_is | kit_is | k_exc)
    (case aDisk_signs => first | k_is | kit_is | k_exc)
    (case iDisk_signs => first | k_is | kit_is | k_exc)
    (case lDisk_signs => first | k_is | kit_is | k_exc)
    (case dDisk_signs => first | k_is | kit_is | k_exc)
    (case kDisk_signs => first | k_is | kit_is | k_exc)
    (case aDisk_write => first | k_is | kit_is | k_exc)
    (case iDisk_write => first | k_is | kit_is | k_exc)
    (case lDisk_write => first | k_is | kit_is | k_exc)
    (case dDisk_write => first | k_is | kit_is | k_exc)
    (case kDisk_write => first | k_is | kit_is | k_exc)
    (case aDisk_put_side => first | k_is | kit_is | k_exc)
    (case iDisk_put_side => first | k_is | kit_is | k_exc)
    (case lDisk_put_side => first | k_is | kit_is | k_exc)
    (case dDisk_put_side => first | k_is | kit_is | k_exc)
    (case kDisk_put_side => first | k_is | kit_is | k_exc)
    (case aDisk_empty => first | k_is | kit_is | k_exc)
    (case iDisk_empty => first | k_is | kit_is | k_exc)
    (case lDisk_empty => first | k_is | kit_is | k_exc)
    (case dDisk_empty => first | k_is | kit_is | k_exc)
    (case kDisk_empty => first | k_is | kit_is | k_exc)
    (case aDisk_copied => first | k_is | kit_is | k_exc)
    (case iDisk_copied => first | k_is | kit_is | k_exc)
    (case lDisk_copied => first | k_is | kit_is | k_exc)
    (case dDisk_copied => first | k_is | kit_is | k_exc)
    (case kDisk_copied => first | k_is | kit_is | k_exc)
    (case aDisk_refuse_if_stopped => first | k_is | kit_is | k_exc)
    (case iDisk_refuse_if_stopped => first | k_is | kit_is | k_exc)
    (case lDisk_refuse_if_stopped => first | k_is | kit_is | k_exc)
    (case dDisk_refuse_if_stopped => first | k_is | kit_is | k_exc)
    (case kDisk_refuse_if_stopped => first | k_is | kit_is | k_exc)
    (case aDisk_spend => first | k_is | kit_is | k_exc)
    (case iDisk_spend => first | k_is | kit_is | k_exc)
    (case lDisk_spend => first | k_is | kit_is | k_exc)
    (case dDisk_spend => first | k_is | kit_is | k_exc)
    (case kDisk_spend => first | k_is | kit_is | k_exc)
    (case aDisk_first_signs => first | k_is | kit_is | k_exc)
    (case iDisk_first_signs => first | k_is | kit_is | k_exc)
    (case lDisk_first_signs => first | k_is | kit_is | k_exc)
    (case dDisk_first_signs => first | k_is | kit_is | k_exc)
    (case kDisk_first_signs => first | k_is | kit_is | k_exc)
    (case a_law_at => first | k_is | kit_is | k_exc)
    (case l_law_at => first | k_is | kit_is | k_exc)
    (case d_law_at => first | k_is | kit_is | k_exc)
    (case k_law_at => first | k_is | kit_is | k_exc)
    (case a_law_mixed => first | k_is | kit_is | k_exc)
    (case l_law_mixed => first | k_is | kit_is | k_exc)
    (case d_law_mixed => first | k_is | kit_is | k_exc)
    (case k_law_mixed => first | k_is | kit_is | k_exc)
    (case a_law_row => first | k_is | kit_is | k_exc)
    (case l_law_row => first | k_is | kit_is | k_exc)
    (case d_law_row => first | k_is | kit_is | k_exc)
    (case k_law_row => first | k_is | kit_is | k_exc)
    (case a_law_sizes => first | k_is | kit_is | k_exc)
    (case l_law_sizes => first | k_is | kit_is | k_exc)
    (case d_law_sizes => first | k_is | kit_is | k_exc)
    (case k_law_sizes => first | k_is | kit_is | k_exc)
    (case a_law_signs => first | k_is | kit_is | k_exc)
    (case l_law_signs => first | k_is | kit_is | k_exc)
    (case d_law_signs => first | k_is | kit_is | k_exc)
    (case k_law_signs => first | k_is | kit_is | k_exc)
    (case a_law_deeds => first | k_is | kit_is | k_exc)
    (case l_law_deeds => first | k_is | kit_is | k_exc)
    (case d_law_deeds => first | k_is | kit_is | k_exc)
    (case k_law_deeds => first | k_is | kit_is | k_exc)
    (case a_law_spent => first | k_is | kit_is | k_exc)
    (case l_law_spent => first | k_is | kit_is | k_exc)
    (case d_law_spent => first | k_is | kit_is | k_exc)
    (case k_law_spent => first | k_is | kit_is | k_exc)
    (case a_law_wrote => first | k_is | kit_is | k_exc)
    (case l_law_wrote => first | k_is | kit_is | k_exc)
    (case d_law_wrote => first | k_is | kit_is | k_exc)
    (case k_law_wrote => first | k_is | kit_is | k_exc)
    (case a_law_emptied => first | k_is | kit_is | k_exc)
    (case l_law_emptied => first | k_is | kit_is | k_exc)
    (case d_law_emptied => first | k_is | kit_is | k_exc)
    (case k_law_emptied => first | k_is | kit_is | k_exc)
    (case a_law_put => first | k_is | kit_is | k_exc)
    (case l_law_put => first | k_is | kit_is | k_exc)
    (case d_law_put => first | k_is | kit_is | k_exc)
    (case k_law_put => first | k_is | kit_is | k_exc)
    (case a_law_due => first | k_is | kit_is | k_exc)
    (case l_law_due => first | k_is | kit_is | k_exc)
    (case d_law_due => first | k_is | kit_is | k_exc)
    (case k_law_due => first | k_is | kit_is | k_exc)
    (case a_law_kinds => first | k_is | kit_is | k_exc)
    (case l_law_kinds => first | k_is | kit_is | k_exc)
    (case d_law_kinds => first | k_is | kit_is | k_exc)
    (case k_law_kinds => first | k_is | kit_is | k_exc)
    (case a_law_done => first | k_is | kit_is | k_exc)
    (case l_law_done => first | k_is | kit_is | k_exc)
    (case d_law_done => first | k_is | kit_is | k_exc)
    (case k_law_done => first | k_is | kit_is | k_exc)
    (case a_law_like => first | k_is | kit_is | k_exc)
    (case l_law_like => first | k_is | kit_is | k_exc)
    (case d_law_like => first | k_is | kit_is | k_exc)
    (case k_law_like => first | k_is | kit_is | k_exc)
    (case alaw => first | k_is | kit_is | k_exc)
    (case llaw => first | k_is | kit_is | k_exc)
    (case dlaw => first | k_is | kit_is | k_exc)
    (case klaw => first | k_is | kit_is | k_exc)
    (case z_ValueError => first | k_is | kit_is | k_exc)
    (case z_bool => first | k_is | kit_is | k_exc)
    (case z_enumerate => first | k_is | kit_is | k_exc)
    (case z_int => first | k_is | kit_is | k_exc)
    (case z_isinstance => first | k_is | kit_is | k_exc)
    (case z_len => first | k_is | kit_is | k_exc)
    (case z_list => first | k_is | kit_is | k_exc)
    (case z_max => first | k_is | kit_is | k_exc)
    (case z_min => first | k_is | kit_is | k_exc)
    (case z_range => first | k_is | kit_is | k_exc)
    (case z_zip => first | k_is | kit_is | k_exc)
    (case v_LEAST_STRETCHES => first | k_is | kit_is | k_exc)
    (case v_MOST_STRETCHES => first | k_is | kit_is | k_exc)
    (case v_LEAST_PLACES => first | k_is | kit_is | k_exc)
    (case v_MOST_PLACES => first | k_is | kit_is | k_exc)
    (case ek_CleanError => first | k_is | kit_is | k_exc)
    (case ek_NoDisk => first | k_is | kit_is | k_exc)
    (case ek_Full => first | k_is | kit_is | k_exc)
    (case ek_Stopped => first | k_is | kit_is | k_exc)
    (case ga_Full => first | k_is | kit_is | k_exc)
    (case gr_Full => first | k_is | kit_is | k_exc)
    (case clx_Full => first | k_is | kit_is | k_exc)
    (case ob_Full => first | k_is | kit_is | k_exc)
    (case ba_Full => first | k_is | kit_is | k_exc)
    (case mro_Full => first | k_is | kit_is | k_exc)
    (case kk_Full_ValueError => first | k_is | kit_is | k_exc)
    (case kk_Full_NoRow => first | k_is | kit_is | k_exc)
    (case kk_Full_NoDisk => first | k_is | kit_is | k_exc)
    (case kk_Full_Full => first | k_is | kit_is | k_exc)
    (case kk_Full_Stopped => first | k_is | kit_is | k_exc)
    (case kk_Full_NoFile => first | k_is | kit_is | k_exc)
    (case kk_Full_NoPlace => first | k_is | kit_is | k_exc)
    (case kk_Full_HeldAlready => first | k_is | kit_is | k_exc)
    (case kk_Full_NotHeld => first | k_is | kit_is | k_exc)
    (case kk_Full_NoFiles => first | k_is | kit_is | k_exc)
    (case kk_Full_NoMark => first | k_is | kit_is | k_exc)
    (case kk_Full_NoRoom => first | k_is | kit_is | k_exc)
    (case kk_Full_Gone => first | k_is | kit_is | k_exc)
    (case kk_Full_NotClosed => first | k_is | kit_is | k_exc)
    (case kk_Full_NotBlank => first | k_is | kit_is | k_exc)
    (case kk_Full_NoDeed => first | k_is | kit_is | k_exc)
    (case kk_Full_NoHouse => first | k_is | kit_is | k_exc)
    (case ga_Stopped => first | k_is | kit_is | k_exc)
    (case gr_Stopped => first | k_is | kit_is | k_exc)
    (case clx_Stopped => first | k_is | kit_is | k_exc)
    (case ob_Stopped => first | k_is | kit_is | k_exc)
    (case ba_Stopped => first | k_is | kit_is | k_exc)
    (case mro_Stopped => first | k_is | kit_is | k_exc)
    (case kk_Stopped_ValueError => first | k_is | kit_is | k_exc)
    (case kk_Stopped_NoRow => first | k_is | kit_is | k_exc)
    (case kk_Stopped_NoDisk => first | k_is | kit_is | k_exc)
    (case kk_Stopped_Full => first | k_is | kit_is | k_exc)
    (case kk_Stopped_Stopped => first | k_is | kit_is | k_exc)
    (case kk_Stopped_NoFile => first | k_is | kit_is | k_exc)
    (case kk_Stopped_NoPlace => first | k_is | kit_is | k_exc)
    (case kk_Stopped_HeldAlready => first | k_is | kit_is | k_exc)
    (case kk_Stopped_NotHeld => first | k_is | kit_is | k_exc)
    (case kk_Stopped_NoFiles => first | k_is | kit_is | k_exc)
    (case kk_Stopped_NoMark => first | k_is | kit_is | k_exc)
    (case kk_Stopped_NoRoom => first | k_is | kit_is | k_exc)
    (case kk_Stopped_Gone => first | k_is | kit_is | k_exc)
    (case kk_Stopped_NotClosed => first | k_is | kit_is | k_exc)
    (case kk_Stopped_NotBlank => first | k_is | kit_is | k_exc)
    (case kk_Stopped_NoDeed => first | k_is | kit_is | k_exc)
    (case kk_Stopped_NoHouse => first | k_is | kit_is | k_exc)
    (case pg_Disk => first | k_is | kit_is | k_exc)
    (case hdd_Disk => first | k_is | kit_is | k_exc)
    (case po_Disk => first | k_is | kit_is | k_exc)
    (case sa_Disk => first | k_is | kit_is | k_exc)
    (case mk_Disk => first | k_is | kit_is | k_exc)
    (case kc_Disk => first | k_is | kit_is | k_exc)
    (case na_at_sides => first | k_is | kit_is | k_exc)
    (case na_counted => first | k_is | kit_is | k_exc)
    (case na_has_stopped => first | k_is | kit_is | k_exc)
    (case na_left => first | k_is | kit_is | k_exc)
    (case na_width => first | k_is | kit_is | k_exc)
    (case na_written => first | k_is | kit_is | k_exc)
