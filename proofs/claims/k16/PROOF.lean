import PyProof.Rows.All
import Wide.All
import OpenK.AllK
import Wide.FinOn
import Lean
import PyProof.EqAt
import PyProof.EqKinds
import PyProof.TupleCall
import KE.KUnpack
import PyProof.NeKinds
import PyProof.EnumFor
import PyProof.EnumStmt
import PySem.Challenge.RW_cleanrows_k16_no_disks
set_option Elab.async false
set_option linter.all false
set_option maxRecDepth 100000
/-! THE HAND LAYER, for ints, bools, texts, own classes, LISTS and tuples (index, slices, in, append, pop ..), calls, loops. Paste it whole ahead of your own text; what your proof does not reach may be deleted. -/
namespace L2
open PySem PySem.Spec PyProof.Rows

/-- a key: an int or a str -/
abbrev Key := Sum Int Str
def keyIs : Key → Value → Bool
  | .inl k, v => Value.isInt k v
  | .inr x, v => Value.isStrOf x v
def keyH (w : World) : Key → Int
  | .inl k => hashInt k
  | .inr x => hashStr w x
theorem keyIs_shape : ∀ {k : Key} {v : Value}, keyIs k v = true → (∃ i t, k = Sum.inl i ∧ v = Value.int i t) ∨ (∃ x t, k = Sum.inr x ∧ v = Value.str x t)
  | .inl i, v, h => by
    obtain ⟨t, e⟩ := Value.isInt_shape (k := i) (v := v) h
    exact .inl ⟨i, t, rfl, e⟩
  | .inr x, v, h => by
    obtain ⟨t, e⟩ := Value.isStrOf_shape (x := x) (v := v) h
    exact .inr ⟨x, t, rfl, e⟩
theorem key_ll (a b : Int) : decide ((Sum.inl a : Key) = Sum.inl b) = (a == b) := by
  by_cases e : a = b
  · subst e; simp
  · have h : ¬ (Sum.inl a : Key) = Sum.inl b := fun q => e (Sum.inl.inj q)
    rw [decide_eq_false h]
    exact (beq_eq_false_iff_ne.mpr e).symm
theorem key_rr (a b : Str) : decide ((Sum.inr a : Key) = Sum.inr b) = decide (a = b) := by
  by_cases e : a = b
  · subst e; simp
  · have h : ¬ (Sum.inr a : Key) = Sum.inr b := fun q => e (Sum.inr.inj q)
    rw [decide_eq_false h, decide_eq_false e]
theorem key_lr (a : Int) (b : Str) : decide ((Sum.inl a : Key) = Sum.inr b) = false := decide_eq_false (fun q => nomatch q)
theorem key_rl (a : Str) (b : Int) : decide ((Sum.inr a : Key) = Sum.inl b) = false := decide_eq_false (fun q => nomatch q)

def mixKind (prog : Program) (w : World) : PySem.KeyKind prog w Key where
  is := keyIs
  hash := keyH w
  inj := fun v a b ha hb => by
    rcases keyIs_shape ha with ⟨i, t, rfl, rfl⟩ | ⟨x, t, rfl, rfl⟩
    · rcases keyIs_shape hb with ⟨j, u, rfl, e⟩ | ⟨y, u, rfl, e⟩
      · injection e with e1 _; rw [e1]
      · exact nomatch e
    · rcases keyIs_shape hb with ⟨j, u, rfl, e⟩ | ⟨y, u, rfl, e⟩
      · exact nomatch e
      · injection e with e1 _; rw [e1]
  byValue := fun k v h => by
    rcases keyIs_shape h with ⟨i, t, rfl, rfl⟩ | ⟨x, t, rfl, rfl⟩ <;> rfl
  pyHash := fun hv h => by
    rcases keyIs_shape hv with ⟨i, t, rfl, rfl⟩ | ⟨x, t, rfl, rfl⟩
    · exact wpAny_pyHash_int h
    · exact wpAny_pyHash_str h
  eqBool := fun hu hv h => by
    rcases keyIs_shape hu with ⟨i, t, rfl, rfl⟩ | ⟨x, t, rfl, rfl⟩
    · rcases keyIs_shape hv with ⟨j, u, rfl, rfl⟩ | ⟨y, u, rfl, rfl⟩
      · rw [key_ll] at h; exact wpAny_eqBool_int h
      · rw [key_lr] at h; exact SeqAt.EqAt.int_str i t y u _ _ _ _ h
    · rcases keyIs_shape hv with ⟨j, u, rfl, rfl⟩ | ⟨y, u, rfl, rfl⟩
      · rw [key_rl] at h; exact SeqAt.EqAt.str_int x t j u _ _ _ _ h
      · rw [key_rr] at h; exact wpAny_eqBool_str h
  «strs» := fun k x t v h => by
    rcases keyIs_shape h with ⟨i, u, rfl, e⟩ | ⟨y, u, rfl, e⟩
    · exact nomatch e
    · injection e with e1 _
      subst e1
      cases v <;> rfl

end L2

namespace L2
open PySem PySem.Spec PyProof.Rows

/-- a value, without the heap -/
inductive V where
  | non | bl (b : Bool) | int (i : Int) | str (x : Str) | byt (b : Array UInt8) | flt (b : UInt64) | ref (a : Addr) | ty (n : String)
  deriving DecidableEq

def RelV : V → Value → Prop
  | .non, u => u = Value.none
  | .bl b, u => u = Value.bool b
  | .int i, u => ∃ t, u = Value.int i t
  | .str x, u => ∃ t, u = Value.str x t
  | .byt b, u => ∃ t, u = Value.bytes b t
  | .flt b, u => ∃ t, u = Value.float b t
  | .ref a, u => u = Value.ref a
  | .ty n, u => u = Value.type n

abbrev Vals : List V → List Value → Prop := Paired RelV
theorem Vals.length {xs : List V} {us : List Value} (r : Vals xs us) : xs.length = us.length := Paired.length r
theorem Vals.get : ∀ {xs : List V} {us : List Value} {i : Nat} {x : V}, Vals xs us → xs[i]? = some x → ∃ u, us[i]? = some u ∧ RelV x u
  | _, _, _, _, .nil, e => by simp at e
  | _, _, 0, _, .cons r _, e => by simp at e; subst e; exact ⟨_, rfl, r⟩
  | _, _, i + 1, x, .cons _ t, e => by
    obtain ⟨u, h1, h2⟩ := Vals.get (i := i) (x := x) t (by simpa using e)
    exact ⟨u, by simpa using h1, h2⟩
theorem Vals.set {x : V} {u : Value} (r : RelV x u) : ∀ {xs : List V} {us : List Value} (i : Nat), Vals xs us → Vals (xs.set i x) (us.set i u)
  | _, _, _, .nil => .nil
  | _, _, 0, .cons _ t => .cons r t
  | _, _, i + 1, .cons q t => .cons q (Vals.set r i t)
theorem Vals.append : ∀ {xs ys : List V} {us ws : List Value}, Vals xs us → Vals ys ws → Vals (xs ++ ys) (us ++ ws)
  | _, _, _, _, .nil, s => s
  | _, _, _, _, .cons r t, s => .cons r (Vals.append t s)
theorem Vals.take : ∀ {xs : List V} {us : List Value} (n : Nat), Vals xs us → Vals (xs.take n) (us.take n)
  | _, _, 0, _ => .nil
  | _, _, _ + 1, .nil => .nil
  | _, _, n + 1, .cons r t => .cons r (Vals.take n t)
theorem Vals.drop : ∀ {xs : List V} {us : List Value} (n : Nat), Vals xs us → Vals (xs.drop n) (us.drop n)
  | _, _, 0, r => r
  | _, _, _ + 1, .nil => .nil
  | _, _, n + 1, .cons _ t => Vals.drop n t
theorem Vals.none_of : ∀ {xs : List V} {us : List Value} {i : Nat}, Vals xs us → xs[i]? = none → us[i]? = none := fun {xs us i} r e => by
  have h1 := r.length
  have h2 : xs.length ≤ i := List.getElem?_eq_none_iff.mp e
  exact List.getElem?_eq_none_iff.mpr (by omega)

def RelO : Option V → Option Value → Prop
  | some v, some u => RelV v u
  | none, none => True
  | _, _ => False
def KV {κ : Type} : List (κ × V) → List (κ × Value) → Prop := Paired fun (p : κ × V) (q : κ × Value) => p.1 = q.1 ∧ RelV p.2 q.2

/-- a key of a dict (00_mix): an int or a text -/
def kV : Key → V
  | .inl i => .int i
  | .inr x => .str x

/-- what stands at a tracked address -/
inductive HO where
  /-- a list -/
  | lst (xs : List V)
  /-- a tuple (never changes) -/
  | tup (xs : List V)
  /-- a dict whose keys are ints and texts; one whose keys are tuples of ints and texts (the empty one is both) -/
  | dK (kvs : List (Key × V)) | dT (kvs : List (List Key × V))
  /-- a set of ints: its members, its size -/
  | set (S : Int → Bool) (n : Nat)
  /-- an instance of the class at C, its dict at dx, its attributes -/
  | ins (C dx : Addr) (fs : List (Str × V))
  /-- the dict of the instance at x -/
  | own (x : Addr)
  /-- the dict of an exception -/
  | xd (fs : List (Str × V))
  /-- a bound method, f of x -/
  | met (f x : Addr)
  /-- a range object lo, lo + 1, .. below hi -/
  | rng (lo hi : Int)
  /-- a thing that is known to the object (the script; a dict while a loop walks it): read, never written while it is so -/
  | frz (o : Obj) (u : HO)
  /-- a code object's table -/
  | tbl (ps : Array Value)
  /-- any other thing, by what is true of its one object (a def of one's own: SetO a S n := HO.ext fun h => ..) -/
  | ext (φ : Heap → Prop)

abbrev Hp := Addr → Option HO
def upd (H : Hp) (a : Addr) (o : HO) : Hp := fun b => if b = a then some o else H b
theorem upd_same {H : Hp} {a : Addr} {o : HO} : upd H a o a = some o := by unfold upd; rw [if_pos rfl]
theorem upd_ne {H : Hp} {a b : Addr} {o : HO} (h : b ≠ a) : upd H a o b = H b := by unfold upd; rw [if_neg h]
theorem upd_upd {H : Hp} {a : Addr} {o u : HO} : upd (upd H a o) a u = upd H a u := by
  funext b; unfold upd; split <;> rfl
theorem ne_of_none {H : Hp} {a b : Addr} {o : HO} (h : H a = some o) (h' : H b = none) : a ≠ b := by
  intro e; subst e; rw [h] at h'; cases h'

section
variable (P : Program) (w : World)
def ObjOk (H : Hp) (h : Heap) (a : Addr) : HO → Prop
  | .lst xs => xs.length ≤ sizeLine ∧ ∃ (its : List Value) (n : Nat), Vals xs its ∧ h.get? a = some { cls := .type "list", data := .seq its.toArray n }
  | .tup xs => xs.length ≤ sizeLine ∧ ∃ its : List Value, Vals xs its ∧ IsTup h a its.toArray
  | .dK kvs => kvs.length ≤ sizeLine ∧ (a == sysModules) = false ∧ ∃ vs, KV kvs vs ∧ h.DictOf (mixKind P w) a vs
  | .dT kvs => kvs.length ≤ sizeLine ∧ (a == sysModules) = false ∧ ∃ xs : List (List Key × Addr × Value),
      Paired (fun (p : List Key × V) (q : List Key × Addr × Value) => p.1 = q.1 ∧ H q.2.1 = some (.tup (p.1.map kV)) ∧ RelV p.2 q.2.2) kvs xs ∧
      ∃ o es ep, h.get? a = some o ∧ o.ExactDict ∧ o.data = .dict es ep ∧ es.toList = xs.map (entryOfKey (tupleKind (mixKind P w))) ∧ (xs.map (·.1)).Nodup
  | .set S n => h.SetOf (intKind P w) a S n
  | .ins C dx fs => H dx = some (.own a) ∧ fs.length ≤ 1000 ∧ dx ≠ a ∧ h.get? a = some (PySem.W.instObj C dx) ∧
      ∃ mA, h.Ns1 dx mA ∧ (∀ f, RelO (fs.lookup f) (mA f)) ∧ PySem.Within mA (fs.map (·.1))
  | .own _ => ∃ o, h.get? a = some o
  | .xd fs => ∃ mA, h.Ns1 a mA ∧ ∀ f, RelO (fs.lookup f) (mA f)
  | .rng lo hi => ∃ t u v, h.get? a = some { cls := .type "range", data := .fields #[.int lo t, .int hi u, .int 1 v] }
  | .frz o u => h.get? a = some o ∧ ObjOk H h a u
  | .tbl ps => h.get? a = some { cls := .none, data := .fields ps }
  | .met f x => h.get? a = some (PySem.W.methodObj (.ref f) (.ref x))
  | .ext φ => φ h ∧ (∃ o, h.get? a = some o) ∧ ∀ h1 h2 : Heap, φ h1 → (∀ o, h1.get? a = some o → h2.get? a = some o) → φ h2
/-- the abstract heap is held -/
def HOk (H : Hp) (h : Heap) : Prop := ∀ a o, H a = some o → ObjOk P w H h a o
end

section
variable {P : Program} {w : World} {H H' : Hp} {h h' : Heap} {a : Addr} {o : HO}
theorem ObjOk.lt (x : ObjOk P w H h a o) : a < h.objs.size := by
  cases o with
  | lst xs => obtain ⟨_, _, _, _, e⟩ := x; exact Heap.lt_size e
  | tup xs => obtain ⟨_, _, _, p⟩ := x; exact p.lt
  | dK kvs => obtain ⟨_, _, _, _, o, _, _, e, _⟩ := x; exact Heap.lt_size e
  | dT kvs => obtain ⟨_, _, _, _, o, _, _, e, _⟩ := x; exact Heap.lt_size e
  | set S n => obtain ⟨o, _, _, _, e, _⟩ := x; exact Heap.lt_size e
  | ins C dx fs => obtain ⟨_, _, _, e, _⟩ := x; exact Heap.lt_size e
  | own y => obtain ⟨_, e⟩ := x; exact Heap.lt_size e
  | xd fs => obtain ⟨_, ⟨_, _, _, e, _⟩, _⟩ := x; exact Heap.lt_size e
  | rng lo hi => obtain ⟨_, _, _, e⟩ := x; exact Heap.lt_size e
  | frz ob u => obtain ⟨e, _⟩ := x; exact Heap.lt_size e
  | tbl ps => exact Heap.lt_size (show h.get? a = some _ from x)
  | met f y => exact Heap.lt_size (show h.get? a = some _ from x)
  | ext φ => obtain ⟨_, ⟨_, e⟩, _⟩ := x; exact Heap.lt_size e
theorem Paired.mapP {α β : Type} {F G : α → β → Prop} : ∀ {l₁ : List α} {l₂ : List β}, Paired F l₁ l₂ → (∀ a b, F a b → G a b) → Paired G l₁ l₂
  | _, _, .nil, _ => .nil
  | _, _, .cons r t, f => .cons (f _ _ r) (Paired.mapP t f)
/-- what an object's description leans on: its own object, its own dict, the tuples -/
theorem ObjOk.stay (x : ObjOk P w H h a o) (k : ∀ b u, (b = a ∨ H b = some (.own a)) → h.get? b = some u → h'.get? b = some u)
    (ho : ∀ b, H b = some (.own a) → H' b = some (.own a)) (ht : ∀ b xs, H b = some (.tup xs) → H' b = some (.tup xs)) : ObjOk P w H' h' a o := by
  induction o with
  | lst xs => obtain ⟨z, its, n, r, e⟩ := x; exact ⟨z, its, n, r, k _ _ (.inl rfl) e⟩
  | tup xs => obtain ⟨z, its, r, ob, e, c⟩ := x; exact ⟨z, its, r, ob, k _ _ (.inl rfl) e, c⟩
  | dK kvs => obtain ⟨z, y, vs, r, ob, es, ep, e, c⟩ := x; exact ⟨z, y, vs, r, ob, es, ep, k _ _ (.inl rfl) e, c⟩
  | dT kvs =>
    obtain ⟨z, y, xs, r, ob, es, ep, e, c⟩ := x
    exact ⟨z, y, xs, Paired.mapP r fun p q z => ⟨z.1, ht _ _ z.2.1, z.2.2⟩, ob, es, ep, k _ _ (.inl rfl) e, c⟩
  | set S n => obtain ⟨ob, es, ep, t, e, c⟩ := x; exact ⟨ob, es, ep, t, k _ _ (.inl rfl) e, c⟩
  | ins C dx fs =>
    obtain ⟨d, z, ne, e, mA, ⟨od, es, ep, e2, c⟩, r⟩ := x
    exact ⟨ho _ d, z, ne, k _ _ (.inl rfl) e, mA, ⟨od, es, ep, k _ _ (.inr d) e2, c⟩, r⟩
  | own y => obtain ⟨ob, e⟩ := x; exact ⟨ob, k _ _ (.inl rfl) e⟩
  | xd fs => obtain ⟨mA, ⟨od, es, ep, e, c⟩, r⟩ := x; exact ⟨mA, ⟨od, es, ep, k _ _ (.inl rfl) e, c⟩, r⟩
  | rng lo hi => obtain ⟨t, u, v, e⟩ := x; exact ⟨t, u, v, k _ _ (.inl rfl) e⟩
  | frz ob u ih => obtain ⟨e, q⟩ := x; exact ⟨k _ _ (.inl rfl) e, ih q⟩
  | tbl ps =>
    have e : h.get? a = some { cls := .none, data := .fields ps } := x
    show h'.get? a = some { cls := .none, data := .fields ps }
    exact k a _ (.inl rfl) e
  | met f y =>
    have e : h.get? a = some (PySem.W.methodObj (.ref f) (.ref y)) := x
    show h'.get? a = some (PySem.W.methodObj (.ref f) (.ref y))
    exact k a _ (.inl rfl) e
  | ext φ => obtain ⟨p, ⟨o, e⟩, st⟩ := x; exact ⟨st _ _ p fun o q => k _ _ (.inl rfl) q, ⟨o, k _ _ (.inl rfl) e⟩, st⟩
theorem HOk.lt (x : HOk P w H h) (e : H a = some o) : a < h.objs.size := (x a o e).lt
theorem HOk.fresh (x : HOk P w H h) (e : h.objs.size ≤ a) : H a = none := by
  cases q : H a with
  | none => rfl
  | some u => exact absurd (Nat.lt_of_lt_of_le (x.lt q) e) (Nat.lt_irrefl _)
/-- every object of the heap is kept -/
theorem HOk.kept (x : HOk P w H h) (k : ∀ b u, h.get? b = some u → h'.get? b = some u) : HOk P w H h' := fun a o e =>
  (x a o e).stay (fun b u _ q => k b u q) (fun _ q => q) fun _ _ q => q
/-- a new object is laid and tracked -/
theorem HOk.laid (x : HOk P w H h) (k : ∀ b u, h.get? b = some u → h'.get? b = some u) (hp : h.objs.size ≤ a) (new : ObjOk P w (upd H a o) h' a o) : HOk P w (upd H a o) h' := fun b u e => by
  have hn := x.fresh hp
  by_cases hb : b = a
  · subst hb; rw [upd_same] at e; cases e; exact new
  · rw [upd_ne hb] at e
    exact (x b u e).stay (fun c v _ q => k c v q) (fun c q => by rw [upd_ne (ne_of_none q hn)]; exact q) fun c xs q => by rw [upd_ne (ne_of_none q hn)]; exact q
end

/-- what may be read as u: it is u, or a known u -/
def Rd (H : Hp) (a : Addr) (u : HO) : Prop := H a = some u ∨ ∃ o, H a = some (.frz o u)
theorem Rd.of {H : Hp} {a : Addr} {u : HO} (h : H a = some u) : Rd H a u := .inl h
theorem Rd.ok {P : Program} {w : World} {H : Hp} {h : Heap} {a : Addr} {u : HO} (r : Rd H a u) (x : HOk P w H h) : ObjOk P w H h a u := by
  rcases r with r | ⟨o, r⟩
  · exact x a u r
  · obtain ⟨_, q⟩ := x a _ r
    exact q
/-- what may be written -/
def Mut : Option HO → Prop
  | some (.lst _) => True
  | some (.dK _) => True
  | some (.dT _) => True
  | some (.set _ _) => True
  | some (.ins _ _ _) => True
  | some (.ext _) => True
  | _ => False
section
variable {P : Program} {w : World} {H : Hp} {h h' : Heap} {x e : Addr} {o' : HO}
/-- the object at e is changed: x itself, or the dict of the instance x -/
theorem HOk.write (ok : HOk P w H h) (mu : Mut (H x)) (he : e = x ∨ H e = some (.own x)) (k : ∀ b u, b ≠ e → h.get? b = some u → h'.get? b = some u) (heo : ∃ u, h'.get? e = some u)
    (new : ObjOk P w (upd H x o') h' x o') : HOk P w (upd H x o') h' := fun b u q => by
  have nown : ∀ c y, H c = some (.own y) → c ≠ x := fun c y r z => by subst z; rw [r] at mu; exact mu
  have ntup : ∀ c xs, H c = some (.tup xs) → c ≠ x := fun c xs r z => by subst z; rw [r] at mu; exact mu
  by_cases hb : b = x
  · subst hb; rw [upd_same] at q; cases q; exact new
  · rw [upd_ne hb] at q
    by_cases hbe : b = e
    · have q' : H b = some (.own x) := by
        rcases he with z | z
        · exact absurd (hbe.trans z) hb
        · rw [hbe]; exact z
      rw [q] at q'; cases q'
      obtain ⟨v, hv⟩ := heo
      exact ⟨v, by rw [hbe]; exact hv⟩
    · refine (ok b u q).stay (fun c v hc r => k c v ?_ r) (fun c r => by rw [upd_ne (nown c b r)]; exact r) fun c xs r => by rw [upd_ne (ntup c xs r)]; exact r
      rcases hc with rfl | hc
      · exact hbe
      · rintro rfl
        rcases he with z | z
        · exact nown c b hc z
        · rw [hc] at z; cases z; exact hb rfl
end

/-! ### kept unless tracked; of the frames at fs (the callers') the slots may change (an exception that passes writes there); of the records at ex (iterators) nothing is said -/
structure Un (fs ex : List Addr) (H H' : Hp) (h h' : Heap) : Prop where
  keep : ∀ b o, h.get? b = some o → H b = none → b ∉ fs → b ∉ ex → h'.get? b = some o
  slot : ∀ b o, h.get? b = some o → H b = none → b ∈ fs → b ∉ ex → ∃ sl, h'.get? b = some { o with slots := sl }
  free : ∀ b o, h.get? b = some o → H b = none → b ∉ ex → H' b = none
  there : ∀ b o, h.get? b = some o → b ∉ ex → ∃ o', h'.get? b = some o'
  tups : ∀ b xs, H b = some (.tup xs) → H' b = some (.tup xs)
  frzs : ∀ b o u, H b = some (.frz o u) → H' b = some (.frz o u)
  tbls : ∀ b ps, H b = some (.tbl ps) → ∃ more, H' b = some (.tbl (ps ++ more))
section
variable {fs fs' ex ex' : List Addr} {H H1 H2 : Hp} {h h1 h2 h' : Heap} {a x e : Addr} {o : HO}
theorem Un.any (u : Un fs ex H H1 h h1) {b : Addr} {ob : Obj} (q : h.get? b = some ob) (n : H b = none) (hx : b ∉ ex) : ∃ sl, h1.get? b = some { ob with slots := sl } := by
  by_cases hb : b ∈ fs
  · exact u.slot b ob q n hb hx
  · exact ⟨ob.slots, u.keep b ob q n hb hx⟩
theorem Un.trans (a : Un fs ex H H1 h h1) (b : Un fs ex H1 H2 h1 h2) : Un fs ex H H2 h h2 where
  keep := fun c ob q n hc hx => b.keep c ob (a.keep c ob q n hc hx) (a.free c ob q n hx) hc hx
  slot := fun c ob q n hc hx => by
    obtain ⟨sl, e1⟩ := a.slot c ob q n hc hx
    obtain ⟨sl', e2⟩ := b.slot c _ e1 (a.free c ob q n hx) hc hx
    exact ⟨sl', e2⟩
  free := fun c ob q n hx => by
    obtain ⟨o', e1⟩ := a.there c ob q hx
    exact b.free c o' e1 (a.free c ob q n hx) hx
  there := fun c ob q hx => by
    obtain ⟨o', e1⟩ := a.there c ob q hx
    exact b.there c o' e1 hx
  tups := fun c xs q => b.tups c xs (a.tups c xs q)
  frzs := fun c ob xs q => b.frzs c ob xs (a.frzs c ob xs q)
  tbls := fun c ps q => by
    obtain ⟨m1, e1⟩ := a.tbls c ps q
    obtain ⟨m2, e2⟩ := b.tbls c _ e1
    exact ⟨m1 ++ m2, by rw [e2, Array.append_assoc]⟩
theorem Un.kept (k : ∀ b u, h.get? b = some u → h'.get? b = some u) : Un fs ex H H h h' :=
  ⟨fun b ob q _ _ _ => k b ob q, fun b ob q _ _ _ => ⟨ob.slots, k b ob q⟩, fun _ _ _ n _ => n, fun b ob q _ => ⟨ob, k b ob q⟩, fun _ _ q => q, fun _ _ _ q => q, fun _ ps q => ⟨#[], by rw [q]; simp⟩⟩
theorem Un.refl : Un fs ex H H h h := Un.kept fun _ _ q => q
theorem Un.laid (k : ∀ b u, h.get? b = some u → h'.get? b = some u) (hp : h.objs.size ≤ a) (hn : H a = none) : Un fs ex H (upd H a o) h h' where
  keep := fun b u q _ _ _ => k b u q
  slot := fun b u q _ _ _ => ⟨u.slots, k b u q⟩
  free := fun b u q n _ => by rw [upd_ne (Nat.ne_of_lt (Nat.lt_of_lt_of_le (Heap.lt_size q) hp))]; exact n
  there := fun b u q _ => ⟨u, k b u q⟩
  tups := fun b xs q => by rw [upd_ne (ne_of_none q hn)]; exact q
  frzs := fun b u xs q => by rw [upd_ne (ne_of_none q hn)]; exact q
  tbls := fun b ps q => ⟨#[], by rw [upd_ne (ne_of_none q hn), q]; simp⟩
theorem Un.write (mu : Mut (H x)) (he : e = x ∨ H e = some (.own x)) (k : ∀ b u, b ≠ e → h.get? b = some u → h'.get? b = some u) (heo : ∃ u, h'.get? e = some u) : Un fs ex H (upd H x o) h h' := by
  have hx : ∀ b, H b = none → b ≠ x := fun b n z => by subst z; rw [n] at mu; exact mu
  have hb : ∀ b, H b = none → b ≠ e := fun b n z => by
    subst z
    rcases he with r | r
    · exact hx b n r
    · rw [n] at r; cases r
  have hm : ∀ b u, H b = some u → ¬ Mut (some u) → b ≠ x := fun b u q nm z => by subst z; rw [q] at mu; exact nm mu
  refine ⟨fun b u q n _ _ => k b u (hb b n) q, fun b u q n _ _ => ⟨u.slots, k b u (hb b n) q⟩, fun b u q n _ => by rw [upd_ne (hx b n)]; exact n, fun b u q _ => ?_,
    fun b xs q => by rw [upd_ne (hm b _ q fun z => z)]; exact q, fun b u xs q => by rw [upd_ne (hm b _ q fun z => z)]; exact q, fun b ps q => ⟨#[], by rw [upd_ne (hm b _ q fun z => z), q]; simp⟩⟩
  by_cases hbe : b = e
  · subst hbe; exact heo
  · exact ⟨u, k b u hbe q⟩
theorem Un.mono (u : Un fs ex H H1 h h1) (hs : ∀ b ∈ fs, b ∈ fs') (hx : ∀ b ∈ ex, b ∈ ex') : Un fs' ex' H H1 h h1 :=
  ⟨fun b ob q n hb he => u.keep b ob q n (fun z => hb (hs b z)) fun z => he (hx b z), fun _ _ q n _ he => u.any q n fun z => he (hx _ z), fun b ob q n he => u.free b ob q n fun z => he (hx b z), fun b ob q he => u.there b ob q fun z => he (hx b z), u.tups, u.frzs, u.tbls⟩
end

/-! ### the heap without what is tracked -/
def trk (h : Heap) (H : Hp) : List Addr := (List.range h.objs.size).filter fun a => (H a).isSome
def hidT (h : Heap) (H : Hp) : Heap := PySem.W.hideAll h (trk h H)
theorem hidT_size (h : Heap) (H : Hp) : (hidT h H).objs.size = h.objs.size := PySem.W.hideAll_size _ _
theorem hidT_get {h : Heap} {H : Hp} {b : Addr} {o : Obj} (e : h.get? b = some o) (n : H b = none) : (hidT h H).get? b = some o :=
  PySem.W.hideAll_get _ e fun hm => by
    have q : (H b).isSome = true := (List.mem_filter.mp hm).2
    rw [n] at q; simp at q
theorem of_hidT {h : Heap} {H : Hp} {b : Addr} {o : Obj} (e : (hidT h H).get? b = some o) : h.get? b = some o ∧ H b = none := by
  have e' : h.get? b = some o := PySem.W.of_hideAll (trk h H) e
  refine ⟨e', ?_⟩
  cases q : H b with
  | none => rfl
  | some x =>
    have hm : b ∈ trk h H := List.mem_filter.mpr ⟨List.mem_range.mpr (Heap.lt_size e'), by simp [q]⟩
    have z : (hidT h H).get? b = none := PySem.W.hideAll_none (trk h H) hm
    rw [z] at e; cases e

/-! ### OpenK's ledger, filled with every new object but one -/
def allNews (g h : Heap) (L : Addr) : List (Addr × Obj) := (List.range h.objs.size).filterMap fun a => if a = L ∨ (g.get? a).isSome = true then none else (h.get? a).map fun o => (a, o)
def rest (g h : Heap) (L d : Addr) : List (Addr × Obj) := (allNews g h L).filter fun p => decide (p.1 ≠ d)
end L2

namespace L2
open PySem PySem.Spec PyProof.Rows

/-- the module's facts, over the base: the heap at the law's entry without what is tracked there -/
structure Mod (K : PySem.W.Frag) (mg : Str → Option Value) (base : Heap) : Prop where
  kin : K.In base
  glob : base.Ns mainGlobals mg
  blt : ∃ mb, base.Ns builtinsNs mb ∧ ∀ x : Str, x ≠ "__name__" → mb x = bootBuiltins x
  nolimit : base.NoLimit

/-- what is being handled: nothing, or an exception on which no context hangs, known to the object -/
def HdOk (A : Around) (H : Hp) : Prop := A.handled = none ∨ ∃ (a : Addr) (o : Obj) (vs : Array Value), A.handled = some (.ref a) ∧ H a = some (.frz o (.own 0)) ∧ o.data = .fields vs ∧ vs[2]? = some .none ∧ ∃ C, o.cls = .ref C
theorem HdOk.same {A : Around} {H H' : Hp} (x : HdOk A H) (k : ∀ b o u, H b = some (.frz o u) → H' b = some (.frz o u)) : HdOk A H' := by
  rcases x with x | ⟨a, o, vs, h1, h2, h3⟩
  · exact .inl x
  · exact .inr ⟨a, o, vs, h1, k _ _ _ h2, h3⟩
/-- the context: a def's body (or a comprehension's block) running. base: fixed through the whole law; s₀, H₀: the entry; outer: the frames whose slots others may change (a def's callers); stack: all frames that run;
   ex: iterators that were made ahead of the entry and are walked here (a comprehension's); fn: the names whose cells were made at the entry (a def: all; a comprehension's block: its own); calm: not within an except suite; pn: pins that every state bears; xe: what is wanted of an exception that leaves the code -/
structure Cx where
  prog : Program
  w : World
  K : PySem.W.Frag
  mg : Str → Option Value
  base : Heap
  A : Around
  N : List Str
  s₀ : Shared
  H₀ : Hp
  env : Env
  outer : List Env
  stack : List Env
  ex : List Addr
  fn : Str → Bool
  calm : Bool
  pn : List (Addr × Obj)
  xe : Value → Shared → Prop
/-- the callers' frames -/
def frs (l : List Env) : List Addr := l.filterMap (·.frame)
abbrev Cx.fs (X : Cx) : List Addr := frs X.outer

def Vis (sc : Scope) (x : Str) : Prop := sc.names.lookup x = some .local ∨ sc.names.lookup x = some .cell ∨ sc.names.lookup x = some .free
def Loc (sc : Scope) (x : Str) : Prop := sc.names.lookup x = some .local ∨ sc.names.lookup x = some .cell
def Look (env : Env) (h : Heap) (m : Str → Option Value) (x : Str) (u : Value) : Prop :=
  (env.kindOf x = some .local ∧ m x = some u) ∨ ((env.kindOf x = some .cell ∨ env.kindOf x = some .free) ∧ ∃ c, env.cells.lookup x = some c ∧ h.IsCell c (some u))

structure Cx.Ok (X : Cx) : Prop where
  mod : Mod X.K X.mg X.base
  kind : X.env.scope.kind = .function
  glob : X.env.globals = mainGlobals
  blt : X.env.builtins = builtinsNs
  above : X.s₀.heap.objs.size ≤ X.env.locals
  inj : ∀ x y c, X.env.cells.lookup x = some c → X.env.cells.lookup y = some c → x = y
  has : ∀ x, (X.env.kindOf x = some .cell ∨ X.env.kindOf x = some .free) → ∃ c, X.env.cells.lookup x = some c
  cab : ∀ x c, X.fn x = true → X.env.cells.lookup x = some c → X.s₀.heap.objs.size ≤ c
  hd : X.calm = true → X.A.handled = none
  frames : X.A.frames = some X.stack
  stk : X.stack = X.outer ∨ (X.stack = X.env :: X.outer ∧ X.env.frame = some X.env.locals)
  exf : ∀ b ∈ X.ex, b ≠ X.env.locals ∧ ∀ x c, X.env.cells.lookup x = some c → c ≠ b
  bs : ∀ b o, X.base.get? b = some o → X.s₀.heap.get? b = some o ∧ X.H₀ b = none
  bsz : X.base.objs.size ≤ X.s₀.heap.objs.size
  noex : ∀ b o, X.base.get? b = some o → b ∉ X.ex
  exfs : ∀ b ∈ X.ex, b ∉ X.fs
  funs : X.s₀.heap.FunFrames X.base X.outer
  frf : ∀ b ∈ X.fs, X.H₀ b = none

structure Inv (X : Cx) (pins : List (Addr × Obj)) (σ : List (Option V)) (H : Hp) (s : Shared) : Prop where
  ok : X.Ok
  os : s.os = X.s₀.os
  bare : AllBare s.gens
  base : Un X.fs X.ex X.H₀ H X.s₀.heap s.heap
  loc : ∃ m, s.heap.Ns X.env.locals m ∧ ∀ (i : Nat) (x : Str) (v : V), X.N[i]? = some x → σ[i]? = some (some v) → Vis X.env.scope x → ∃ u, RelV v u ∧ Look X.env s.heap m x u
  cell : ∀ x c, X.env.cells.lookup x = some c → ∃ v, s.heap.IsCell c v
  free : H X.env.locals = none
  freeC : ∀ x c, X.env.cells.lookup x = some c → H c = none
  pin : ∀ p ∈ X.pn ++ pins, s.heap.get? p.1 = some p.2 ∧ H p.1 = none ∧ p.1 ≠ X.env.locals ∧ p.1 ∉ X.fs ∧ ∀ v, p.2.data ≠ .cell v
  hok : HOk X.prog X.w H s.heap
  len : σ.length = X.N.length
  hdk : HdOk X.A H

section
variable {X : Cx} {pins : List (Addr × Obj)} {σ : List (Option V)} {H H' : Hp} {s : Shared} {h' : Heap}

theorem Cx.Ok.nofr (ok : X.Ok) {b : Addr} {o : Obj} (e : X.base.get? b = some o) : b ∉ X.fs := fun hb => by
  have := (ok.funs.mem hb).1
  rw [e] at this; cases this
theorem Inv.bs (I : Inv X pins σ H s) : ∀ b o, X.base.get? b = some o → s.heap.get? b = some o ∧ H b = none := fun b o e =>
  ⟨I.base.keep b o (I.ok.bs b o e).1 (I.ok.bs b o e).2 (I.ok.nofr e) (I.ok.noex b o e), I.base.free b o (I.ok.bs b o e).1 (I.ok.bs b o e).2 (I.ok.noex b o e)⟩
theorem Inv.bk (I : Inv X pins σ H s) : ∀ b o, X.base.get? b = some o → s.heap.get? b = some o := fun b o e => (I.bs b o e).1
theorem Inv.mod (I : Inv X pins σ H s) : Mod X.K X.mg X.base := I.ok.mod
theorem Inv.kIn (I : Inv X pins σ H s) : X.K.In s.heap := I.ok.mod.kin.keeps I.bk
theorem Inv.nolimit (I : Inv X pins σ H s) : s.heap.NoLimit := I.ok.mod.nolimit.keeps I.bk
/-- the frame over the base: for OpenK's rules (K.In X.base is I.mod.kin) -/
theorem Inv.fr (I : Inv X pins σ H s) : ∃ m, Fr X.base X.env.locals s.heap m :=
  let ⟨m, hn, _⟩ := I.loc
  ⟨m, hn, I.bk, Nat.le_trans I.ok.bsz I.ok.above⟩
theorem Inv.lt (I : Inv X pins σ H s) : X.env.locals < s.heap.objs.size := let ⟨_, hn, _⟩ := I.loc; hn.lt
theorem Inv.sz (I : Inv X pins σ H s) : X.s₀.heap.objs.size ≤ s.heap.objs.size := Nat.le_trans I.ok.above (Nat.le_of_lt I.lt)
theorem Inv.nofs (I : Inv X pins σ H s) {a : Addr} (h : s.heap.objs.size ≤ a) : a ∉ X.fs := fun hb => by
  obtain ⟨_, o, ho, _⟩ := I.ok.funs.mem hb
  exact absurd (Nat.lt_of_lt_of_le (Heap.lt_size ho) (Nat.le_trans I.sz h)) (Nat.lt_irrefl _)
theorem Inv.cne (I : Inv X pins σ H s) : ∀ x c, X.env.cells.lookup x = some c → c ≠ X.env.locals := fun x c e z => by
  obtain ⟨v, o, ho, hd⟩ := I.cell x c e
  obtain ⟨m, ⟨o', es, ep, ho', hd', _⟩, _⟩ := I.loc
  rw [z, ho'] at ho; cases ho; rw [hd'] at hd; cases hd
theorem Inv.funs (I : Inv X pins σ H s) : s.heap.FunFrames X.base X.outer := by
  have all : ∀ (l : List Env), (∀ b ∈ frs l, b ∈ X.fs) → X.s₀.heap.FunFrames X.base l → s.heap.FunFrames X.base l := by
    intro l
    induction l with
    | nil => intro _ _; trivial
    | cons env r ih =>
      intro hs hl
      obtain ⟨hk, ⟨L, o, hf, hn, ho, hd⟩, hr⟩ := hl
      have hL : L ∈ X.fs := hs L (by unfold frs; rw [List.filterMap_cons, hf]; exact List.mem_cons_self)
      obtain ⟨sl, e⟩ := I.base.slot L o ho (I.ok.frf L hL) hL fun z => I.ok.exfs L z hL
      exact ⟨hk, ⟨L, _, hf, hn, e, hd⟩, ih (fun b hb => hs b (by unfold frs; rw [List.filterMap_cons, hf]; exact List.mem_cons_of_mem _ hb)) hr⟩
  exact all X.outer (fun _ hb => hb) I.ok.funs

/-- the frames that run, for a call -/
theorem Inv.stack (I : Inv X pins σ H s) : s.heap.FunFrames X.base X.stack := by
  rcases I.ok.stk with e | ⟨e, hf⟩
  · rw [e]; exact I.funs
  · rw [e]
    obtain ⟨m, hn, _⟩ := I.loc
    refine .cons (by rw [I.ok.kind]; decide) hf hn ?_ I.funs
    exact Heap.get?_none_of_le (Nat.le_trans I.ok.bsz I.ok.above)
theorem Inv.stkSub (I : Inv X pins σ H s) : ∀ b ∈ frs X.stack, b ∈ X.env.locals :: X.fs := fun b hb => by
  rcases I.ok.stk with e | ⟨e, hf⟩
  · rw [e] at hb; exact List.mem_cons_of_mem _ hb
  · rw [e] at hb
    unfold frs at hb
    rw [List.filterMap_cons, hf] at hb
    exact hb
theorem Inv.stkFree (I : Inv X pins σ H s) : ∀ b ∈ frs X.stack, H b = none := fun b hb => by
  rcases List.mem_cons.mp (I.stkSub b hb) with e | hb
  · rw [e]; exact I.free
  · obtain ⟨_, o, ho, _⟩ := I.ok.funs.mem hb
    exact I.base.free b o ho (I.ok.frf b hb) fun z => I.ok.exfs b z hb

/-- THE STEP: the untracked objects but the frame and the records at ch are kept (the callers' frames up to slots), the frame's map is kept, the new abstract heap is held -/
theorem Inv.step {g' : Array GenState} {t' : Nat} {d' : Drawn} {ch : List Addr} (I : Inv X pins σ H s)
    (hch : ∀ b ∈ ch, (b ∈ X.ex ∨ X.s₀.heap.objs.size ≤ b) ∧ b ≠ X.env.locals ∧ (∀ x c, X.env.cells.lookup x = some c → c ≠ b) ∧ ∀ p ∈ X.pn ++ pins, p.1 ≠ b)
    (keep : ∀ b o, b ≠ X.env.locals → b ∉ X.fs → b ∉ ch → s.heap.get? b = some o → H b = none → h'.get? b = some o)
    (slot : ∀ b o, b ≠ X.env.locals → b ∈ X.fs → b ∉ ch → s.heap.get? b = some o → H b = none → ∃ sl, h'.get? b = some { o with slots := sl }) (free : ∀ b o, b ∉ ch → s.heap.get? b = some o → H b = none → H' b = none)
    (there : ∀ b o, b ∉ ch → s.heap.get? b = some o → ∃ o', h'.get? b = some o')
    (tups : ∀ b xs, H b = some (.tup xs) → H' b = some (.tup xs)) (frzs : ∀ b o u, H b = some (.frz o u) → H' b = some (.frz o u)) (tbls : ∀ b ps, H b = some (.tbl ps) → ∃ more, H' b = some (.tbl (ps ++ more)))
    (ns : ∀ m, s.heap.Ns X.env.locals m → h'.Ns X.env.locals m) (hok : HOk X.prog X.w H' h') (hg : AllBare g') :
    Inv X pins σ H' { s with heap := h', gens := g', drawn := d', toks := t' } := by
  have neL : ∀ b o, X.s₀.heap.get? b = some o → b ≠ X.env.locals := fun b o e => Nat.ne_of_lt (Nat.lt_of_lt_of_le (Heap.lt_size e) I.ok.above)
  have neC : ∀ b o, X.s₀.heap.get? b = some o → b ∉ X.ex → b ∉ ch := fun b o e hx hb => by
    rcases (hch b hb).1 with z | z
    · exact hx z
    · exact absurd (Nat.lt_of_lt_of_le (Heap.lt_size e) z) (Nat.lt_irrefl _)
  have cellK : ∀ x c, X.env.cells.lookup x = some c → ∀ v, s.heap.IsCell c v → h'.IsCell c v := fun x c e v ⟨o, ho, hd⟩ => by
    have nch : c ∉ ch := fun z => (hch c z).2.2.1 x c e rfl
    by_cases hc : c ∈ X.fs
    · obtain ⟨sl, q⟩ := slot c o (I.cne x c e) hc nch ho (I.freeC x c e)
      exact ⟨_, q, hd⟩
    · exact ⟨o, keep c o (I.cne x c e) hc nch ho (I.freeC x c e), hd⟩
  refine ⟨I.ok, I.os, hg, ⟨fun b o e n hb hx => ?_, fun b o e n hb hx => ?_, fun b o e n hx => ?_, fun b o e hx => ?_, fun b xs e => tups b xs (I.base.tups b xs e), fun b o xs e => frzs b o xs (I.base.frzs b o xs e), fun b ps e => ?_⟩, ?_, fun x c e => ?_, ?_, fun x c e => ?_, fun p hp => ?_, hok, I.len, I.hdk.same frzs⟩
  · exact keep b o (neL b o e) hb (neC b o e hx) (I.base.keep b o e n hb hx) (I.base.free b o e n hx)
  · obtain ⟨sl, e1⟩ := I.base.slot b o e n hb hx
    obtain ⟨sl', e2⟩ := slot b _ (neL b o e) hb (neC b o e hx) e1 (I.base.free b o e n hx)
    exact ⟨sl', e2⟩
  · obtain ⟨o', e1⟩ := I.base.there b o e hx
    exact free b o' (neC b o e hx) e1 (I.base.free b o e n hx)
  · obtain ⟨o', e1⟩ := I.base.there b o e hx
    exact there b o' (neC b o e hx) e1
  · obtain ⟨m1, e1⟩ := I.base.tbls b ps e
    obtain ⟨m2, e2⟩ := tbls b _ e1
    exact ⟨m1 ++ m2, by rw [e2, Array.append_assoc]⟩
  · obtain ⟨m, hn, hl⟩ := I.loc
    refine ⟨m, ns m hn, fun i x v e1 e2 e3 => ?_⟩
    obtain ⟨u, r, l⟩ := hl i x v e1 e2 e3
    refine ⟨u, r, ?_⟩
    rcases l with l | ⟨k, c, e, z⟩
    · exact .inl l
    · exact .inr ⟨k, c, e, cellK x c e _ z⟩
  · obtain ⟨v, z⟩ := I.cell x c e
    exact ⟨v, cellK x c e v z⟩
  · obtain ⟨m, ⟨o, _, _, ho, _⟩, _⟩ := I.loc
    exact free _ o (fun z => (hch _ z).2.1 rfl) ho I.free
  · obtain ⟨v, o, ho, hd⟩ := I.cell x c e
    exact free c o (fun z => (hch c z).2.2.1 x c e rfl) ho (I.freeC x c e)
  · obtain ⟨e, n, ne, nf, d⟩ := I.pin p hp
    have nch : p.1 ∉ ch := fun z => (hch p.1 z).2.2.2 p hp rfl
    exact ⟨keep p.1 p.2 ne nf nch e n, free p.1 p.2 nch e n, ne, nf, d⟩
/-- .. where the frame's own object is kept too -/
theorem Inv.un {t' : Nat} (I : Inv X pins σ H s) (u : Un X.fs [] H H' s.heap h') (hok : HOk X.prog X.w H' h') : Inv X pins σ H' { s with heap := h', toks := t' } := by
  obtain ⟨m, ⟨o, es, ep, ho, r⟩, _⟩ := id I.loc
  obtain ⟨sl, hL⟩ := u.any ho I.free (by simp)
  exact I.step (g' := s.gens) (d' := s.drawn) (ch := []) (fun _ z => nomatch z) (fun b o _ hb _ e n => u.keep b o e n hb (by simp)) (fun b o _ hb _ e n => u.slot b o e n hb (by simp)) (fun b o _ e n => u.free b o e n (by simp)) (fun b o _ e => u.there b o e (by simp)) u.tups u.frzs u.tbls (fun m' hm => by
    obtain ⟨o', es', ep', ho', r'⟩ := hm
    rw [ho] at ho'; cases ho'
    exact ⟨_, es', ep', hL, r'⟩) hok I.bare
/-- behind a call (or a comprehension's block): the slots of this frame may have changed too, the records at ch may have turned -/
theorem Inv.call {g' : Array GenState} {t' : Nat} {d' : Drawn} {ch : List Addr} (I : Inv X pins σ H s) (u : Un (frs X.stack) ch H H' s.heap h') (hok : HOk X.prog X.w H' h') (hg : AllBare g')
    (hch : ∀ b ∈ ch, (b ∈ X.ex ∨ X.s₀.heap.objs.size ≤ b) ∧ b ≠ X.env.locals ∧ (∀ x c, X.env.cells.lookup x = some c → c ≠ b) ∧ ∀ p ∈ X.pn ++ pins, p.1 ≠ b) :
    Inv X pins σ H' { s with heap := h', gens := g', drawn := d', toks := t' } := by
  obtain ⟨m, ⟨o, es, ep, ho, r⟩, _⟩ := id I.loc
  obtain ⟨sl, hL⟩ := u.any ho I.free fun z => (hch _ z).2.1 rfl
  exact I.step (ch := ch) hch (fun b o hL hb hc e n => u.keep b o e n (fun z => (List.mem_cons.mp (I.stkSub b z)).elim hL hb) hc) (fun b o _ _ hc e n => u.any e n hc) (fun b o hc e n => u.free b o e n hc) (fun b o hc e => u.there b o e hc) u.tups u.frzs u.tbls (fun m' hm => by
    obtain ⟨o', es', ep', ho', r'⟩ := hm
    rw [ho] at ho'; cases ho'
    exact ⟨_, es', ep', hL, r'⟩) hok hg
/-- an untracked record of ours (an iterator) has turned -/
theorem Inv.turned {t' : Nat} {it : Addr} (I : Inv X pins σ H s) (k : ∀ b o, b ≠ it → s.heap.get? b = some o → h'.get? b = some o) (hn : H it = none) (hL : it ≠ X.env.locals)
    (h1 : it ∈ X.ex ∨ X.s₀.heap.objs.size ≤ it) (h2 : ∀ x c, X.env.cells.lookup x = some c → c ≠ it) (h3 : ∀ p ∈ X.pn ++ pins, p.1 ≠ it) : Inv X pins σ H { s with heap := h', toks := t' } := by
  have nit : ∀ b u, H b = some u → b ≠ it := fun b u e z => by rw [z, hn] at e; cases e
  refine I.step (g' := s.gens) (d' := s.drawn) (ch := [it]) (fun b hb => ?_) (fun b o _ _ hc e _ => k b o (fun z => hc (by simp [z])) e) (fun b o _ _ hc e _ => ⟨o.slots, k b o (fun z => hc (by simp [z])) e⟩) (fun _ _ _ _ n => n)
    (fun b o hc e => ⟨o, k b o (fun z => hc (by simp [z])) e⟩) (fun _ _ e => e) (fun _ _ _ e => e) (fun b ps e => ⟨#[], by rw [e]; simp⟩) (fun m hm => ?_) (fun b u e => ?_) I.bare
  · have e : b = it := by simpa using hb
    subst e
    exact ⟨h1, hL, h2, h3⟩
  · obtain ⟨o, es, ep, ho, r⟩ := hm
    exact ⟨o, es, ep, k _ o (Ne.symm hL) ho, r⟩
  · refine (I.hok b u e).stay (fun c v hc q => k c v ?_ q) (fun _ q => q) fun _ _ q => q
    rcases hc with z | z
    · rw [z]; exact nit b u e
    · exact nit c _ z
theorem Inv.tok (I : Inv X pins σ H s) (t : Nat) : Inv X pins σ H { s with toks := t } := I.un (h' := s.heap) (t' := t) Un.refl I.hok
/-- all objects kept -/
theorem Inv.kept {t' : Nat} (I : Inv X pins σ H s) (k : ∀ b u, s.heap.get? b = some u → h'.get? b = some u) : Inv X pins σ H { s with heap := h', toks := t' } := I.un (Un.kept k) (I.hok.kept k)
/-- a new object laid and tracked -/
theorem Inv.laid {a : Addr} {o : HO} {t' : Nat} (I : Inv X pins σ H s) (k : ∀ b u, s.heap.get? b = some u → h'.get? b = some u) (hp : s.heap.objs.size ≤ a) (new : ObjOk X.prog X.w (upd H a o) h' a o) :
    Inv X pins σ (upd H a o) { s with heap := h', toks := t' } := I.un (Un.laid k hp (I.hok.fresh hp)) (I.hok.laid k hp new)
/-- an object written -/
theorem Inv.write {x e : Addr} {o : HO} {t' : Nat} (I : Inv X pins σ H s) (mu : Mut (H x)) (he : e = x ∨ H e = some (.own x)) (k : ∀ b u, b ≠ e → s.heap.get? b = some u → h'.get? b = some u) (heo : ∃ u, h'.get? e = some u)
    (new : ObjOk X.prog X.w (upd H x o) h' x o) : Inv X pins σ (upd H x o) { s with heap := h', toks := t' } := I.un (Un.write mu he k heo) (I.hok.write mu he k heo new)
/-- forgetting slots, pins -/
theorem Inv.weak {σ' : List (Option V)} (I : Inv X pins σ H s) (hl : σ'.length = σ.length) (w : ∀ (i : Nat) v, σ'[i]? = some (some v) → σ[i]? = some (some v)) : Inv X pins σ' H s :=
  ⟨I.ok, I.os, I.bare, I.base, let ⟨m, hn, hl'⟩ := I.loc; ⟨m, hn, fun i x v e1 e2 e3 => hl' i x v e1 (w i v e2) e3⟩, I.cell, I.free, I.freeC, I.pin, I.hok, hl.trans I.len, I.hdk⟩
theorem Inv.pins_of {pins' : List (Addr × Obj)} (I : Inv X pins σ H s) (h : ∀ p ∈ pins', s.heap.get? p.1 = some p.2 ∧ H p.1 = none ∧ p.1 ≠ X.env.locals ∧ p.1 ∉ X.fs ∧ ∀ v, p.2.data ≠ .cell v) : Inv X pins' σ H s :=
  ⟨I.ok, I.os, I.bare, I.base, I.loc, I.cell, I.free, I.freeC, fun p hp => (List.mem_append.mp hp).elim (fun z => I.pin p (List.mem_append_left _ z)) (h p), I.hok, I.len, I.hdk⟩

theorem nodup_ix {N : List Str} (hN : N.Nodup) {i j : Nat} {x : Str} (a : N[i]? = some x) (b : N[j]? = some x) : i = j := by
  obtain ⟨h1, e1⟩ := List.getElem?_eq_some_iff.mp a
  obtain ⟨h2, e2⟩ := List.getElem?_eq_some_iff.mp b
  exact (List.getElem_inj hN).mp (e1.trans e2.symm)

/-- a name is stored; what changed -/
theorem store_ok2 {M : Model} {A : Around} {E : Value → Shared → Prop} {i : Nat} {x : Str} {v : V} {u : Value} {Q : Unit → Shared → Prop} (I : Inv X pins σ H s) (hN : X.N.Nodup) (hi : X.N[i]? = some x) (hx : Loc X.env.scope x) (r : RelV v u)
    (h : ∀ s', Inv X pins (σ.set i (some v)) H s' → (∃ a, Heap.SameBut a s.heap s'.heap ∧ (a = X.env.locals ∨ X.env.cells.lookup x = some a)) → Q () s') (hf : X.fn x = true ∨ X.env.scope.names.lookup x = some .local := by first | exact .inl rfl | exact .inr rfl | assumption) : wpAny M A (storeName X.env x u) Q E s := by
  obtain ⟨m, hn, hl⟩ := id I.loc
  have hcls : (X.env.scope.kind == .class || (X.env.scope.kind == .module && X.env.locals != X.env.globals)) = false := by rw [I.ok.kind]; rfl
  have hiσ : i < σ.length := by rw [I.len]; exact (List.getElem?_eq_some_iff.mp hi).1
  have cne := I.cne
  have tracked : ∀ {a : Addr} {h' : Heap}, (∃ o, s.heap.get? a = some o ∧ H a = none) → Heap.SameBut a s.heap h' → HOk X.prog X.w H h' := fun {a h'} ha hs b ob e => by
    obtain ⟨_, _, hfree⟩ := ha
    refine (I.hok b ob e).stay (fun c w' hc q => (hs.2 c ?_).trans q) (fun _ q => q) fun _ _ q => q
    rintro rfl
    rcases hc with rfl | hc
    · rw [hfree] at e; cases e
    · rw [hfree] at hc; cases hc
  rcases hx with hk | hk
  · refine wpAny_storeName_local hk hn (fun h' hn' hs => ?_) hcls
    obtain ⟨oL, _, _, hoL, _⟩ := id hn
    refine h _ ⟨I.ok, I.os, I.bare, ⟨fun b o e n hb hx => ?_, fun b o e n hb hx => ?_, I.base.free, fun b o e hx => ?_, I.base.tups, I.base.frzs, I.base.tbls⟩, ⟨_, hn', fun j y v' e1 e2 e3 => ?_⟩, fun y c e => ?_, I.free, I.freeC, fun p hp => ?_, tracked ⟨oL, hoL, I.free⟩ hs, by simpa using I.len, I.hdk⟩ ⟨_, hs, .inl rfl⟩
    · exact (hs.2 b (Nat.ne_of_lt (Nat.lt_of_lt_of_le (Heap.lt_size e) I.ok.above))).trans (I.base.keep b o e n hb hx)
    · obtain ⟨sl, e1⟩ := I.base.slot b o e n hb hx
      exact ⟨sl, (hs.2 b (Nat.ne_of_lt (Nat.lt_of_lt_of_le (Heap.lt_size e) I.ok.above))).trans e1⟩
    · obtain ⟨o', e1⟩ := I.base.there b o e hx
      exact ⟨o', (hs.2 b (Nat.ne_of_lt (Nat.lt_of_lt_of_le (Heap.lt_size e) I.ok.above))).trans e1⟩
    · by_cases hj : j = i
      · subst hj
        rw [hi] at e1; cases e1
        rw [List.getElem?_set_self hiσ] at e2
        cases e2
        exact ⟨u, r, .inl ⟨hk, by simp⟩⟩
      · rw [List.getElem?_set_ne (Ne.symm hj)] at e2
        obtain ⟨u', r', q⟩ := hl j y v' e1 e2 e3
        refine ⟨u', r', ?_⟩
        rcases q with ⟨k, e⟩ | ⟨k, c, e, z⟩
        · refine .inl ⟨k, ?_⟩
          have : y ≠ x := fun e => hj (nodup_ix hN e1 (e ▸ hi))
          simp [this, e]
        · exact .inr ⟨k, c, e, z.sameBut hs (cne y c e)⟩
    · obtain ⟨w', z⟩ := I.cell y c e
      exact ⟨w', z.sameBut hs (cne y c e)⟩
    · obtain ⟨e, n, ne, nf, d⟩ := I.pin p hp
      exact ⟨(hs.2 p.1 ne).trans e, n, ne, nf, d⟩
  · have hfn : X.fn x = true := by
      rcases hf with z | z
      · exact z
      · rw [z] at hk; cases hk
    obtain ⟨c, hc⟩ := I.ok.has x (.inl hk)
    obtain ⟨w', z⟩ := I.cell x c hc
    refine wpAny_storeName_cell I.ok.kind hk hc z (fun h' hc' hs => ?_)
    obtain ⟨oc, hoc, hocd⟩ := id z
    refine h { s with heap := h' } ⟨I.ok, I.os, I.bare, ⟨fun b o e n hb hx => ?_, fun b o e n hb hx => ?_, I.base.free, fun b o e hx => ?_, I.base.tups, I.base.frzs, I.base.tbls⟩, ⟨m, hn.sameBut hs (Ne.symm (cne x c hc)), fun j y v' e1 e2 e3 => ?_⟩, fun y c' e => ?_, I.free, I.freeC, fun p hp => ?_, tracked ⟨oc, hoc, I.freeC x c hc⟩ hs, by simpa using I.len, I.hdk⟩ ⟨c, hs, .inr hc⟩
    · exact (hs.2 b (Nat.ne_of_lt (Nat.lt_of_lt_of_le (Heap.lt_size e) (I.ok.cab x c hfn hc)))).trans (I.base.keep b o e n hb hx)
    · obtain ⟨sl, e1⟩ := I.base.slot b o e n hb hx
      exact ⟨sl, (hs.2 b (Nat.ne_of_lt (Nat.lt_of_lt_of_le (Heap.lt_size e) (I.ok.cab x c hfn hc)))).trans e1⟩
    · obtain ⟨o', e1⟩ := I.base.there b o e hx
      exact ⟨o', (hs.2 b (Nat.ne_of_lt (Nat.lt_of_lt_of_le (Heap.lt_size e) (I.ok.cab x c hfn hc)))).trans e1⟩
    · by_cases hj : j = i
      · subst hj
        rw [hi] at e1; cases e1
        rw [List.getElem?_set_self hiσ] at e2
        cases e2
        exact ⟨u, r, .inr ⟨.inl hk, c, hc, hc'⟩⟩
      · rw [List.getElem?_set_ne (Ne.symm hj)] at e2
        obtain ⟨u', r', q⟩ := hl j y v' e1 e2 e3
        refine ⟨u', r', ?_⟩
        rcases q with q | ⟨k, c', e, z'⟩
        · exact .inl q
        · refine .inr ⟨k, c', e, z'.sameBut hs ?_⟩
          rintro rfl
          exact hj (nodup_ix hN e1 (I.ok.inj _ _ _ e hc ▸ hi))
    · by_cases hcc : c' = c
      · subst hcc; exact ⟨_, hc'⟩
      · obtain ⟨w2, z2⟩ := I.cell y c' e
        exact ⟨w2, z2.sameBut hs hcc⟩
    · obtain ⟨e, n, ne, nf, d⟩ := I.pin p hp
      refine ⟨(hs.2 p.1 ?_).trans e, n, ne, nf, d⟩
      intro q
      rw [q, hoc] at e
      have q' : oc = p.2 := Option.some.inj e
      exact d w' (by rw [← q']; exact hocd)
theorem store_ok {M : Model} {A : Around} {E : Value → Shared → Prop} {i : Nat} {x : Str} {v : V} {u : Value} {Q : Unit → Shared → Prop} (I : Inv X pins σ H s) (hN : X.N.Nodup) (hi : X.N[i]? = some x) (hx : Loc X.env.scope x) (r : RelV v u)
    (h : ∀ s', Inv X pins (σ.set i (some v)) H s' → Q () s') (hf : X.fn x = true ∨ X.env.scope.names.lookup x = some .local := by first | exact .inl rfl | exact .inr rfl | assumption) : wpAny M A (storeName X.env x u) Q E s :=
  store_ok2 I hN hi hx r (fun s' I' _ => h s' I') hf
/-- behind a call or a block, the state as it is -/
theorem Inv.call' {s' : Shared} {ch : List Addr} (I : Inv X pins σ H s) (ho : s'.os = s.os) (u : Un (frs X.stack) ch H H' s.heap s'.heap) (hok : HOk X.prog X.w H' s'.heap) (hg : AllBare s'.gens)
    (hch : ∀ b ∈ ch, (b ∈ X.ex ∨ X.s₀.heap.objs.size ≤ b) ∧ b ≠ X.env.locals ∧ (∀ x c, X.env.cells.lookup x = some c → c ≠ b) ∧ ∀ p ∈ X.pn ++ pins, p.1 ≠ b) : Inv X pins σ H' s' := by
  obtain ⟨h', g', d', t', o'⟩ := s'
  have e : o' = s.os := ho
  subst e
  exact I.call (g' := g') (t' := t') (d' := d') u hok hg hch
end

/-! ### the judgements -/
/-- an exception: its class, its own dict's address (where it has one), the abstract heap behind it -/
abbrev XK := Value → Option Addr → Hp → Prop
abbrev St := List (Option V)
abbrev VK := V → Hp → Prop
/-- an expression's reading; a test's; an argument list's -/
abbrev TE := St → Hp → VK → Prop
abbrev TT := St → Hp → (Bool → Hp → Prop) → Prop
abbrev TA := St → Hp → (List V → Hp → Prop) → Prop
/-- what is wanted behind a statement -/
structure Ends where
  nx : St → Hp → Prop
  rt : VK
  bk : St → Hp → Prop := fun _ _ => False
  ct : St → Hp → Prop := fun _ _ => False
abbrev TS := Ends → St → Hp → Prop

def EP (X : Cx) (pins : List (Addr × Obj)) (σ : St) (Q : VK) (u : Value) (s' : Shared) : Prop := ∃ v H', Inv X pins σ H' s' ∧ RelV v u ∧ Q v H'
def TP (X : Cx) (pins : List (Addr × Obj)) (σ : St) (Q : Bool → Hp → Prop) (b : Bool) (s' : Shared) : Prop := ∃ H', Inv X pins σ H' s' ∧ Q b H'
def AP (X : Cx) (pins : List (Addr × Obj)) (σ : St) (Q : List V → Hp → Prop) (us : List Value) (s' : Shared) : Prop := ∃ vs H', Inv X pins σ H' s' ∧ Vals vs us ∧ Q vs H'
def SP (X : Cx) (pins : List (Addr × Obj)) (D : Ends) (f : Flow) (s' : Shared) : Prop :=
  match f with
  | .next => ∃ σ' H', Inv X pins σ' H' s' ∧ D.nx σ' H'
  | .brk => ∃ σ' H', Inv X pins σ' H' s' ∧ D.bk σ' H'
  | .cont => ∃ σ' H', Inv X pins σ' H' s' ∧ D.ct σ' H'
  | .ret u => ∃ v σ' H', Inv X pins σ' H' s' ∧ RelV v u ∧ D.rt v H'

def PE (X : Cx) (e : Expr) (t : TE) : Prop :=
  ∀ (pins : List (Addr × Obj)) (s : Shared) (σ : St) (H : Hp) (Q : VK), Inv X pins σ H s → t σ H Q → wpAny (model X.prog X.w) X.A (eval e X.env) (EP X pins σ Q) X.xe s
def PT (X : Cx) (e : Expr) (t : TT) : Prop :=
  ∀ (pins : List (Addr × Obj)) (s : Shared) (σ : St) (H : Hp) (Q : Bool → Hp → Prop), Inv X pins σ H s → t σ H Q → wpAny (model X.prog X.w) X.A (isTrue e X.env (eval e X.env)) (TP X pins σ Q) X.xe s
/-- a test whatever its 'whole' is (and, or) -/
def PW (X : Cx) (e : Expr) (t : TT) : Prop :=
  ∀ (whole : Sem Value) (pins : List (Addr × Obj)) (s : Shared) (σ : St) (H : Hp) (Q : Bool → Hp → Prop), Inv X pins σ H s → t σ H Q → wpAny (model X.prog X.w) X.A (isTrue e X.env whole) (TP X pins σ Q) X.xe s
theorem PW.pt {X : Cx} {e : Expr} {t : TT} (h : PW X e t) : PT X e t := h _
/-- an argument list (no star), from the left -/
def PA (X : Cx) (es : List Expr) (t : TA) : Prop :=
  ∀ (pos : Pos) (pins : List (Addr × Obj)) (s : Shared) (σ : St) (H : Hp) (Q : List V → Hp → Prop), Inv X pins σ H s → t σ H Q → wpAny (model X.prog X.w) X.A (spliced (backTo pos (starEach es X.env))) (AP X pins σ Q) X.xe s
def PS (X : Cx) (st : Stmt) (t : TS) : Prop :=
  ∀ (pins : List (Addr × Obj)) (s : Shared) (σ : St) (H : Hp) (D : Ends), Inv X pins σ H s → t D σ H → wpAny (model X.prog X.w) X.A (exec st X.env) (SP X pins D) X.xe s
def PSs (X : Cx) (st : List Stmt) (t : TS) : Prop :=
  ∀ (pins : List (Addr × Obj)) (s : Shared) (σ : St) (H : Hp) (D : Ends), Inv X pins σ H s → t D σ H → wpAny (model X.prog X.w) X.A (execs st X.env) (SP X pins D) X.xe s
/-- weaken the end -/
theorem thn {α : Type} {t : Sem α} {Q Q' : α → Shared → Prop} {M : Model} {A : Around} {E : Value → Shared → Prop} {s : Shared} (h : wpAny M A t Q E s) (hQ : ∀ a s, Q a s → Q' a s) : wpAny M A t Q' E s := wpAny_mono h hQ fun _ _ x => x
end L2

namespace L2
open PySem PySem.Spec PyProof.Rows
section
variable {X : Cx}

/-- two expressions in a row -/
theorem bin {a b : Expr} {ta tb : TE} (ha : PE X a ta) (hb : PE X b tb) {pins : List (Addr × Obj)} {s : Shared} {σ : St} {H : Hp} {R : V → V → Hp → Prop} (I : Inv X pins σ H s) (h : ta σ H fun x H1 => tb σ H1 fun y H2 => R x y H2)
    {α : Type} {Q : α → Shared → Prop} {f : Value → Value → Sem α}
    (hf : ∀ v u s2 x y H2, Inv X pins σ H2 s2 → RelV x v → RelV y u → R x y H2 → wpAny (model X.prog X.w) X.A (f v u) Q X.xe s2) :
    wpAny (model X.prog X.w) X.A (eval a X.env) (fun v s₁ => wpAny (model X.prog X.w) X.A (eval b X.env) (fun u s₂ => wpAny (model X.prog X.w) X.A (f v u) Q X.xe s₂) X.xe s₁) X.xe s := by
  refine thn (ha pins s σ H _ I h) fun v s1 ⟨x, H1, I1, r1, q1⟩ => ?_
  refine thn (hb pins s1 σ H1 _ I1 q1) fun u s2 ⟨y, H2, I2, r2, q2⟩ => ?_
  exact hf v u s2 x y H2 I2 r1 r2 q2

/-! ### names and constants -/
def tVar (i : Nat) : TE := fun σ H Q => ∃ v, σ[i]? = some (some v) ∧ Q v H
def tC (v : V) : TE := fun _ H Q => Q v H
theorem pe_var {i : Nat} {x : Str} {pos : Pos} (hN : X.N[i]? = some x) (hv : Vis X.env.scope x) (hd : (x == ("__debug__" : Str)) = false := by decide) (hcd : (x == ("__classdict__" : Str)) = false := by decide) : PE X (.Name x pos) (tVar i) := by
  intro pins s σ H Q I h
  obtain ⟨v, e, h⟩ := h
  obtain ⟨m, hn, hl⟩ := I.loc
  obtain ⟨u, r, l⟩ := hl i x v hN e hv
  have fin : EP X pins σ Q u s := ⟨v, H, I, r, h⟩
  rcases l with ⟨hk, hm⟩ | ⟨hk, c, hc, hcell⟩
  · exact wpAny_Name (wpAny_loadName_local I.ok.kind hk hn hm fin) hd
  · rcases hk with hk | hk
    · exact wpAny_Name (wpAny_loadName_cell I.ok.kind hk hc hcell fin) hd
    · exact wpAny_Name (wpAny_loadName_free I.ok.kind hk hc hcell fin hcd) hd
theorem pe_int {i j pos} : PE X (.Constant (.int i) j pos) (tC (.int i)) := fun _ _ _ H _ I h => wpAny_Constant_int ⟨.int i, H, I.tok _, ⟨_, rfl⟩, h⟩
theorem pe_bl {b j pos} : PE X (.Constant (.bool b) j pos) (tC (.bl b)) := fun _ _ _ H _ I h => Constant_bool ⟨.bl b, H, I, rfl, h⟩
theorem pe_non {j pos} : PE X (.Constant .none j pos) (tC .non) := fun _ _ _ H _ I h => Constant_none ⟨.non, H, I, rfl, h⟩
theorem pe_str {x j pos} : PE X (.Constant (.str x) j pos) (tC (.str x)) := fun _ _ _ H _ I h => Calls.Constant_str ⟨.str x, H, I.tok _, ⟨_, rfl⟩, h⟩

/-- a global name of the def -/
def Gl (X : Cx) (x : Str) : Prop := X.env.kindOf x = some .globalImplicit
theorem ld_glob {E : Value → Shared → Prop} {pins : List (Addr × Obj)} {s : Shared} {σ : St} {H : Hp} {x : Str} {u : Value} {pos : Pos} {Q : Value → Shared → Prop} (I : Inv X pins σ H s) (hg : Gl X x) (hm : X.mg x = some u) (h : Q u s)
    (hd : (x == ("__debug__" : Str)) = false := by decide) : wpAny (model X.prog X.w) X.A (eval (.Name x pos) X.env) Q E s :=
  Calls.Name_function_global I.ok.kind hg (Calls.loadGlobal_global (by rw [I.ok.glob]; exact I.mod.glob.keeps I.bk) hm h) hd
theorem ld_blt {E : Value → Shared → Prop} {pins : List (Addr × Obj)} {s : Shared} {σ : St} {H : Hp} {x : Str} {u : Value} {pos : Pos} {Q : Value → Shared → Prop} (I : Inv X pins σ H s) (hg : Gl X x) (hm : X.mg x = none) (hv : bootBuiltins x = some u) (h : Q u s)
    (hn : x ≠ "__name__" := by decide) (hd : (x == ("__debug__" : Str)) = false := by decide) : wpAny (model X.prog X.w) X.A (eval (.Name x pos) X.env) Q E s := by
  obtain ⟨mb, h1, h2⟩ := I.mod.blt
  exact Calls.Name_function_global I.ok.kind hg (Calls.loadGlobal_builtin (by rw [I.ok.glob]; exact I.mod.glob.keeps I.bk) hm (by rw [I.ok.blt]; exact h1.keeps I.bk) ((h2 x hn).trans hv) h) hd
/-- a module's constant, a class, a function, as a value -/
theorem pe_glob {x : Str} {v : V} {u : Value} {pos : Pos} (hg : Gl X x) (hm : X.mg x = some u) (r : RelV v u) (hd : (x == ("__debug__" : Str)) = false := by decide) : PE X (.Name x pos) (tC v) :=
  fun _ _ _ H _ I h => ld_glob I hg hm ⟨v, H, I, r, h⟩ hd
theorem pe_bltn {x : Str} {v : V} {u : Value} {pos : Pos} (hg : Gl X x) (hm : X.mg x = none) (hv : bootBuiltins x = some u) (r : RelV v u) (hn : x ≠ "__name__" := by decide) (hd : (x == ("__debug__" : Str)) = false := by decide) : PE X (.Name x pos) (tC v) :=
  fun _ _ _ H _ I h => ld_blt I hg hm hv ⟨v, H, I, r, h⟩ hn hd

/-! ### arithmetic -/
variable {a b : Expr} {ta tb : TE} {pos : Pos}
/-! ### comparisons -/
/-- a comparison as a value, as a test -/
def tB (t : TE) : TT := fun σ H Q => t σ H fun x H1 => ∃ c, x = .bl c ∧ Q c H1
/-! ### and, or, not -/
variable {tA tB' : TT} {rest : List Expr}
def tAnd (t u : TT) : TT := fun σ H Q => t σ H fun c H1 => if c = true then u σ H1 Q else Q false H1
def tOr (t u : TT) : TT := fun σ H Q => t σ H fun c H1 => if c = true then Q true H1 else u σ H1 Q
def tNot (t : TT) : TT := fun σ H Q => t σ H fun c H1 => Q (!c) H1
theorem pw_and1 (ha : PT X a tA) : PW X (.BoolOp .And [a] pos) tA := by
  intro wh pins s σ H Q I h
  refine isTrue_and (thn (ha pins s σ H Q I h) fun c s1 e => ?_)
  cases c with
  | true => exact isTrue_and_nil e
  | false => exact e
theorem pw_or1 (ha : PT X a tA) : PW X (.BoolOp .Or [a] pos) tA := by
  intro wh pins s σ H Q I h
  refine isTrue_or (thn (ha pins s σ H Q I h) fun c s1 e => ?_)
  cases c with
  | false => exact isTrue_or_nil e
  | true => exact e
theorem pw_and (ha : PT X a tA) (hb : PW X (.BoolOp .And (b :: rest) pos) tB') : PW X (.BoolOp .And (a :: b :: rest) pos) (tAnd tA tB') := by
  intro wh pins s σ H Q I h
  refine isTrue_and (thn (ha pins s σ H _ I h) fun c s1 ⟨H1, I1, q1⟩ => ?_)
  cases c with
  | true => exact hb wh pins s1 σ H1 Q I1 q1
  | false => exact ⟨H1, I1, q1⟩
theorem pw_or (ha : PT X a tA) (hb : PW X (.BoolOp .Or (b :: rest) pos) tB') : PW X (.BoolOp .Or (a :: b :: rest) pos) (tOr tA tB') := by
  intro wh pins s σ H Q I h
  refine isTrue_or (thn (ha pins s σ H _ I h) fun c s1 ⟨H1, I1, q1⟩ => ?_)
  cases c with
  | true => exact ⟨H1, I1, q1⟩
  | false => exact hb wh pins s1 σ H1 Q I1 q1
theorem pt_not (ha : PT X a tA) : PT X (.UnaryOp .Not a pos) (tNot tA) := by
  intro pins s σ H Q I h
  exact isTrue_not (ha pins s σ H (fun c H1 => Q (!c) H1) I h)
/-- .. as values (bools) -/
def tAndV (ta tb : TE) : TE := fun σ H Q => ta σ H fun x H1 => ∃ c, x = .bl c ∧ if c = true then tb σ H1 Q else Q (.bl false) H1
def tOrV (ta tb : TE) : TE := fun σ H Q => ta σ H fun x H1 => ∃ c, x = .bl c ∧ if c = true then Q (.bl true) H1 else tb σ H1 Q
def tNotV (ta : TE) : TE := fun σ H Q => ta σ H fun x H1 => ∃ c, x = .bl c ∧ Q (.bl (!c)) H1
theorem pe_one {op} {t : TE} (h : PE X a t) : PE X (.BoolOp op [a] pos) t := fun pins s σ H Q I hw => BoolOp_one (h pins s σ H Q I hw)
theorem pe_and (ha : PE X a ta) (hb : PE X (.BoolOp .And (b :: rest) pos) tb) : PE X (.BoolOp .And (a :: b :: rest) pos) (tAndV ta tb) := by
  intro pins s σ H Q I h
  refine BoolOp_and (thn (ha pins s σ H _ I h) fun v s1 ⟨x, H1, I1, r1, q1⟩ => ?_)
  obtain ⟨c, rfl, q1⟩ := q1
  cases r1
  refine wpAny_truthy_bool ?_
  cases c with
  | true => exact hb pins s1 σ H1 Q I1 q1
  | false => exact ⟨.bl false, H1, I1, rfl, q1⟩
theorem pe_not (ha : PE X a ta) : PE X (.UnaryOp .Not a pos) (tNotV ta) := by
  intro pins s σ H Q I h
  refine UnaryOp_ (thn (ha pins s σ H _ I h) fun v s1 ⟨x, H1, I1, r1, q1⟩ => ?_)
  obtain ⟨c, rfl, q1⟩ := q1
  cases r1
  exact not_of (wpAny_truthy_bool ⟨.bl (!c), H1, I1, rfl, q1⟩)
/-- a if t else b -/
def tIf (t : TT) (ta tb : TE) : TE := fun σ H Q => t σ H fun c H1 => if c = true then ta σ H1 Q else tb σ H1 Q
theorem pe_ifExp {c : Expr} (hc : PT X c tA) (ha : PE X a ta) (hb : PE X b tb) : PE X (.IfExp c a b pos) (tIf tA ta tb) := by
  intro pins s σ H Q I h
  refine wpAny_IfExp (thn (hc pins s σ H _ I h) fun d s1 ⟨H1, I1, q1⟩ => ?_)
  cases d with
  | true => exact ha pins s1 σ H1 Q I1 q1
  | false => exact hb pins s1 σ H1 Q I1 q1
end
end L2

namespace L2
open PySem PySem.Spec PyProof.Rows

/-! ### a list, a tuple that is read: tracked, frozen, or an object of the module -/
def SqL (K : PySem.W.Frag) (H : Hp) (a : Addr) (xs : List V) : Prop :=
  Rd H a (.lst xs) ∨
    ∃ (o : Obj) (its : Array Value) (n : Nat), K.lookup a = some o ∧ o.cls = .type "list" ∧ o.dict = none ∧ o.data = .seq its n ∧ its.size ≤ sizeLine ∧ Vals xs its.toList
def SqT (K : PySem.W.Frag) (H : Hp) (a : Addr) (xs : List V) : Prop :=
  Rd H a (.tup xs) ∨
    ∃ (o : Obj) (its : Array Value) (n : Nat), K.lookup a = some o ∧ o.cls = .type "tuple" ∧ o.data = .seq its n ∧ its.size ≤ sizeLine ∧ Vals xs its.toList
def absV : Value → Option V
  | .none => some .non
  | .bool b => some (.bl b)
  | .int i _ => some (.int i)
  | .str x _ => some (.str x)
  | .bytes b _ => some (.byt b)
  | .float b _ => some (.flt b)
  | .ref a => some (.ref a)
  | .type n => some (.ty n)
  | _ => none
theorem RelV.abs {x : V} {u : Value} (r : RelV x u) : absV u = some x := by
  cases x with
  | non => cases r; rfl
  | bl _ => cases r; rfl
  | int _ => obtain ⟨t, rfl⟩ := r; rfl
  | str _ => obtain ⟨t, rfl⟩ := r; rfl
  | byt _ => obtain ⟨t, rfl⟩ := r; rfl
  | flt _ => obtain ⟨t, rfl⟩ := r; rfl
  | ref _ => cases r; rfl
  | ty _ => cases r; rfl
theorem RelV.inj {x y : V} {u : Value} (r : RelV x u) (q : RelV y u) : x = y := Option.some.inj (r.abs.symm.trans q.abs)
theorem Vals.inj : ∀ {xs ys : List V} {us : List Value}, Vals xs us → Vals ys us → xs = ys
  | _, _, _, .nil, .nil => rfl
  | _, _, _, .cons r t, .cons r' t' => by rw [r.inj r', Vals.inj t t']
section
variable {X : Cx} {pins : List (Addr × Obj)} {σ : St} {H : Hp} {s : Shared} {a : Addr} {xs ys : List V}
theorem SqL.of {K : PySem.W.Frag} (h : H a = some (.lst xs)) : SqL K H a xs := .inl (.inl h)
theorem SqT.of {K : PySem.W.Frag} (h : H a = some (.tup xs)) : SqT K H a xs := .inl (.inl h)
theorem Inv.list (I : Inv X pins σ H s) (h : SqL X.K H a xs) : ∃ its : List Value, Vals xs its ∧ PlainL s.heap a its.toArray ∧ xs.length ≤ sizeLine := by
  rcases h with h | ⟨o, its, n, hk, hc, hd, hs, hz, r⟩
  · obtain ⟨z, its, n, r, e⟩ := h.ok I.hok
    exact ⟨its, r, ⟨_, n, e, rfl, rfl, rfl⟩, z⟩
  · refine ⟨its.toList, r, ⟨o, n, I.kIn a o hk, hc, hd, by simpa using hs⟩, ?_⟩
    have e := r.length
    simp only [Array.length_toList] at e
    omega
theorem Inv.tuple (I : Inv X pins σ H s) (h : SqT X.K H a xs) : ∃ its : List Value, Vals xs its ∧ IsTup s.heap a its.toArray ∧ xs.length ≤ sizeLine := by
  rcases h with h | ⟨o, its, n, hk, hc, hs, hz, r⟩
  · obtain ⟨z, its, r, p⟩ := h.ok I.hok
    exact ⟨its, r, p, z⟩
  · refine ⟨its.toList, r, ⟨o, I.kIn a o hk, hc, n, by simpa using hs⟩, ?_⟩
    have e := r.length
    simp only [Array.length_toList] at e
    omega
theorem Inv.list_inj (I : Inv X pins σ H s) (h : SqL X.K H a xs) (h' : SqL X.K H a ys) : xs = ys := by
  obtain ⟨its, r, ⟨o, n, e, _, _, d⟩, _⟩ := I.list h
  obtain ⟨its', r', ⟨o', n', e', _, _, d'⟩, _⟩ := I.list h'
  rw [e] at e'; cases e'
  rw [d] at d'
  injection d' with d1 _
  have : its = its' := by simpa using congrArg Array.toList d1
  subst this
  exact r.inj r'
end

/-! ### another wish about exceptions -/
abbrev Cx.wish (X : Cx) (E : Value → Shared → Prop) : Cx := { X with xe := E }
/-- no exception leaves -/
abbrev Cx.nox (X : Cx) : Cx := X.wish fun _ _ => False
theorem Cx.Ok.wish {X : Cx} (ok : X.Ok) (E : Value → Shared → Prop) : (X.wish E).Ok :=
  ⟨ok.mod, ok.kind, ok.glob, ok.blt, ok.above, ok.inj, ok.has, ok.cab, ok.hd, ok.frames, ok.stk, ok.exf, ok.bs, ok.bsz, ok.noex, ok.exfs, ok.funs, ok.frf⟩
theorem Cx.Ok.unwish {X : Cx} {E : Value → Shared → Prop} (ok : (X.wish E).Ok) : X.Ok :=
  ⟨ok.mod, ok.kind, ok.glob, ok.blt, ok.above, ok.inj, ok.has, ok.cab, ok.hd, ok.frames, ok.stk, ok.exf, ok.bs, ok.bsz, ok.noex, ok.exfs, ok.funs, ok.frf⟩
section
variable {X : Cx} {pins : List (Addr × Obj)} {σ : St} {H : Hp} {s : Shared} {E : Value → Shared → Prop}
theorem Inv.wish (I : Inv X pins σ H s) (E : Value → Shared → Prop) : Inv (X.wish E) pins σ H s := ⟨I.ok.wish E, I.os, I.bare, I.base, I.loc, I.cell, I.free, I.freeC, I.pin, I.hok, I.len, I.hdk⟩
theorem Inv.unwish (I : Inv (X.wish E) pins σ H s) : Inv X pins σ H s := ⟨I.ok.unwish, I.os, I.bare, I.base, I.loc, I.cell, I.free, I.freeC, I.pin, I.hok, I.len, I.hdk⟩
theorem SP.unwish {D : Ends} {f : Flow} {s' : Shared} (h : SP (X.wish E) pins D f s') : SP X pins D f s' := by
  cases f with
  | next => obtain ⟨σ', H', I, q⟩ := h; exact ⟨σ', H', I.unwish, q⟩
  | brk => obtain ⟨σ', H', I, q⟩ := h; exact ⟨σ', H', I.unwish, q⟩
  | cont => obtain ⟨σ', H', I, q⟩ := h; exact ⟨σ', H', I.unwish, q⟩
  | ret u => obtain ⟨v, σ', H', I, r, q⟩ := h; exact ⟨v, σ', H', I.unwish, r, q⟩
theorem PE.nox {e : Expr} {t : TE} (h : PE X.nox e t) : PE X e t := fun pins s σ H Q I hw =>
  wpAny_mono (h pins s σ H Q (I.wish _) hw) (fun _ _ ⟨v, H', I', r, q⟩ => ⟨v, H', I'.unwish, r, q⟩) fun _ _ z => False.elim z
theorem PT.nox {e : Expr} {t : TT} (h : PT X.nox e t) : PT X e t := fun pins s σ H Q I hw =>
  wpAny_mono (h pins s σ H Q (I.wish _) hw) (fun _ _ ⟨H', I', q⟩ => ⟨H', I'.unwish, q⟩) fun _ _ z => False.elim z
theorem PSs.nox {st : List Stmt} {t : TS} (h : PSs X.nox st t) : PSs X st t := fun pins s σ H D I hw =>
  wpAny_mono (h pins s σ H D (I.wish _) hw) (fun _ _ q => q.unwish) fun _ _ z => False.elim z
end

/-! ### blocks and small statements -/
section
variable {X : Cx} {st : Stmt} {rest : List Stmt} {t u : TS} {e : Expr} {te : TE} {pos : Pos}
def tNext : TS := fun D σ H => D.nx σ H
def tSeq (t u : TS) : TS := fun D σ H => t { D with nx := u D } σ H
theorem pss_nil : PSs X [] tNext := fun _ _ σ H _ I h => wpAny_execs_nil ⟨σ, H, I, h⟩
theorem pss_cons (h1 : PS X st t) (h2 : PSs X rest u) : PSs X (st :: rest) (tSeq t u) := by
  intro pins s σ H D I h
  refine wpAny_execs_cons (thn (h1 pins s σ H { D with nx := u D } I h) fun f s1 q => ?_)
  cases f with
  | next =>
    obtain ⟨σ', H', I', q⟩ := q
    exact h2 pins s1 σ' H' D I' q
  | ret v => exact q
  | brk => exact q
  | cont => exact q
theorem pss_one (h1 : PS X st t) : PSs X [st] t := by
  intro pins s σ H D I h
  refine wpAny_execs_cons (thn (h1 pins s σ H D I h) fun f s1 q => ?_)
  cases f with
  | next => exact wpAny_execs_nil q
  | ret v => exact q
  | brk => exact q
  | cont => exact q
def tBreak : TS := fun D σ H => D.bk σ H
def tCont : TS := fun D σ H => D.ct σ H
/-- in a def's body nothing is shown -/
theorem Inv.quiet {pins : List (Addr × Obj)} {σ : St} {H : Hp} {s : Shared} (I : Inv X pins σ H s) : interactive X.env = false := by simp [interactive, I.ok.kind]
/-- an expression whose value is dropped -/
def tDrop (te : TE) : TS := fun D σ H => te σ H fun _ H1 => D.nx σ H1
theorem ps_expr (he : PE X e te) (hs : swapsWith e none pos.line X.env = pure false := by rfl) : PS X (.Expr e pos) (tDrop te) := by
  intro pins s σ H D I h
  exact wpAny_Expr_any (thn (he pins s σ H _ I h) fun v s1 ⟨x, H1, I1, r1, q1⟩ => ⟨σ, H1, I1, q1⟩) I.quiet hs
def tRet (te : TE) : TS := fun D σ H => te σ H D.rt
theorem ps_ret (he : PE X e te) : PS X (.Return (some e) pos) (tRet te) := by
  intro pins s σ H D I h
  exact wpAny_Return_some (thn (he pins s σ H _ I h) fun v s1 ⟨x, H1, I1, r1, q1⟩ => ⟨x, σ, H1, I1, r1, q1⟩)
def tRetN : TS := fun D _ H => D.rt .non H
def tIfS (c : TT) (t u : TS) : TS := fun D σ H => c σ H fun b H1 => if b = true then t D σ H1 else u D σ H1
theorem ps_if {c : Expr} {a b : List Stmt} {tc : TT} (hc : PT X c tc) (ha : PSs X a t) (hb : PSs X b u) : PS X (.If c a b pos) (tIfS tc t u) := by
  intro pins s σ H D I h
  refine wpAny_If (thn (hc pins s σ H _ I h) fun d s1 ⟨H1, I1, q1⟩ => ?_)
  cases d with
  | true => exact ha pins s1 σ H1 D I1 q1
  | false => exact hb pins s1 σ H1 D I1 q1
end

/-! ### targets -/
abbrev TG := V → St → Hp → (St → Hp → Prop) → Prop
abbrev TGs := List V → St → Hp → (St → Hp → Prop) → Prop
def PG (X : Cx) (target : Expr) (t : TG) : Prop :=
  ∀ (pins : List (Addr × Obj)) (s : Shared) (σ : St) (H : Hp) (v : V) (u : Value) (Q : St → Hp → Prop), Inv X pins σ H s → RelV v u → t v σ H Q →
    wpAny (model X.prog X.w) X.A (assign target X.env u) (fun _ s' => ∃ σ' H', Inv X pins σ' H' s' ∧ Q σ' H') X.xe s
/-- several targets, one after another -/
def PGs (X : Cx) (ts : List Expr) (t : TGs) : Prop :=
  ∀ (pins : List (Addr × Obj)) (s : Shared) (σ : St) (H : Hp) (vs : List V) (us : List Value) (Q : St → Hp → Prop), Inv X pins σ H s → Vals vs us → t vs σ H Q →
    wpAny (model X.prog X.w) X.A (assignInOrder ((assignEach ts X.env).map (·.2)) us) (fun _ s' => ∃ σ' H', Inv X pins σ' H' s' ∧ Q σ' H') X.xe s
/-- o[i] = v, by values -/
abbrev TSet := V → V → V → Hp → (Hp → Prop) → Prop
/-- a op= b, by values -/
abbrev TIp := V → V → Hp → VK → Prop
section
variable {X : Cx} {pos : Pos}
def gName (i : Nat) : TG := fun v σ H Q => Q (σ.set i (some v)) H
theorem pg_name {i : Nat} {x : Str} (hN : X.N.Nodup) (hi : X.N[i]? = some x) (hx : Loc X.env.scope x) (hf : X.fn x = true ∨ X.env.scope.names.lookup x = some .local := by first | exact .inl rfl | exact .inr rfl | assumption) : PG X (.Name x pos) (gName i) := by
  intro pins s σ H v u Q I r h
  exact wpAny_assign_Name (store_ok I hN hi hx r (fun s' I' => ⟨_, H, I', h⟩) hf)
def gNil : TGs := fun vs σ H Q => vs = [] ∧ Q σ H
def gCons (t : TG) (u : TGs) : TGs := fun vs σ H Q => ∃ v r, vs = v :: r ∧ t v σ H fun σ' H' => u r σ' H' Q
theorem pgs_nil : PGs X [] gNil := by
  intro pins s σ H vs us Q I r h
  obtain ⟨e, h⟩ := h
  subst e
  cases r
  exact assignInOrder_nil ⟨σ, H, I, h⟩
theorem pgs_cons {e : Expr} {es : List Expr} {t : TG} {u : TGs} (h1 : PG X e t) (h2 : PGs X es u)
    (hs : (assignEach (e :: es) X.env).map (·.2) = assign e X.env :: (assignEach es X.env).map (·.2) := by rfl) : PGs X (e :: es) (gCons t u) := by
  intro pins s σ H vs us Q I r h
  obtain ⟨v, vr, e1, h⟩ := h
  subst e1
  cases r with
  | cons r rr =>
    rw [hs]
    refine assignInOrder_cons (thn (h1 pins s σ H _ _ _ I r h) fun _ s1 ⟨σ1, H1, I1, q1⟩ => ?_)
    exact h2 pins s1 σ1 H1 _ _ Q I1 rr q1
/-- (a, b, ..) = a tuple of that length -/
def gTup (K : PySem.W.Frag) (n : Nat) (t : TGs) : TG := fun v σ H Q => ∃ a xs, v = .ref a ∧ SqT K H a xs ∧ xs.length = n ∧ t xs σ H Q
/-- o[i] = .. -/
def gSub (to ti : TE) (t : TSet) : TG := fun v σ H Q => to σ H fun o H1 => ti σ H1 fun i H2 => t o i v H2 fun H3 => Q σ H3
/-- target = value -/
def tAsg (te : TE) (g : TG) : TS := fun D σ H => te σ H fun x H1 => g x σ H1 D.nx
theorem ps_asg {tg e : Expr} {te : TE} {g : TG} (he : PE X e te) (hg : PG X tg g) (hs : swapsWithSole [tg] e pos.line X.env = pure false := by rfl) (hw : swappedStores [tg] e X.env = pure none := by rfl)
    (h1 : (assignEach [tg] X.env).map (·.2) = [assign tg X.env] := by rfl) : PS X (.Assign [tg] e pos) (tAsg te g) := by
  intro pins s σ H D I h
  refine wpAny_Assign_stores (thn (he pins s σ H _ I h) fun v s1 ⟨x, H1, I1, r1, q1⟩ => ?_) hs hw
  rw [h1]
  exact thn (hg pins s1 σ H1 x v _ I1 r1 q1) fun _ s2 q => q
/-- name = value -/
theorem ps_set {i : Nat} {x : Str} {e : Expr} {te : TE} {pos' : Pos} (hN : X.N.Nodup) (hi : X.N[i]? = some x) (hx : Loc X.env.scope x) (he : PE X e te) (hs : swapsWith e (some (.Name x pos')) pos.line X.env = pure false := by rfl) (hf : X.fn x = true ∨ X.env.scope.names.lookup x = some .local := by first | exact .inl rfl | exact .inr rfl | assumption) :
    PS X (.Assign [.Name x pos'] e pos) (tAsg te (gName i)) := by
  intro pins s σ H D I h
  refine wpAny_Assign_Name (thn (he pins s σ H _ I h) fun v s1 ⟨y, H1, I1, r1, q1⟩ => ?_) hs
  exact store_ok I1 hN hi hx r1 (fun s2 I2 => ⟨_, H1, I2, q1⟩) hf
/-- name op= e -/
def tAug (i : Nat) (te : TE) (ti : TIp) : TS := fun D σ H => ∃ x, σ[i]? = some (some x) ∧ te σ H fun y H1 => ti x y H1 fun z H2 => D.nx (σ.set i (some z)) H2
/-- ints -/
def ipI (f : Int → Int → Int) : TIp := fun x y H Q => ∃ i j, x = .int i ∧ y = .int j ∧ Q (.int (f i j)) H
end

/-! ### while -/
section
variable {X : Cx} {pos : Pos}
end

/-! ### what a loop or a comprehension walks -/
/-- at turn i: it yields x (the heap may grow), or it stops -/
structure It where
  go : Nat → Hp → Prop
  yld : Nat → Hp → V → Hp → Prop
  stop : Nat → Hp → Prop
/-- the iterator's own objects may turn: they are not the frame's, not pinned, younger than the entry (or a comprehension's own) -/
def FpOk (X : Cx) (pins : List (Addr × Obj)) (H : Hp) (b : Addr) : Prop :=
  H b = none ∧ b ≠ X.env.locals ∧ b ∉ X.fs ∧ (b ∈ X.ex ∨ X.s₀.heap.objs.size ≤ b) ∧ (∀ x c, X.env.cells.lookup x = some c → c ≠ b) ∧ ∀ p ∈ X.pn ++ pins, p.1 ≠ b
theorem Inv.fpOk {X : Cx} {pins : List (Addr × Obj)} {σ : St} {H H' : Hp} {s : Shared} {b : Addr} (I : Inv X pins σ H s) (hb : s.heap.objs.size ≤ b) (hn : H' b = none) : FpOk X pins H' b := by
  refine ⟨hn, Nat.ne_of_gt (Nat.lt_of_lt_of_le I.lt hb), I.nofs hb, .inr (Nat.le_trans I.sz hb), fun x c e z => ?_, fun p hp z => ?_⟩
  · obtain ⟨v, q⟩ := I.cell x c e
    exact absurd (Nat.lt_of_lt_of_le q.lt (by rw [z]; exact hb)) (Nat.lt_irrefl _)
  · exact absurd (Nat.lt_of_lt_of_le (Heap.lt_size (I.pin p hp).1) (by rw [z]; exact hb)) (Nat.lt_irrefl _)
structure Turn (c : Bool) (P : Program) (w : World) (K : PySem.W.Frag) (tg : Expr) (J : It) (fp : List Addr) (it : Addr) (tn : Nat → Heap → Prop) : Prop where
  mem : it ∈ fp
  obj : ∀ i h, tn i h → ∀ b ∈ fp, ∃ o, h.get? b = some o ∧ ∀ v, o.data ≠ .cell v
  keep : ∀ i h h', tn i h → (∀ b ∈ fp, ∀ o, h.get? b = some o → h'.get? b = some o) → tn i h'
  item : ∀ (X : Cx), X.prog = P → X.w = w → X.K = K → (c = true → X.calm = true) → ∀ (i : Nat) (pins : List (Addr × Obj)) (s : Shared) (σ : St) (H : Hp) (E : Value → Shared → Prop), Inv X pins σ H s → (∀ b ∈ fp, FpOk X pins H b) → tn i s.heap → J.go i H →
    wpAny (model P w) X.A (pyNext (.ref it)) (fun r s1 => ∃ u, r = some u ∧
      wpAny (model P w) X.A (letOwnedTupleGo tg (.ref it) u) (fun _ s2 => ∃ x H', Inv X pins σ H' s2 ∧ RelV x u ∧ J.yld i H x H' ∧ tn (i + 1) s2.heap ∧ ∀ b ∈ fp, H' b = none) E s1) E s
  done : ∀ (X : Cx), X.prog = P → X.w = w → X.K = K → (c = true → X.calm = true) → ∀ (i : Nat) (pins : List (Addr × Obj)) (s : Shared) (σ : St) (H : Hp) (E : Value → Shared → Prop), Inv X pins σ H s → (∀ b ∈ fp, FpOk X pins H b) → tn i s.heap → J.stop i H →
    wpAny (model P w) X.A (pyNext (.ref it)) (fun r s1 => r = none ∧ Inv X pins σ H s1) E s
  self : ∀ (A : Around) (i : Nat) (s : Shared) (Q : Value → Shared → Prop) (E : Value → Shared → Prop), tn i s.heap → Q (.ref it) s → wpAny (model P w) A (pyIter (.ref it)) Q E s
abbrev TI := St → Hp → (It → Hp → Prop) → Prop
/-- an iterator has come -/
def PIE (c : Bool) (X : Cx) (pins : List (Addr × Obj)) (σ : St) (tg : Expr) (R : It → Hp → Prop) (itv : Value) (s2 : Shared) : Prop :=
  ∃ (it : Addr) (fp : List Addr) (tn : Nat → Heap → Prop) (J : It) (H' : Hp), itv = .ref it ∧ Inv X pins σ H' s2 ∧ Turn c X.prog X.w X.K tg J fp it tn ∧ tn 0 s2.heap ∧ (∀ b ∈ fp, FpOk X pins H' b) ∧ R J H'
def PIc (c : Bool) (X : Cx) (tg iter : Expr) (wi : TI) : Prop :=
  ∀ (pins : List (Addr × Obj)) (s : Shared) (σ : St) (H : Hp) (R : It → Hp → Prop), Inv X pins σ H s → wi σ H R →
    wpAny (model X.prog X.w) X.A (eval iter X.env) (fun v s1 => wpAny (model X.prog X.w) X.A (pyIter v) (PIE c X pins σ tg R) X.xe s1) X.xe s
abbrev PI := PIc true

/-- the step ahead of the store is nothing for an iterator that keeps no tuple -/
theorem go_of {M : Model} {A : Around} {E : Value → Shared → Prop} {s : Shared} {tg : Expr} {it : Addr} {u : Value} {o : Obj} {n : String} {vs : Array Value} {Q : Unit → Shared → Prop} (ho : s.heap.get? it = some o) (hc : o.cls = .type n) (hd : o.data = .fields vs)
    (hn : ["enumerate", "zip", "dict_itemiterator", "dict_reverseitemiterator", "odict_iterator", "itertools.zip_longest", "itertools.pairwise"].contains n = false) (hQ : Q () s) : wpAny M A (letOwnedTupleGo tg (.ref it) u) Q E s := by
  unfold letOwnedTupleGo
  cases tg <;> first
    | exact wpAny_pure hQ
    | (cases u <;> first
        | exact wpAny_pure hQ
        | (refine wpAny_bind (wpAny_load ho ?_)
           rw [hc, hd]
           show wpAny M A (if (["enumerate", "zip", "dict_itemiterator", "dict_reverseitemiterator", "odict_iterator", "itertools.zip_longest", "itertools.pairwise"].contains n && vs[0]? == some (rawInt _)) = true then _ else _) Q E s
           rw [if_neg (by intro h; rw [hn, Bool.false_and] at h; cases h)]
           exact wpAny_pure hQ))

/-- the list at a, as it stands at each turn (a loop may append to it) -/
def Itl (K : PySem.W.Frag) (a : Addr) : It :=
  ⟨fun i H => ∃ xs x, SqL K H a xs ∧ xs[i]? = some x, fun i H x H' => H' = H ∧ ∀ xs, SqL K H a xs → xs[i]? = some x, fun i H => ∃ xs, SqL K H a xs ∧ xs.length ≤ i⟩
def Itt (K : PySem.W.Frag) (a : Addr) : It :=
  ⟨fun i H => ∃ xs x, SqT K H a xs ∧ xs[i]? = some x, fun i H x H' => H' = H ∧ ∀ xs, SqT K H a xs → xs[i]? = some x, fun i H => ∃ xs, SqT K H a xs ∧ xs.length ≤ i⟩
/-- lo, lo + 1, .. (n of them) -/
def Itr (lo : Int) (n : Nat) : It := ⟨fun i _ => i < n, fun i H x H' => H' = H ∧ x = .int (lo + i), fun i _ => n ≤ i⟩
theorem turn_range {P : Program} {w : World} {K : PySem.W.Frag} {tg : Expr} (it : Addr) (lo : Int) (n : Nat) : Turn true P w K tg (Itr lo n) [it] it (fun i h => IsRangeIter h it (lo + (i : Nat) * 1) ((n : Int) - (i : Nat)) 1) where
  mem := by simp
  obj := fun i h st b hb => by
    have e : b = it := by simpa using hb
    subst e
    exact ⟨_, st, fun v z => by
      have z' : Data.fields _ = Data.cell v := z
      cases z'⟩
  keep := fun i h h' st k => k it (by simp) _ st
  item := by
    intro X hP hw hK hc i pins s σ H E I hf st hg
    subst hP hw hK
    obtain ⟨f0, f1, f2, f3, f4, f5⟩ := hf it (by simp)
    have W := Walks.range (prog := X.prog) (w := X.w) (I.ok.hd (hc rfl)) it lo 1 n
    refine W.item i s _ _ hg st fun v h' tk hv st' kk => ?_
    obtain ⟨t, rfl⟩ := hv
    have I1 : Inv X pins σ H { s with heap := h', toks := tk } := I.turned (fun b o hb e => kk b o (by simpa using hb) e) f0 f1 f3 f4 f5
    refine ⟨_, rfl, go_of (s := { s with heap := h', toks := tk }) (n := "range_iterator") st' rfl rfl (by decide) ⟨.int (lo + i), H, I1, ⟨t, ?_⟩, ⟨rfl, rfl⟩, st', fun b hb => (hf b hb).1⟩⟩
    rw [Int.mul_one]
  done := by
    intro X hP hw hK hc i pins s σ H E I hf st hg
    subst hP hw hK
    obtain ⟨f0, f1, f2, f3, f4, f5⟩ := hf it (by simp)
    exact wpAny_pyNext_range_end (I.ok.hd (hc rfl)) st (by have : n ≤ i := hg; omega) fun h' eb => ⟨rfl, I.turned (t' := s.toks) (fun b o hb e => eb b o hb e) f0 f1 f3 f4 f5⟩
  self := fun _ _ _ _ _ st h => wpAny_pyIter_rangeiter st h
end L2

namespace L2
open PySem PySem.Spec PyProof.Rows
section
variable {X : Cx} {tg : Expr}
def iList (K : PySem.W.Frag) (tl : TE) : TI := fun σ H R => tl σ H fun x H1 => ∃ a, x = .ref a ∧ (∃ xs, SqL K H1 a xs) ∧ R (Itl K a) H1
def iTup (K : PySem.W.Frag) (tl : TE) : TI := fun σ H R => tl σ H fun x H1 => ∃ a, x = .ref a ∧ (∃ xs, SqT K H1 a xs) ∧ R (Itt K a) H1
/-- a range object just made, walked -/
theorem range_it {pins : List (Addr × Obj)} {σ : St} {H : Hp} {s : Shared} {R : It → Hp → Prop} {E : Value → Shared → Prop} {lo hi : Int} {t u v : Tok} {tk : Nat} (I : Inv X pins σ H s) (h1 : -(2 ^ 62) ≤ lo) (h2 : lo < 2 ^ 62) (h3 : -(2 ^ 62) ≤ hi) (h4 : hi < 2 ^ 62)
    (q : R (Itr lo (hi - lo).toNat) H) : wpAny (model X.prog X.w) X.A (pyIter (.ref s.heap.objs.size)) (PIE true X pins σ tg R) E { s with heap := s.heap.push { cls := .type "range", data := .fields #[.int lo t, .int hi u, .int 1 v] }, toks := tk } := by
  refine wpAny_pyIter_range (IsRange.new ..) (small_one h1 h2 h3 h4) ?_
  have I1 : Inv X pins σ H { s with heap := s.heap.push { cls := .type "range", data := .fields #[.int lo t, .int hi u, .int 1 v] }, toks := tk } := I.kept fun b o e => Heap.get?_push_of_some _ e
  refine ⟨(s.heap.push { cls := .type "range", data := .fields #[.int lo t, .int hi u, .int 1 v] }).objs.size, [(s.heap.push { cls := .type "range", data := .fields #[.int lo t, .int hi u, .int 1 v] }).objs.size], _, _, H, rfl,
    I1.kept (t' := tk) fun b o e => Heap.get?_push_of_some _ e, turn_range _ lo (hi - lo).toNat, ?_, fun b hb => ?_, q⟩
  · have e1 : lo + ((0 : Nat) : Int) * 1 = lo := by simp
    have e2 : (((hi - lo).toNat : Nat) : Int) - ((0 : Nat) : Int) = Builtin.Range.rangeSize lo hi 1 := by rw [rangeSize_one]; split <;> omega
    show IsRangeIter _ _ (lo + ((0 : Nat) : Int) * 1) ((((hi - lo).toNat : Nat) : Int) - ((0 : Nat) : Int)) 1
    rw [e1, e2]
    exact Heap.get?_push_size _ rfl
  · have e : b = (s.heap.push { cls := .type "range", data := .fields #[.int lo t, .int hi u, .int 1 v] }).objs.size := by simpa using hb
    subst e
    exact I1.fpOk (Nat.le_refl _) (I1.hok.fresh (Nat.le_refl _))
def iRng1 (ta : TA) : TI := fun σ H R => ta σ H fun vs H1 => ∃ j : Int, vs = [.int j] ∧ -(2 ^ 62) ≤ j ∧ j < 2 ^ 62 ∧ R (Itr 0 j.toNat) H1
def iRng2 (ta : TA) : TI := fun σ H R => ta σ H fun vs H1 => ∃ i j : Int, vs = [.int i, .int j] ∧ (-(2 ^ 62) ≤ i ∧ i < 2 ^ 62 ∧ -(2 ^ 62) ≤ j ∧ j < 2 ^ 62) ∧ R (Itr i (j - i).toNat) H1
theorem pi_range1 {a : Expr} {ta : TA} {p pos : Pos} (hg : Gl X "range") (hm : X.mg "range" = none) (ha : PA X [a] ta) (hs : starEach [a] X.env = [(false, eval a X.env)] := by rfl) : PI X tg (.Call (.Name "range" p) [a] [] pos) (iRng1 ta) := by
  intro pins s σ H R I h
  refine Call_ (ld_blt I hg hm boot_range (PyProof.Rows.callWith_type1 (thn (ha pos pins s σ H _ I h) fun us s1 ⟨vs, H1, I1, r1, q1⟩ => ?_) hs rfl))
  obtain ⟨j, e, q1, q2, q⟩ := q1
  subst e
  cases r1 with
  | cons r rr =>
    cases rr
    obtain ⟨t, rfl⟩ := r
    exact call_range_1 (range_it I1 (by omega) (by omega) q1 q2 (by simpa using q))
/-! ### for -/
/-- W: the invariant by the turn and a measure; N: what the body is to reach -/
def tFor (wi : TI) (g : TG) (tb : TS) : TS := fun D σ H => wi σ H fun J H1 => ∃ W : Nat → Nat → St → Hp → Prop, (∃ m, W 0 m σ H1) ∧ ∀ i m σ H, W i m σ H →
  (J.stop i H ∧ D.nx σ H) ∨ (J.go i H ∧ ∃ N : St → Hp → Prop, (∀ σ' H', N σ' H' → ∃ m', m' < m ∧ W (i + 1) m' σ' H') ∧ ∀ x H', J.yld i H x H' → g x σ H' fun σ2 H2 => tb { D with nx := N, ct := N, bk := D.nx } σ2 H2)
/-- the records at fp as they stand -/
def pinsAt (fp : List Addr) (h : Heap) : List (Addr × Obj) := fp.filterMap fun b => (h.get? b).map fun o => (b, o)
theorem mem_pinsAt {fp : List Addr} {h : Heap} {b : Addr} {o : Obj} (hb : b ∈ fp) (e : h.get? b = some o) : (b, o) ∈ pinsAt fp h := List.mem_filterMap.mpr ⟨b, hb, by rw [e]; rfl⟩
theorem of_pinsAt {fp : List Addr} {h : Heap} {p : Addr × Obj} (hp : p ∈ pinsAt fp h) : p.1 ∈ fp ∧ h.get? p.1 = some p.2 := by
  obtain ⟨b, hb, e⟩ := List.mem_filterMap.mp hp
  cases q : h.get? b with
  | none => rw [q] at e; cases e
  | some o =>
    rw [q] at e
    have e' : (b, o) = p := Option.some.inj e
    subst e'
    exact ⟨hb, q⟩
theorem Inv.pinned {pins : List (Addr × Obj)} {σ : St} {H : Hp} {s : Shared} {fp : List Addr} (I : Inv X pins σ H s) (hf : ∀ b ∈ fp, FpOk X pins H b) (ho : ∀ b ∈ fp, ∃ o, s.heap.get? b = some o ∧ ∀ v, o.data ≠ .cell v) : Inv X (pins ++ pinsAt fp s.heap) σ H s :=
  I.pins_of fun p hp => (List.mem_append.mp hp).elim (fun z => I.pin p (List.mem_append_right _ z)) fun z => by
    obtain ⟨hb, e⟩ := of_pinsAt z
    obtain ⟨f0, f1, f2, _⟩ := hf p.1 hb
    obtain ⟨o, e', d⟩ := ho p.1 hb
    rw [e] at e'; cases e'
    exact ⟨e, f0, f1, f2, d⟩
theorem Inv.unpinned {pins pl : List (Addr × Obj)} {σ : St} {H : Hp} {s : Shared} (I : Inv X (pins ++ pl) σ H s) : Inv X pins σ H s := I.pins_of fun p hp => I.pin p (List.mem_append_right _ (List.mem_append_left _ hp))
theorem ps_for {c : Bool} {iter : Expr} {body : List Stmt} {wi : TI} {g : TG} {tb : TS} {pos : Pos} (hp : PassesOwn (model X.prog X.w) X.A X.env X.xe) (hc : c = true → X.calm = true) (hi : PIc c X tg iter wi) (hg : PG X tg g) (hb : PSs X body tb)
    (hs : ∀ x, foldedSetIterable iter X.env x = pure x := by intro _; rfl) : PS X (.For tg iter body [] pos) (tFor wi g tb) := by
  intro pins s σ H D I h
  refine wpAny_For (thn (hi pins s σ H _ I h) fun v s1 h1 => thn h1 fun itv s2 h2 => ?_) hs
  obtain ⟨it, fp, tn, J, H2, e, I2, T, st2, f2, W, ⟨m0, w0⟩, turn⟩ := h2
  subst e
  -- what stays true of the iterator's objects through the loop
  have stat : ∀ {H' : Hp}, (∀ b ∈ fp, H' b = none) → ∀ b ∈ fp, FpOk X pins H' b := fun hn b hb => ⟨hn b hb, (f2 b hb).2⟩
  refine codeAny_forLoop_any (fun n s' => ∃ i σ' H', Inv X pins σ' H' s' ∧ tn i s'.heap ∧ (∀ b ∈ fp, H' b = none) ∧ W i n σ' H') ?_ m0 ⟨0, σ, H2, I2, st2, fun b hb => (f2 b hb).1, w0⟩
  rintro n s3 ⟨i, σ3, H3, I3, st3, fr3, w3⟩
  rcases turn i n σ3 H3 w3 with ⟨stop, qn⟩ | ⟨go, N, hN, step⟩
  · refine wpAny_passesOwn hp (thn (T.done X rfl rfl rfl hc i pins s3 σ3 H3 X.xe I3 (stat fr3) st3 stop) fun r s4 ⟨hr, I4⟩ => ?_)
    subst hr
    exact wpAny_execs_nil ⟨σ3, H3, I4, qn⟩
  · refine wpAny_passesOwn hp (thn (T.item X rfl rfl rfl hc i pins s3 σ3 H3 X.xe I3 (stat fr3) st3 go) fun r s4 ⟨u, hr, h4⟩ => ?_)
    subst hr
    refine wpAny_passesOwn hp (thn h4 fun _ s5 ⟨x, H5, I5, r5, y5, st5, fr5⟩ => ?_)
    have I5' := I5.pinned (stat fr5) (T.obj _ _ st5)
    refine wpAny_passesOwn hp (thn (hg _ s5 σ3 H5 x u _ I5' r5 (step x H5 y5)) fun _ s6 ⟨σ6, H6, I6, q6⟩ => ?_)
    refine wpAny_passesOwn hp (thn (hb _ s6 σ6 H6 _ I6 q6) fun f s7 q7 => ?_)
    have again : ∀ {σ7 : St} {H7 : Hp}, Inv X (pins ++ pinsAt fp s5.heap) σ7 H7 s7 → N σ7 H7 → ∃ m, m < n ∧ ∃ i σ' H', Inv X pins σ' H' s7 ∧ tn i s7.heap ∧ (∀ b ∈ fp, H' b = none) ∧ W i m σ' H' := fun {σ7 H7} I7 n7 => by
      obtain ⟨m', hm, w7⟩ := hN σ7 H7 n7
      refine ⟨m', hm, i + 1, σ7, H7, I7.unpinned, T.keep _ _ _ st5 fun b hb o e => (I7.pin (b, o) (List.mem_append_right _ (List.mem_append_right _ (mem_pinsAt hb e)))).1, fun b hb => ?_, w7⟩
      obtain ⟨o, e, d⟩ := T.obj _ _ st5 b hb
      exact (I7.pin (b, o) (List.mem_append_right _ (List.mem_append_right _ (mem_pinsAt hb e)))).2.1
    cases f with
    | next => obtain ⟨σ7, H7, I7, n7⟩ := q7; exact again I7 n7
    | cont => obtain ⟨σ7, H7, I7, n7⟩ := q7; exact again I7 n7
    | brk => obtain ⟨σ7, H7, I7, q7⟩ := q7; exact ⟨σ7, H7, I7.unpinned, q7⟩
    | ret v => obtain ⟨x7, σ7, H7, I7, r7, q7⟩ := q7; exact ⟨x7, σ7, H7, I7.unpinned, r7, q7⟩
end

/-! ### the forms one uses -/
/-- over a list that the body leaves as it is -/
theorem for_list {K : PySem.W.Frag} {a : Addr} {xs : List V} {g : TG} {tb : TS} {D : Ends} {σ : St} {H : Hp} (Pv : Nat → St → Hp → Prop) (h0 : Pv 0 σ H) (hl : ∀ i σ H, i ≤ xs.length → Pv i σ H → SqL K H a xs)
    (hs : ∀ i x σ H, xs[i]? = some x → Pv i σ H → g x σ H fun σ2 H2 => tb { D with nx := Pv (i + 1), ct := Pv (i + 1), bk := D.nx } σ2 H2) (hd : ∀ σ H, Pv xs.length σ H → D.nx σ H) :
    ∃ W : Nat → Nat → St → Hp → Prop, (∃ m, W 0 m σ H) ∧ ∀ i m σ H, W i m σ H →
      ((Itl K a).stop i H ∧ D.nx σ H) ∨ ((Itl K a).go i H ∧ ∃ N : St → Hp → Prop, (∀ σ' H', N σ' H' → ∃ m', m' < m ∧ W (i + 1) m' σ' H') ∧ ∀ x H', (Itl K a).yld i H x H' → g x σ H' fun σ2 H2 => tb { D with nx := N, ct := N, bk := D.nx } σ2 H2) := by
  refine ⟨fun i m σ H => m = xs.length - i ∧ i ≤ xs.length ∧ Pv i σ H, ⟨xs.length, by simp, Nat.zero_le _, h0⟩, ?_⟩
  rintro i m σ H ⟨rfl, hi, p⟩
  have q := hl i σ H hi p
  by_cases hlt : i < xs.length
  · refine .inr ⟨⟨xs, xs[i], q, by simp [hlt]⟩, Pv (i + 1), fun σ' H' p' => ⟨xs.length - (i + 1), by omega, rfl, hlt, p'⟩, fun x H' y => ?_⟩
    obtain ⟨e, y⟩ := y
    subst e
    exact hs i x σ _ (y xs q) p
  · have e : i = xs.length := by omega
    subst e
    exact .inl ⟨⟨xs, q, Nat.le_refl _⟩, hd σ H p⟩
theorem for_tup {K : PySem.W.Frag} {a : Addr} {xs : List V} {g : TG} {tb : TS} {D : Ends} {σ : St} {H : Hp} (Pv : Nat → St → Hp → Prop) (h0 : Pv 0 σ H) (hl : ∀ i σ H, i ≤ xs.length → Pv i σ H → SqT K H a xs)
    (hs : ∀ i x σ H, xs[i]? = some x → Pv i σ H → g x σ H fun σ2 H2 => tb { D with nx := Pv (i + 1), ct := Pv (i + 1), bk := D.nx } σ2 H2) (hd : ∀ σ H, Pv xs.length σ H → D.nx σ H) :
    ∃ W : Nat → Nat → St → Hp → Prop, (∃ m, W 0 m σ H) ∧ ∀ i m σ H, W i m σ H →
      ((Itt K a).stop i H ∧ D.nx σ H) ∨ ((Itt K a).go i H ∧ ∃ N : St → Hp → Prop, (∀ σ' H', N σ' H' → ∃ m', m' < m ∧ W (i + 1) m' σ' H') ∧ ∀ x H', (Itt K a).yld i H x H' → g x σ H' fun σ2 H2 => tb { D with nx := N, ct := N, bk := D.nx } σ2 H2) := by
  refine ⟨fun i m σ H => m = xs.length - i ∧ i ≤ xs.length ∧ Pv i σ H, ⟨xs.length, by simp, Nat.zero_le _, h0⟩, ?_⟩
  rintro i m σ H ⟨rfl, hi, p⟩
  have q := hl i σ H hi p
  by_cases hlt : i < xs.length
  · refine .inr ⟨⟨xs, xs[i], q, by simp [hlt]⟩, Pv (i + 1), fun σ' H' p' => ⟨xs.length - (i + 1), by omega, rfl, hlt, p'⟩, fun x H' y => ?_⟩
    obtain ⟨e, y⟩ := y
    subst e
    exact hs i x σ _ (y xs q) p
  · have e : i = xs.length := by omega
    subst e
    exact .inl ⟨⟨xs, q, Nat.le_refl _⟩, hd σ H p⟩
theorem for_range {lo : Int} {n : Nat} {g : TG} {tb : TS} {D : Ends} {σ : St} {H : Hp} (Pv : Nat → St → Hp → Prop) (h0 : Pv 0 σ H)
    (hs : ∀ i σ H, i < n → Pv i σ H → g (.int (lo + i)) σ H fun σ2 H2 => tb { D with nx := Pv (i + 1), ct := Pv (i + 1), bk := D.nx } σ2 H2) (hd : ∀ σ H, Pv n σ H → D.nx σ H) :
    ∃ W : Nat → Nat → St → Hp → Prop, (∃ m, W 0 m σ H) ∧ ∀ i m σ H, W i m σ H →
      ((Itr lo n).stop i H ∧ D.nx σ H) ∨ ((Itr lo n).go i H ∧ ∃ N : St → Hp → Prop, (∀ σ' H', N σ' H' → ∃ m', m' < m ∧ W (i + 1) m' σ' H') ∧ ∀ x H', (Itr lo n).yld i H x H' → g x σ H' fun σ2 H2 => tb { D with nx := N, ct := N, bk := D.nx } σ2 H2) := by
  refine ⟨fun i m σ H => m = n - i ∧ i ≤ n ∧ Pv i σ H, ⟨n, by simp, Nat.zero_le _, h0⟩, ?_⟩
  rintro i m σ H ⟨rfl, hi, p⟩
  by_cases hlt : i < n
  · refine .inr ⟨hlt, Pv (i + 1), fun σ' H' p' => ⟨n - (i + 1), by omega, rfl, hlt, p'⟩, fun x H' y => ?_⟩
    obtain ⟨e, y⟩ := y
    subst e y
    exact hs i σ _ hlt p
  · have e : i = n := by omega
    subst e
    exact .inl ⟨Nat.le_refl _, hd σ H p⟩
end L2

namespace L2
open PySem PySem.Spec PyProof.Rows

abbrev R2 := V → V → Hp → VK → Prop
/-- a two-place operation on values: f is binaryOp op, inplaceOp op or compareOp op -/
def OpR (X : Cx) (f : Value → Value → Sem Value) (r : R2) : Prop :=
  ∀ (pins : List (Addr × Obj)) (s : Shared) (σ : St) (H : Hp) (x y : V) (v u : Value) (Q : VK), Inv X pins σ H s → RelV x v → RelV y u → r x y H Q →
    wpAny (model X.prog X.w) X.A (f v u) (EP X pins σ Q) X.xe s
/-- a one-place operation -/
def UnR (X : Cx) (f : Value → Sem Value) (r : V → Hp → VK → Prop) : Prop :=
  ∀ (pins : List (Addr × Obj)) (s : Shared) (σ : St) (H : Hp) (x : V) (v : Value) (Q : VK), Inv X pins σ H s → RelV x v → r x H Q →
    wpAny (model X.prog X.w) X.A (f v) (EP X pins σ Q) X.xe s
/-- a call of a value that is known (a builtin, a type) with values -/
def CallR (X : Cx) (f : Value) (r : List V → Hp → VK → Prop) : Prop :=
  ∀ (pins : List (Addr × Obj)) (s : Shared) (σ : St) (H : Hp) (xs : List V) (us : List Value) (Q : VK), Inv X pins σ H s → Vals xs us → r xs H Q →
    wpAny (model X.prog X.w) X.A (call f us) (EP X pins σ Q) X.xe s
/-- a value's truth -/
def TruR (X : Cx) (r : V → Hp → (Bool → Hp → Prop) → Prop) : Prop :=
  ∀ (pins : List (Addr × Obj)) (s : Shared) (σ : St) (H : Hp) (x : V) (v : Value) (Q : Bool → Hp → Prop), Inv X pins σ H s → RelV x v → r x H Q →
    wpAny (model X.prog X.w) X.A (truthy v) (TP X pins σ Q) X.xe s

def tOp (r : R2) (ta tb : TE) : TE := fun σ H Q => ta σ H fun x H1 => tb σ H1 fun y H2 => r x y H2 Q
def tUn (r : V → Hp → VK → Prop) (ta : TE) : TE := fun σ H Q => ta σ H fun x H1 => r x H1 Q
/-- ints in, under C, and a value out -/
def rI (C : Int → Int → Prop) (g : Int → Int → V) : R2 := fun x y H Q => ∃ i j, x = .int i ∧ y = .int j ∧ C i j ∧ Q (g i j) H
def rI0 (g : Int → Int → V) : R2 := fun x y H Q => ∃ i j, x = .int i ∧ y = .int j ∧ Q (g i j) H
def rU (g : Int → V) : V → Hp → VK → Prop := fun x H Q => ∃ i, x = .int i ∧ Q (g i) H

section
variable {X : Cx} {a b c : Expr} {ta tb tc : TE} {pos : Pos}

theorem binT (ha : PE X a ta) (hb : PE X b tb) {pins : List (Addr × Obj)} {s : Shared} {σ : St} {H : Hp} {R : V → V → Hp → Prop} (I : Inv X pins σ H s)
    (h : ta σ H fun x H1 => tb σ H1 fun y H2 => R x y H2) {Q : Value → Shared → Prop} {f : Value → Value → Sem Value}
    (hf : ∀ v u s2 x y H2, Inv X pins σ H2 s2 → RelV x v → RelV y u → R x y H2 → wpAny (model X.prog X.w) X.A (f v u) Q X.xe s2) :
    wpAny (model X.prog X.w) X.A (eval a X.env) (fun v s₁ => wpAny (model X.prog X.w) X.A (eval b X.env) (fun u s₂ => wpAny (model X.prog X.w) X.A (f v u) Q X.xe s₂) X.xe s₁) X.xe s := by
  refine thn (ha pins s σ H _ I h) fun v s1 ⟨x, H1, I1, r1, q1⟩ => ?_
  refine thn (hb pins s1 σ H1 _ I1 q1) fun u s2 ⟨y, H2, I2, r2, q2⟩ => ?_
  exact hf v u s2 x y H2 I2 r1 r2 q2

theorem pe_op {op : Operator} {r : R2} (ho : OpR X (binaryOp op) r) (ha : PE X a ta) (hb : PE X b tb) : PE X (.BinOp a op b pos) (tOp r ta tb) := by
  intro pins s σ H Q I h
  exact wpAny_BinOp (binT ha hb I h fun v u s2 x y H2 I2 rx ry q => ho pins s2 σ H2 x y v u Q I2 rx ry q)
theorem pe_un {op : UnaryOp} {r : V → Hp → VK → Prop} (ho : UnR X (unaryOp op) r) (ha : PE X a ta) : PE X (.UnaryOp op a pos) (tUn r ta) := by
  intro pins s σ H Q I h
  exact UnaryOp_ (thn (ha pins s σ H _ I h) fun v s1 ⟨x, H1, I1, r1, q1⟩ => ho pins s1 σ H1 x v Q I1 r1 q1)
/-! ### ints -/
theorem opI {f : Value → Value → Sem Value} {C : Int → Int → Prop} {g : Int → Int → Int}
    (rule : ∀ (i j : Int) (t u : Tok) (s : Shared) (Q : Value → Shared → Prop) (E : Value → Shared → Prop), C i j → Q (.int (g i j) s.toks) { s with toks := s.toks + 1 } → wpAny (model X.prog X.w) X.A (f (.int i t) (.int j u)) Q E s) :
    OpR X f (rI C fun i j => .int (g i j)) := by
  intro pins s σ H x y v u Q I rx ry h
  obtain ⟨i, j, rfl, rfl, hc, q⟩ := h
  obtain ⟨t, rfl⟩ := rx
  obtain ⟨t', rfl⟩ := ry
  exact rule i j t t' s _ _ hc ⟨.int (g i j), H, I.tok _, ⟨_, rfl⟩, q⟩
theorem opI0 {f : Value → Value → Sem Value} {g : Int → Int → Int}
    (rule : ∀ (i j : Int) (t u : Tok) (s : Shared) (Q : Value → Shared → Prop) (E : Value → Shared → Prop), Q (.int (g i j) s.toks) { s with toks := s.toks + 1 } → wpAny (model X.prog X.w) X.A (f (.int i t) (.int j u)) Q E s) :
    OpR X f (rI0 fun i j => .int (g i j)) := by
  intro pins s σ H x y v u Q I rx ry h
  obtain ⟨i, j, rfl, rfl, q⟩ := h
  obtain ⟨t, rfl⟩ := rx
  obtain ⟨t', rfl⟩ := ry
  exact rule i j t t' s _ _ ⟨.int (g i j), H, I.tok _, ⟨_, rfl⟩, q⟩
theorem opB0 {f : Value → Value → Sem Value} {g : Int → Int → Bool}
    (rule : ∀ (i j : Int) (t u : Tok) (s : Shared) (Q : Value → Shared → Prop) (E : Value → Shared → Prop), Q (.bool (g i j)) s → wpAny (model X.prog X.w) X.A (f (.int i t) (.int j u)) Q E s) :
    OpR X f (rI0 fun i j => .bl (g i j)) := by
  intro pins s σ H x y v u Q I rx ry h
  obtain ⟨i, j, rfl, rfl, q⟩ := h
  obtain ⟨t, rfl⟩ := rx
  obtain ⟨t', rfl⟩ := ry
  exact rule i j t t' s _ _ ⟨.bl (g i j), H, I, rfl, q⟩

def CDiv (i j : Int) : Prop := 0 < j ∧ j < 1073741824
def CPow (i j : Int) : Prop := 0 ≤ j ∧ j ≤ 1000000 ∧ i.natAbs < 2 ^ 64
def CMul (i j : Int) : Prop := (-(2 ^ 64) < i ∧ i < 2 ^ 64) ∨ (-(2 ^ 64) < j ∧ j < 2 ^ 64)
theorem CMul.ok {i j : Int} (h : CMul i j) : IntMulOk i j := by
  rcases h with ⟨h1, h2⟩ | ⟨h1, h2⟩
  · exact .of_left (intBits_le_64 h1 h2)
  · exact .of_right (intBits_le_64 h1 h2)
theorem op_add : OpR X (binaryOp .Add) (rI0 fun i j => .int (i + j)) := opI0 fun _ _ _ _ _ _ _ q => add_int q
theorem op_sub : OpR X (binaryOp .Sub) (rI0 fun i j => .int (i - j)) := opI0 fun _ _ _ _ _ _ _ q => sub_int q
theorem op_mul : OpR X (binaryOp .Mult) (rI CMul fun i j => .int (i * j)) := opI fun _ _ _ _ _ _ _ hc q => mul_int q hc.ok
/-- // by a positive divisor -/
theorem op_fdiv : OpR X (binaryOp .FloorDiv) (rI CDiv fun i j => .int (i / j)) := opI fun i j _ _ _ _ _ hc q => by
  have h1 : (0 : Int) < j := hc.1
  have h2 : j < 1073741824 := hc.2
  exact floordiv_int (by omega) (by rw [Int.fdiv_eq_ediv_of_nonneg i (by omega)]; exact q) (.inl (PyProof.noPylong_small (by omega)))
/-- % by a positive divisor of any size -/
theorem op_mod : OpR X (binaryOp .Mod) (rI (fun _ j => 0 < j) fun i j => .int (i % j)) := opI fun i j _ _ _ _ _ hc q => by
  have h1 : (0 : Int) < j := hc
  exact mod_int' (by omega) (by rw [Int.fmod_eq_emod_of_nonneg i (by omega)]; exact q)
theorem op_pow : OpR X (binaryOp .Pow) (rI CPow fun i j => .int (i ^ j.toNat)) := opI fun _ _ _ _ _ _ _ hc q => pow_int_small hc.1 hc.2.1 hc.2.2 q
theorem unI {f : Value → Sem Value} {g : Int → Int}
    (rule : ∀ (i : Int) (t : Tok) (s : Shared) (Q : Value → Shared → Prop) (E : Value → Shared → Prop), Q (.int (g i) s.toks) { s with toks := s.toks + 1 } → wpAny (model X.prog X.w) X.A (f (.int i t)) Q E s) :
    UnR X f (rU fun i => .int (g i)) := by
  intro pins s σ H x v Q I rx h
  obtain ⟨i, rfl, q⟩ := h
  obtain ⟨t, rfl⟩ := rx
  exact rule i t s _ _ ⟨.int (g i), H, I.tok _, ⟨_, rfl⟩, q⟩
theorem un_neg : UnR X (unaryOp .USub) (rU fun i => .int (-i)) := unI fun _ _ _ _ _ q => neg_int q
/-! ### bools among ints: n += (a < b) -/
end

/-! ### comparisons -/
/-- the scalars that == tells apart as data does -/
def scal : V → V → Bool
  | .non, .non => true | .non, .int _ => true | .int _, .non => true | .non, .bl _ => true | .bl _, .non => true | .non, .str _ => true | .str _, .non => true
  | .int _, .int _ => true | .bl _, .bl _ => true | .str _, .str _ => true | .byt _, .byt _ => true
  | .int _, .str _ => true | .str _, .int _ => true | .bl _, .str _ => true | .str _, .bl _ => true
  | _, _ => false
def rEq : R2 := fun x y H Q => scal x y = true ∧ Q (.bl (decide (x = y))) H
def rNe : R2 := fun x y H Q => scal x y = true ∧ Q (.bl (!decide (x = y))) H

theorem dec_int {i j : Int} : decide (V.int i = V.int j) = (i == j) := by
  rw [Bool.eq_iff_iff]
  simp
theorem dec_bl {i j : Bool} : decide (V.bl i = V.bl j) = (i == j) := by
  rw [Bool.eq_iff_iff]
  simp
theorem dec_str {i j : Str} : decide (V.str i = V.str j) = (i == j) := by
  rw [Bool.eq_iff_iff]
  simp
theorem dec_byt {i j : Array UInt8} : decide (V.byt i = V.byt j) = (i.toList == j.toList) := by
  rw [Bool.eq_iff_iff]
  cases i
  cases j
  simp

section
variable {X : Cx} {a b c : Expr} {ta tb tc : TE} {pos : Pos}
theorem fin_bl {pins : List (Addr × Obj)} {σ : St} {H : Hp} {s : Shared} {Q : VK} {k k' : Bool} (I : Inv X pins σ H s) (q : Q (.bl k) H) (e : k = k') : EP X pins σ Q (.bool k') s := by
  subst e
  exact ⟨.bl k, H, I, rfl, q⟩
theorem op_eq : OpR X (compareOp .Eq) rEq := by
  intro pins s σ H x y v u Q I rx ry h
  obtain ⟨hs, q⟩ := h
  cases x with
  | non =>
    cases rx
    cases y with
    | non => cases ry; exact PySem.EqNone.eq_none_none (fin_bl I q (by simp))
    | bl j => cases ry; exact PySem.EqNone.eq_none_bool (fin_bl I q (by simp))
    | int j => obtain ⟨t', rfl⟩ := ry; exact PySem.EqNone.eq_none_int (fin_bl I q (by simp))
    | str j => obtain ⟨t', rfl⟩ := ry; exact PySem.EqNone.eq_none_str (fin_bl I q (by simp))
    | _ => exact absurd (show false = true from hs) Bool.false_ne_true
  | bl i =>
    cases rx
    cases y with
    | non => cases ry; exact PySem.EqNone.eq_bool_none (fin_bl I q (by simp))
    | bl j => cases ry; exact eq_bool (fin_bl I q dec_bl)
    | str j => obtain ⟨t', rfl⟩ := ry; exact PySem.EqMixed.eq_bool_str (fin_bl I q (by simp))
    | _ => exact absurd (show false = true from hs) Bool.false_ne_true
  | int i =>
    obtain ⟨t, rfl⟩ := rx
    cases y with
    | non => cases ry; exact PySem.EqNone.eq_int_none (fin_bl I q (by simp))
    | int j => obtain ⟨t', rfl⟩ := ry; exact eq_int (fin_bl I q dec_int)
    | str j => obtain ⟨t', rfl⟩ := ry; exact PySem.EqMixed.eq_int_str (fin_bl I q (by simp))
    | _ => exact absurd (show false = true from hs) Bool.false_ne_true
  | str i =>
    obtain ⟨t, rfl⟩ := rx
    cases y with
    | non => cases ry; exact PySem.EqNone.eq_str_none (fin_bl I q (by simp))
    | bl j => cases ry; exact PySem.EqMixed.eq_str_bool (fin_bl I q (by simp))
    | int j => obtain ⟨t', rfl⟩ := ry; exact PySem.EqMixed.eq_str_int (fin_bl I q (by simp))
    | str j => obtain ⟨t', rfl⟩ := ry; exact eq_str (fin_bl I q dec_str)
    | _ => exact absurd (show false = true from hs) Bool.false_ne_true
  | byt i =>
    obtain ⟨t, rfl⟩ := rx
    cases y with
    | byt j => obtain ⟨t', rfl⟩ := ry; exact PySem.W.eq_bytes (fin_bl I q dec_byt)
    | _ => exact absurd (show false = true from hs) Bool.false_ne_true
  | _ => cases y <;> exact absurd (show false = true from hs) Bool.false_ne_true
theorem op_ne : OpR X (compareOp .NotEq) rNe := by
  intro pins s σ H x y v u Q I rx ry h
  obtain ⟨hs, q⟩ := h
  cases x with
  | non =>
    cases rx
    cases y with
    | non => cases ry; exact PySem.EqNone.ne_none_none (fin_bl I q (by simp))
    | bl j => cases ry; exact PySem.EqNone.ne_none_bool (fin_bl I q (by simp))
    | int j => obtain ⟨t', rfl⟩ := ry; exact PySem.EqNone.ne_none_int (fin_bl I q (by simp))
    | str j => obtain ⟨t', rfl⟩ := ry; exact PySem.EqNone.ne_none_str (fin_bl I q (by simp))
    | _ => exact absurd (show false = true from hs) Bool.false_ne_true
  | bl i =>
    cases rx
    cases y with
    | non => cases ry; exact PySem.EqNone.ne_bool_none (fin_bl I q (by simp))
    | bl j => cases ry; exact ne_bool (fin_bl I q (congrArg not dec_bl))
    | str j => obtain ⟨t', rfl⟩ := ry; exact PySem.EqMixed.ne_bool_str (fin_bl I q (by simp))
    | _ => exact absurd (show false = true from hs) Bool.false_ne_true
  | int i =>
    obtain ⟨t, rfl⟩ := rx
    cases y with
    | non => cases ry; exact PySem.EqNone.ne_int_none (fin_bl I q (by simp))
    | int j => obtain ⟨t', rfl⟩ := ry; exact ne_int (fin_bl I q (congrArg not dec_int))
    | str j => obtain ⟨t', rfl⟩ := ry; exact PySem.EqMixed.ne_int_str (fin_bl I q (by simp))
    | _ => exact absurd (show false = true from hs) Bool.false_ne_true
  | str i =>
    obtain ⟨t, rfl⟩ := rx
    cases y with
    | non => cases ry; exact PySem.EqNone.ne_str_none (fin_bl I q (by simp))
    | bl j => cases ry; exact PySem.EqMixed.ne_str_bool (fin_bl I q (by simp))
    | int j => obtain ⟨t', rfl⟩ := ry; exact PySem.EqMixed.ne_str_int (fin_bl I q (by simp))
    | str j => obtain ⟨t', rfl⟩ := ry; exact ne_str (fin_bl I q (congrArg not dec_str))
    | _ => exact absurd (show false = true from hs) Bool.false_ne_true
  | byt i =>
    obtain ⟨t, rfl⟩ := rx
    cases y with
    | byt j => obtain ⟨t', rfl⟩ := ry; exact PySem.W.ne_bytes (fin_bl I q (congrArg not dec_byt))
    | _ => exact absurd (show false = true from hs) Bool.false_ne_true
  | _ => cases y <;> exact absurd (show false = true from hs) Bool.false_ne_true

theorem op_lt : OpR X (compareOp .Lt) (rI0 fun i j => .bl (decide (i < j))) := opB0 fun _ _ _ _ _ _ _ q => lt_int q
theorem op_le : OpR X (compareOp .LtE) (rI0 fun i j => .bl (decide (i ≤ j))) := opB0 fun _ _ _ _ _ _ _ q => le_int q
/-- two rules for one operation: by cases -/
theorem OpR.or {f : Value → Value → Sem Value} {r r' : R2} (h : OpR X f r) (h' : OpR X f r') : OpR X f (fun x y H Q => r x y H Q ∨ r' x y H Q) := by
  intro pins s σ H x y v u Q I rx ry q
  rcases q with q | q
  · exact h pins s σ H x y v u Q I rx ry q
  · exact h' pins s σ H x y v u Q I rx ry q

theorem nomark (b : Expr) {op : CmpOp} (h : op ≠ .In := by decide) (h2 : op ≠ .NotIn := by decide) : behindInMarks op b = false := by
  have e1 : (op == CmpOp.In) = false := by cases op <;> first | rfl | exact absurd rfl h
  have e2 : (op == CmpOp.NotIn) = false := by cases op <;> first | rfl | exact absurd rfl h2
  cases b <;> simp [behindInMarks, e1, e2]
/-- a comparison as a value; hm: nomark b, or (for in, not in) by with_unfolding_all rfl -/
theorem pe_cmpR {op : CmpOp} {r : R2} (ho : OpR X (compareOp op) r) (ha : PE X a ta) (hb : PE X b tb) (hm : behindInMarks op b = false) : PE X (.Compare a [op] [b] pos) (tOp r ta tb) := by
  intro pins s σ H Q I h
  exact wpAny_Compare1 (binT ha hb I h fun v u s2 x y H2 I2 rx ry q => ho pins s2 σ H2 x y v u Q I2 rx ry q) hm
/-- a reading of a value as a test -/
def tTest (t : TE) : TT := fun σ H Q => t σ H fun x H' => ∃ k, x = .bl k ∧ Q k H'
theorem pt_cmpR {op : CmpOp} {r : R2} (ho : OpR X (compareOp op) r) (ha : PE X a ta) (hb : PE X b tb) (hm : behindInMarks op b = false) : PT X (.Compare a [op] [b] pos) (tTest (tOp r ta tb)) := by
  intro pins s σ H Q I h
  refine wpAny_isTrue_Compare1 (thn (ha pins s σ H _ I h) fun v s1 ⟨x, H1, I1, r1, q1⟩ => thn (hb pins s1 σ H1 _ I1 q1) fun u s2 ⟨y, H2, I2, r2, q2⟩ =>
    thn (ho pins s2 σ H2 x y v u _ I2 r1 r2 q2) fun c s3 ⟨z, H3, I3, r3, k, e, q3⟩ => ?_) hm
  subst e
  cases r3
  exact wpAny_truthy_bool ⟨H3, I3, q3⟩
/-- a op1 b op2 c -/
def tChain (r r' : R2) (ta tb tc : TE) : TE := fun σ H Q => ta σ H fun x H1 => tb σ H1 fun y H2 => r x y H2 fun z H3 => ∃ k, z = .bl k ∧
  (if k = true then tc σ H3 fun w' H4 => r' y w' H4 Q else Q (.bl false) H3)
theorem pe_chain {op op' : CmpOp} {r r' : R2} (ho : OpR X (compareOp op) r) (ho' : OpR X (compareOp op') r') (ha : PE X a ta) (hb : PE X b tb) (hc : PE X c tc)
    (hm : lastMarks [op, op'] [b, c] = false := by with_unfolding_all rfl) : PE X (.Compare a [op, op'] [b, c] pos) (tChain r r' ta tb tc) := by
  intro pins s σ H Q I h
  refine Compare_chain (thn (ha pins s σ H _ I h) fun v s1 ⟨x, H1, I1, r1, q1⟩ => chain_link (thn (hb pins s1 σ H1 _ I1 q1) fun u s2 ⟨y, H2, I2, r2, q2⟩ =>
    thn (ho pins s2 σ H2 x y v u _ I2 r1 r2 q2) fun d s3 ⟨z, H3, I3, r3, k, e, q3⟩ => ?_)) hm
  subst e
  cases r3
  refine wpAny_truthy_bool ?_
  cases k with
  | false => exact ite_ff ⟨.bl false, H3, I3, rfl, q3⟩
  | true => exact ite_tt (chain_last (thn (hc pins s3 σ H3 _ I3 q3) fun w' s4 ⟨z', H4, I4, r4, q4⟩ => ho' pins s4 σ H4 y z' u w' Q I4 r2 r4 q4))
/-! ### truth -/
/-- a value's truth by the abstract heap -/
def TruV (K : PySem.W.Frag) (x : V) (H : Hp) (k : Bool) : Prop :=
  match x with
  | .non => k = false
  | .bl b => k = b
  | .int i => k = (i != 0)
  | .str y => y.length ≤ sizeLine ∧ k = ((y.length : Int) != 0)
  | .byt y => y.size ≤ sizeLine ∧ k = ((y.size : Int) != 0)
  | .ref p => (∃ xs, SqL K H p xs ∧ k = !xs.isEmpty) ∨ (∃ xs, SqT K H p xs ∧ k = !xs.isEmpty) ∨ ∃ kvs, H p = some (.dK kvs) ∧ k = !kvs.isEmpty
  | _ => False
theorem isEmpty_kv {κ : Type} {kvs : List (κ × V)} {vs : List (κ × Value)} (r : KV kvs vs) : (!vs.isEmpty) = !kvs.isEmpty := by
  cases r <;> rfl
theorem isEmpty_of {xs : List V} {its : List Value} (r : Vals xs its) : (!its.toArray.isEmpty) = !xs.isEmpty := by
  cases r <;> simp
theorem line63 : (sizeLine : Nat) < 2 ^ 63 := by rw [sizeLine_eq]; decide
theorem tru_ok : TruR X (fun x H Q => ∃ k, TruV X.K x H k ∧ Q k H) := by
  intro pins s σ H x v Q I rx h
  obtain ⟨k, e, q⟩ := h
  have hl := line63
  have hs : sizeLine = 16777216 := sizeLine_eq
  cases x with
  | non =>
    cases rx
    have e' : k = false := e
    subst e'
    exact truthy_none ⟨H, I, q⟩
  | bl b =>
    cases rx
    have e' : k = b := e
    subst e'
    exact wpAny_truthy_bool ⟨H, I, q⟩
  | int i =>
    obtain ⟨t, rfl⟩ := rx
    have e' : k = (i != 0) := e
    subst e'
    exact PySem.P.truthy_int ⟨H, I, q⟩
  | str y =>
    obtain ⟨t, rfl⟩ := rx
    obtain ⟨hy, e'⟩ : y.length ≤ sizeLine ∧ k = ((y.length : Int) != 0) := e
    subst e'
    exact PySem.P.truthy_str (by omega) ⟨H, I.tok _, q⟩
  | byt y =>
    obtain ⟨t, rfl⟩ := rx
    obtain ⟨hy, e'⟩ : y.size ≤ sizeLine ∧ k = ((y.size : Int) != 0) := e
    subst e'
    exact PySem.W.truthy_bytes (by omega) ⟨H, I.tok _, q⟩
  | ref p =>
    cases rx
    have e' : (∃ xs, SqL X.K H p xs ∧ k = !xs.isEmpty) ∨ (∃ xs, SqT X.K H p xs ∧ k = !xs.isEmpty) ∨ ∃ kvs, H p = some (.dK kvs) ∧ k = !kvs.isEmpty := e
    rcases e' with ⟨xs, hx, e'⟩ | ⟨xs, hx, e'⟩ | ⟨kvs, hx, e'⟩
    · subst e'
      obtain ⟨its, r, pl, hz⟩ := I.list hx
      have hlen := r.length
      exact wpAny_truthy_list pl.isList (by simp only [List.size_toArray]; omega) ⟨H, I.tok _, by rw [isEmpty_of r]; exact q⟩
    · subst e'
      obtain ⟨its, r, pl, hz⟩ := I.tuple hx
      have hlen := r.length
      exact truthy_tuple pl (by simp only [List.size_toArray]; omega) ⟨H, I.tok _, by rw [isEmpty_of r]; exact q⟩
    · subst e'
      obtain ⟨hz, hS, vs, r, m⟩ : kvs.length ≤ sizeLine ∧ (p == sysModules) = false ∧ ∃ vs, KV kvs vs ∧ s.heap.DictOf (mixKind X.prog X.w) p vs := I.hok p _ hx
      have hlen : kvs.length = vs.length := Paired.length r
      exact wpAny_truthy_dict hS m (by omega) ⟨H, I.tok _, by rw [isEmpty_kv r]; exact q⟩
  | _ => exact (show False from e).elim
/-- any expression whose test is its value's truth (a name, a call, a subscript, a field ..: he by fun _ => rfl) -/
theorem pt_truth (ha : PE X a ta) (he : ∀ whole, isTrue a X.env whole = (do let v ← whole; standAt a.pos; holding [v] (truthy v))) :
    PT X a (fun σ H Q => ta σ H fun x H' => ∃ k, TruV X.K x H' k ∧ Q k H') := by
  intro pins s σ H Q I h
  exact isTrue_plain (thn (ha pins s σ H _ I h) fun v s1 ⟨x, H1, I1, r1, q1⟩ => tru_ok pins s1 σ H1 x v Q I1 r1 q1) (he _)

/-! ### strs and bytes -/
theorem op_add_str : OpR X (binaryOp .Add) (fun x y H Q => ∃ i j, x = .str i ∧ y = .str j ∧ i.length + j.length ≤ sizeLine ∧ Q (.str (i ++ j)) H) := by
  intro pins s σ H x y v u Q I rx ry h
  obtain ⟨i, j, rfl, rfl, hz, q⟩ := h
  obtain ⟨t, rfl⟩ := rx
  obtain ⟨t', rfl⟩ := ry
  exact add_str (fun t' tk => ⟨.str (i ++ j), H, I.tok _, ⟨_, rfl⟩, q⟩) hz
/-! ### scalar builtins, by CallR -/
theorem vals1 {x : V} {us : List Value} (r : Vals [x] us) : ∃ u, us = [u] ∧ RelV x u := by
  cases r with
  | cons r1 r2 => cases r2; exact ⟨_, rfl, r1⟩
theorem vals2 {x y : V} {us : List Value} (r : Vals [x, y] us) : ∃ u w', us = [u, w'] ∧ RelV x u ∧ RelV y w' := by
  cases r with
  | cons r1 r2 =>
    cases r2 with
    | cons r3 r4 => cases r4; exact ⟨_, _, rfl, r1, r3⟩
theorem call_max2 (hc : X.calm = true) : CallR X (.builtin "max") (fun xs H Q => ∃ i j, xs = [.int i, .int j] ∧ Q (.int (if j > i then j else i)) H) := by
  intro pins s σ H xs us Q I r h
  obtain ⟨i, j, rfl, q⟩ := h
  obtain ⟨u, w', rfl, ⟨t, rfl⟩, ⟨t', rfl⟩⟩ := vals2 r
  refine max_two_ints (I.ok.hd hc) fun h' tk k => ⟨_, H, I.kept k, ?_, q⟩
  by_cases hj : j > i
  · rw [if_pos hj, if_pos hj]; exact ⟨_, rfl⟩
  · rw [if_neg hj, if_neg hj]; exact ⟨_, rfl⟩
theorem call_min2 (hc : X.calm = true) : CallR X (.builtin "min") (fun xs H Q => ∃ i j, xs = [.int i, .int j] ∧ Q (.int (if j < i then j else i)) H) := by
  intro pins s σ H xs us Q I r h
  obtain ⟨i, j, rfl, q⟩ := h
  obtain ⟨u, w', rfl, ⟨t, rfl⟩, ⟨t', rfl⟩⟩ := vals2 r
  refine min_two_ints (I.ok.hd hc) fun h' tk k => ⟨_, H, I.kept k, ?_, q⟩
  by_cases hj : j < i
  · rw [if_pos hj, if_pos hj]; exact ⟨_, rfl⟩
  · rw [if_neg hj, if_neg hj]; exact ⟨_, rfl⟩
theorem call_int1 : CallR X (.type "int") (fun xs H Q => (∃ i, xs = [.int i] ∧ Q (.int i) H) ∨ ∃ k, xs = [.bl k] ∧ Q (.int (if k then 1 else 0)) H) := by
  intro pins s σ H xs us Q I r h
  rcases h with ⟨i, rfl, q⟩ | ⟨k, rfl, q⟩
  · obtain ⟨u, rfl, t, rfl⟩ := vals1 r
    exact call_int_int ⟨.int i, H, I, ⟨_, rfl⟩, q⟩
  · obtain ⟨u, rfl, r1⟩ := vals1 r
    cases r1
    exact call_int_bool ⟨.int (if k then 1 else 0), H, I.tok _, ⟨_, rfl⟩, q⟩
theorem call_str_int : CallR X (.type "str") (fun xs H Q => ∃ i, xs = [.int i] ∧ i.natAbs.log2 < 1920 ∧ Q (.str (toString i)) H) := by
  intro pins s σ H xs us Q I r h
  obtain ⟨i, rfl, hz, q⟩ := h
  obtain ⟨u, rfl, t, rfl⟩ := vals1 r
  exact PySem.P.str_of_int hz ⟨.str _, H, I.tok _, ⟨_, rfl⟩, q⟩
end
end L2

namespace L2
open PySem PySem.Spec PyProof.Rows

/-! ### an instance, its attributes a map -/
structure ObjM (h : Heap) (x dx C : Addr) (mA : Str → Option Value) : Prop where
  obj : h.get? x = some (PySem.W.instObj C dx)
  ns : h.Ns1 dx mA
  ne : dx ≠ x

theorem lookIn_ns {h : Heap} {dx : Addr} {mA : Str → Option Value} (n : h.Ns1 dx mA) : ∃ od, h.get? dx = some od ∧ ∀ name, PySem.W.lookIn name od = some (mA name) := by
  obtain ⟨o, es, ep, ho, hd, hk, _, hm⟩ := n
  refine ⟨o, ho, fun name => ?_⟩
  have e := hm name
  unfold nsFind findBy at e
  rw [← Array.find?_toList] at e
  unfold PySem.W.lookIn
  rw [hd]
  dsimp only
  split
  · rename_i y q
    rw [q] at e
    exact congrArg some e
  · rename_i q
    rw [q] at e
    have a : es.toList.any (·.refKey) = false := by
      rw [List.any_eq_false]
      intro y hy
      obtain ⟨z, t, hkey⟩ := hk y (Array.mem_toList_iff.mp hy)
      simp [DictEntry.refKey, hkey]
    have a' : ¬ es.toList.any (·.refKey) = true := by rw [a]; exact Bool.false_ne_true
    rw [if_neg a']
    exact congrArg some e

theorem ObjM.look {h : Heap} {x dx C : Addr} {mA : Str → Option Value} (I : ObjM h x dx C mA) : ∃ od, PySem.W.InstAt h x (PySem.W.instObj C dx) C (some od) ∧ ∀ name, PySem.W.lookIn name od = some (mA name) :=
  let ⟨od, ho, hl⟩ := lookIn_ns I.ns
  ⟨od, ⟨I.obj, rfl, rfl, ho⟩, hl⟩

section
variable {prog : Program} {w : World} {A : Around} {E : Value → Shared → Prop} {s : Shared} {K : PySem.W.Frag} {x dx C f : Addr} {mA : Str → Option Value} {name : Str} {v : Value}

theorem get_map {expr : Bool} {Q : Value → Shared → Prop} (X : K.In s.heap) (I : ObjM s.heap x dx C mA) (hg : PySem.W.plainGet K C name = true) (hh : PySem.W.hasDictIn K C = true)
    (ha : PySem.W.findIn K (.ref C) name = some none) (hv : mA name = some v) (hv' : PySem.W.handedIn v = true) (h : Q v { s with toks := s.toks + 1 }) :
    wpAny (model prog w) A (getAttr (.ref x) name expr) Q E s := by
  obtain ⟨od, J, hl⟩ := I.look
  exact PySem.W.get_value X J (PySem.W.plainGet_of hg).1 (PySem.W.findObj_own hh ha rfl (by rw [hl, hv])) hv' h

theorem get_meth {pl : Sem Bool} {Q : Value × List Value → Shared → Prop} (X : K.In s.heap) (I : ObjM s.heap x dx C mA) (hg : PySem.W.plainGet K C name = true)
    (hf : PySem.W.findIn K (.ref C) name = some (some (.ref f))) (ht : PySem.W.isFn K (.ref f) = true) (hv : mA name = none) (h : Q (.ref f, [.ref x]) s) :
    wpAny (model prog w) A (getMethod (.ref x) name pl) Q E s := by
  obtain ⟨od, J, hl⟩ := I.look
  exact PySem.W.method_fn X J (PySem.W.plainGet_of hg).1 (PySem.W.plainGet_of hg).2 hf (beq_iff_eq.mp ht) (by show (PySem.W.lookIn name od).map (·.isSome) = some false; rw [hl, hv]; rfl) h

theorem set_map {ns : List Str} {Q : Unit → Shared → Prop} (X : K.In s.heap) (I : ObjM s.heap x dx C mA)
    (hs : PySem.W.findIn K (.ref C) "__setattr__" = some (some (.builtin "object.__setattr__"))) (hp : PySem.W.plainOver K C = true) (ht : PySem.W.takerIn K C name = some none) (hh : PySem.W.hasDictIn K C = true)
    (hw : PySem.Within mA ns) (hsz : ns.length ≤ sizeLine)
    (h : ∀ h', ObjM h' x dx C (fun y => if y = name then some v else mA y) → Heap.SameBut dx s.heap h' → Q () { s with heap := h', toks := s.toks + 2 }) :
    wpAny (model prog w) A (setAttr (.ref x) name v) Q E s := by
  obtain ⟨od, J, hl⟩ := I.look
  refine PySem.W.set_plain X J hs (PySem.W.osa_open (s := { s with toks := s.toks + 1 }) (r := none) X J hp ht fun b => ?_)
  obtain ⟨cd, hc, hd'⟩ := PySem.W.any_some hh
  have hx : s.heap.get? x = some ⟨.ref C, some dx, .plain, #[]⟩ := I.obj
  refine wpAny_bind (wpAny_pure (wpAny_bind (wpAny_bind (wpAny_loadPart hx (wpAny_bind (PySem.W.Looks.here (s := { s with toks := s.toks + 1 }) (PySem.W.looks_clsIn X hc) ?_))))))
  rw [hd']
  refine wpAny_pure (a := some dx) (wpAny_bind (wpAny_pure (wpAny_bind ?_)))
  refine wpAny_nsSet1 (s := { s with toks := s.toks + 1 }) I.ns fun h' hn2 hs2 => ?_
  obtain ⟨oD, esD, epD, hoD, hdD, hcD⟩ := hn2.count (PySem.Within.cons name v hw)
  refine wpAny_bind (wpAny_lookBehind hoD (by rw [hdD]; exact pastItsLine_dict (Nat.le_trans hcD (by rw [List.length_cons]; omega))) ?_)
  exact wpAny_pure (h _ ⟨(hs2.2 _ (Ne.symm I.ne)).trans I.obj, hn2, I.ne⟩ hs2)

/-- C(..): the dict at the heap's end, the instance behind it; then its __init__ -/
theorem make_map {R : Result → Shared → Prop} {vs : List Value} {kw : List (Str × Value)} (X : K.In s.heap) (hm : PySem.W.makesIn K C = true)
    (hi : PySem.W.findIn K (.ref C) "__init__" = some (some (.ref f))) (hf : PySem.W.typeIn K (.ref f) = some (.type "function"))
    (h : codeAny (model prog w) (A.under (.builtin "type.__call__" ⟨.ref C :: vs, kw⟩)) (.call (.ref f) ⟨.ref (s.heap.objs.size + 1) :: vs, kw⟩) (PySem.W.InitBack (s.heap.objs.size + 1) R)
      { s with heap := (s.heap.push PySem.W.emptyDict).push (PySem.W.instObj C s.heap.objs.size) }) :
    codeAny (model prog w) A (.call (.ref C) ⟨vs, kw⟩) R s := by
  obtain ⟨hh, g, d, t, os⟩ := s
  exact PySem.W.make_core (PySem.W.makes_of X hm) (PySem.W.looks_findIn X hi) (fun self => PySem.W.bind_fn X self hf) (.inl rfl) h
end

/-! ### the attributes as a list of pairs -/
def putF (f : Str) (v : V) : List (Str × V) → List (Str × V)
  | [] => [(f, v)]
  | (g, x) :: r => if g = f then (g, v) :: r else (g, x) :: putF f v r
theorem lookup_putF (f g : Str) (v : V) : ∀ fs : List (Str × V), (putF f v fs).lookup g = if g = f then some v else fs.lookup g
  | [] => by
    show List.lookup g [(f, v)] = _
    by_cases h : g = f
    · have hb : (g == f) = true := beq_iff_eq.mpr h
      simp only [List.lookup, hb, if_pos h]
    · have hb : (g == f) = false := beq_eq_false_iff_ne.mpr h
      simp only [List.lookup, hb, if_neg h]
  | (k, x) :: r => by
    have ih := lookup_putF f g v r
    rw [show putF f v ((k, x) :: r) = (if k = f then (k, v) :: r else (k, x) :: putF f v r) from rfl]
    by_cases hk : k = f
    · rw [if_pos hk]
      by_cases h : g = k
      · have hb : (g == k) = true := beq_iff_eq.mpr h
        simp only [List.lookup, hb, if_pos (h.trans hk)]
      · have hb : (g == k) = false := beq_eq_false_iff_ne.mpr h
        simp only [List.lookup, hb, if_neg (fun e : g = f => h (e.trans hk.symm))]
    · rw [if_neg hk]
      by_cases h : g = k
      · have hb : (g == k) = true := beq_iff_eq.mpr h
        simp only [List.lookup, hb, if_neg (fun e : g = f => hk (h.symm.trans e))]
      · have hb : (g == k) = false := beq_eq_false_iff_ne.mpr h
        simp only [List.lookup, hb]
        exact ih
theorem keys_putF (f : Str) (v : V) : ∀ fs : List (Str × V), f ∈ (putF f v fs).map (·.1) ∧ ∀ g, g ∈ fs.map (·.1) → g ∈ (putF f v fs).map (·.1)
  | [] => ⟨by simp [putF], fun g h => by simp at h⟩
  | (k, x) :: r => by
    obtain ⟨i1, i2⟩ := keys_putF f v r
    rw [show putF f v ((k, x) :: r) = (if k = f then (k, v) :: r else (k, x) :: putF f v r) from rfl]
    by_cases hk : k = f
    · rw [if_pos hk]
      subst hk
      exact ⟨by simp, fun g h => by simpa using h⟩
    · rw [if_neg hk]
      refine ⟨?_, fun g h => ?_⟩
      · rw [List.map_cons]
        exact List.mem_cons_of_mem _ i1
      · rw [List.map_cons] at h ⊢
        rcases List.mem_cons.mp h with e | e
        · exact List.mem_cons.mpr (.inl e)
        · exact List.mem_cons_of_mem _ (i2 g e)
theorem length_putF (f : Str) (v : V) : ∀ fs : List (Str × V), (putF f v fs).length ≤ fs.length + 1
  | [] => by simp [putF]
  | (k, x) :: r => by
    have ih := length_putF f v r
    rw [show putF f v ((k, x) :: r) = (if k = f then (k, v) :: r else (k, x) :: putF f v r) from rfl]
    by_cases hk : k = f
    · rw [if_pos hk, List.length_cons, List.length_cons]; omega
    · rw [if_neg hk, List.length_cons, List.length_cons]; omega

theorem RelO.some_of {v : V} {o : Option Value} (r : RelO (some v) o) : ∃ u, o = some u ∧ RelV v u := by
  cases o with
  | none => exact (show False from r).elim
  | some u => exact ⟨u, rfl, r⟩
theorem RelO.none_of {o : Option Value} (r : RelO none o) : o = none := by
  cases o with
  | none => rfl
  | some u => exact (show False from r).elim
theorem handed_of {v : V} {u : Value} (r : RelV v u) : PySem.W.handedIn u = true := by
  cases v with
  | non => cases (show u = Value.none from r); rfl
  | bl b => cases (show u = Value.bool b from r); rfl
  | int i => obtain ⟨t, e⟩ := (show ∃ t, u = Value.int i t from r); cases e; rfl
  | str x => obtain ⟨t, e⟩ := (show ∃ t, u = Value.str x t from r); cases e; rfl
  | byt b => obtain ⟨t, e⟩ := (show ∃ t, u = Value.bytes b t from r); cases e; rfl
  | flt b => obtain ⟨t, e⟩ := (show ∃ t, u = Value.float b t from r); cases e; rfl
  | ref a => cases (show u = Value.ref a from r); rfl
  | ty n => cases (show u = Value.type n from r); rfl

section
variable {P : Program} {w : World} {H H' : Hp} {h h' : Heap} {a C dx : Addr} {fs fs' : List (Str × V)}
theorem ins_get (hok : HOk P w H h) (e : H a = some (.ins C dx fs)) : ∃ mA, ObjM h a dx C mA ∧ (∀ f, RelO (fs.lookup f) (mA f)) ∧ PySem.Within mA (fs.map (·.1)) ∧ fs.length ≤ 1000 ∧ H dx = some (.own a) := by
  obtain ⟨d, z, ne, ob, mA, n, r, q⟩ := (show ObjOk P w H h a (.ins C dx fs) from hok a _ e)
  exact ⟨mA, ⟨ob, n, ne⟩, r, q, z, d⟩
end

/-! ### what of the text a class must have -/
structure Cls (K : PySem.W.Frag) (C : Addr) : Prop where
  pg : PySem.W.plainGet K C Str.empty = true
  hd : PySem.W.hasDictIn K C = true
  po : PySem.W.plainOver K C = true
  sa : PySem.W.findIn K (.ref C) "__setattr__" = some (some (.builtin "object.__setattr__"))
theorem Cls.get {K : PySem.W.Frag} {C : Addr} (c : Cls K C) (f : Str) : PySem.W.plainGet K C f = true := c.pg
/-- no class of it has the name -/
def NoAttr (K : PySem.W.Frag) (C : Addr) (f : Str) : Prop := PySem.W.findIn K (.ref C) f = some none
theorem NoAttr.taker {K : PySem.W.Frag} {C : Addr} {f : Str} (n : NoAttr K C f) : PySem.W.takerIn K C f = some none := by
  unfold PySem.W.takerIn
  rw [show PySem.W.findIn K (.ref C) f = some none from n]
  rfl
/-- a method: a plain def of the class or of one above it -/
structure Meth (K : PySem.W.Frag) (C : Addr) (m : Str) (f : Addr) : Prop where
  at_ : PySem.W.findIn K (.ref C) m = some (some (.ref f))
  fn : PySem.W.isFn K (.ref f) = true
  kp : PySem.W.keepIn K (.ref f) = true

section
variable {X : Cx} {pins : List (Addr × Obj)} {σ : St} {H : Hp} {s : Shared} {a C dx : Addr} {fs : List (Str × V)} {f : Str} {v : V} {A : Around} {E : Value → Shared → Prop}

theorem getattr_ok {b : Bool} {Q : Value → Shared → Prop} (I : Inv X pins σ H s) (e : H a = some (.ins C dx fs)) (c : Cls X.K C) (n : NoAttr X.K C f) (l : fs.lookup f = some v)
    (h : ∀ u s', Inv X pins σ H s' → RelV v u → Q u s') : wpAny (model X.prog X.w) A (getAttr (.ref a) f b) Q E s := by
  obtain ⟨mA, O, r, _, _, _⟩ := ins_get I.hok e
  obtain ⟨u, hu, ru⟩ := RelO.some_of (v := v) (o := mA f) (by rw [← l]; exact r f)
  exact get_map I.kIn O (c.get f) c.hd n hu (handed_of ru) (h u _ (I.tok _) ru)

theorem getmeth_ok {m : Str} {g : Addr} {pl : Sem Bool} {Q : Value × List Value → Shared → Prop} (I : Inv X pins σ H s) (e : H a = some (.ins C dx fs)) (c : Cls X.K C) (k : Meth X.K C m g) (l : fs.lookup m = none)
    (h : Q (.ref g, [.ref a]) s) : wpAny (model X.prog X.w) A (getMethod (.ref a) m pl) Q E s := by
  obtain ⟨mA, O, r, _, _, _⟩ := ins_get I.hok e
  have hn : mA m = none := RelO.none_of (by rw [← l]; exact r m)
  exact get_meth I.kIn O (c.get m) k.at_ k.fn hn h

theorem setattr_ok {y : V} {u : Value} {Q : Unit → Shared → Prop} (I : Inv X pins σ H s) (e : H a = some (.ins C dx fs)) (c : Cls X.K C) (n : NoAttr X.K C f) (hl : fs.length < 1000) (ry : RelV y u)
    (h : ∀ s', Inv X pins σ (upd H a (.ins C dx (putF f y fs))) s' → Q () s') : wpAny (model X.prog X.w) A (setAttr (.ref a) f u) Q E s := by
  obtain ⟨mA, O, r, wi, _, ho⟩ := ins_get I.hok e
  have hz : (fs.map (·.1)).length ≤ sizeLine := by rw [List.length_map, sizeLine_eq]; omega
  refine set_map I.kIn O c.sa c.po n.taker c.hd wi hz fun h' O' sb => h _ ?_
  have hd : ∃ o, h'.get? dx = some o := let ⟨o, _, _, e', _⟩ := O'.ns; ⟨o, e'⟩
  refine I.write (x := a) (e := dx) (by rw [e]; exact True.intro) (.inr ho) (fun b q hb z => (sb.2 b hb).trans z) hd ?_
  refine ⟨by rw [upd_ne O.ne]; exact ho, ?_, O.ne, O'.obj, _, O'.ns, fun g => ?_, fun g hg => ?_⟩
  · have := length_putF f y fs; omega
  · show RelO ((putF f y fs).lookup g) (if g = f then some u else mA g)
    rw [lookup_putF]
    by_cases q : g = f
    · rw [if_pos q, if_pos q]; exact ry
    · rw [if_neg q, if_neg q]; exact r g
  · by_cases q : g = f
    · rw [q]; exact (keys_putF f y fs).1
    · refine (keys_putF f y fs).2 g (wi g fun z => hg ?_)
      show (if g = f then some u else mA g) = none
      rw [if_neg q]; exact z

/-- a new instance, tracked, without attributes -/
theorem Inv.made (I : Inv X pins σ H s) : Inv X pins σ (upd (upd H s.heap.objs.size (.own (s.heap.objs.size + 1))) (s.heap.objs.size + 1) (.ins C s.heap.objs.size []))
    { s with heap := (s.heap.push PySem.W.emptyDict).push (PySem.W.instObj C s.heap.objs.size) } := by
  have e1 : (s.heap.push PySem.W.emptyDict).get? s.heap.objs.size = some PySem.W.emptyDict := Heap.get?_push_size s.heap rfl
  have e2 : ((s.heap.push PySem.W.emptyDict).push (PySem.W.instObj C s.heap.objs.size)).get? (s.heap.objs.size + 1) = some (PySem.W.instObj C s.heap.objs.size) := by
    have := Heap.get?_push_size (s.heap.push PySem.W.emptyDict) (o := PySem.W.instObj C s.heap.objs.size) rfl
    rwa [Heap.size_push] at this
  have e3 : (s.heap.push PySem.W.emptyDict).Ns s.heap.objs.size (fun _ => none) := ⟨PySem.W.emptyDict, #[], _, e1, rfl, (fun e he => absurd he (by simp)), fun _ => rfl⟩
  have I1 := I.laid (a := s.heap.objs.size) (o := .own (s.heap.objs.size + 1)) (h' := s.heap.push PySem.W.emptyDict) (t' := s.toks) (fun b u q => Heap.get?_push_of_some _ q) (Nat.le_refl _) ⟨_, e1⟩
  refine I1.laid (a := s.heap.objs.size + 1) (o := .ins C s.heap.objs.size []) (t' := s.toks) (fun b u q => Heap.get?_push_of_some _ q) (Nat.le_of_eq (Heap.size_push _ _)) ?_
  have ne : s.heap.objs.size ≠ s.heap.objs.size + 1 := Nat.ne_of_lt (Nat.lt_succ_self _)
  refine ⟨by rw [upd_ne ne, upd_same], Nat.zero_le _, ne, e2, fun _ => none, (Heap.Ns1.of_empty e3).at fun o q => Heap.get?_push_of_some _ q, fun _ => True.intro, fun y hy => absurd rfl hy⟩

/-- e.f where nothing but the object is asked: through attributeBase (super) and the last hold -/
theorem attr_of {prog : Program} {w : World} {env : Env} {e : Expr} {f : Str} {pos : Pos} {s : Shared} {Q : Value → Shared → Prop} (hb : attributeBase e f env (eval e env) = eval e env)
    (h : wpAny (model prog w) A (eval e env) (fun o s₁ => wpAny (model prog w) A (getAttr o f true) Q E s₁) E s) : wpAny (model prog w) A (eval (.Attribute e f pos) env) Q E s :=
  Attribute_any_ h (by rw [arm_eval_Attribute, hb])
end

/-! ### readings and rules -/
section
variable {X : Cx} {o e value : Expr} {f : Str} {pos pos' tpos : Pos} {ta tv : TE}
def rAdd : V → V → Hp → VK → Prop := fun x y H Q => ∃ i j, x = .int i ∧ y = .int j ∧ Q (.int (i + j)) H
def rSub : V → V → Hp → VK → Prop := fun x y H Q => ∃ i j, x = .int i ∧ y = .int j ∧ Q (.int (i - j)) H
/-- what is between an instance and its method: the tree of a method call -/
theorem methcall_of {pl : Sem Bool} {m : Str} {apos : Pos} {args : List Expr} {pins : List (Addr × Obj)} {s : Shared} {σ : St} {H : Hp} {Q : Value → Shared → Prop} {te : TE} (he : PE X e te) (I : Inv X pins σ H s)
    (h : te σ H fun x H1 => ∃ a C dx fs g, x = .ref a ∧ H1 a = some (.ins C dx fs) ∧ Cls X.K C ∧ Meth X.K C m g ∧ fs.lookup m = none ∧
      ∀ s1, Inv X pins σ H1 s1 → wpAny (model X.prog X.w) X.A (callWith pos (.ref g) [.ref a] (backTo pos (starEach args X.env)) (backToKw pos (keywordEach [] X.env))) Q X.xe s1)
    (ht : eval (.Call (.Attribute e m apos) args [] pos) X.env = (do
      let ov ← eval e X.env
      standAt apos.atName
      let (f, first) ← holding [ov] (getMethod ov m pl)
      callWith pos f first (backTo pos (starEach args X.env)) (backToKw pos (keywordEach [] X.env)))) :
    wpAny (model X.prog X.w) X.A (eval (.Call (.Attribute e m apos) args [] pos) X.env) Q X.xe s := by
  refine PySem.W.methodCall_KW (pl := pl) (thn (he pins s σ H _ I h) fun u s1 ⟨x, H1, I1, rx, a, C, dx, fs, g, ex, ea, c, k, l, q⟩ => ?_) ht
  subst ex
  obtain rfl : u = Value.ref a := rx
  exact getmeth_ok I1 ea c k l (q s1 I1)
end

/-! ### isinstance -/
section
variable {X : Cx} {pins : List (Addr × Obj)} {σ : St} {H : Hp} {s : Shared} {A : Around} {E : Value → Shared → Prop} {Q : Value → Shared → Prop} {c : Value} {b : Bool}
/-- the type of a value, as the fragment's deciders take it; for an instance its class -/
inductive TyOf (K : PySem.W.Frag) (H : Hp) : V → Value → Prop where
  | non : TyOf K H .non (.type "NoneType")
  | bl (x : Bool) : TyOf K H (.bl x) (.type "bool")
  | int (i : Int) : TyOf K H (.int i) (.type "int")
  | str (x : Str) : TyOf K H (.str x) (.type "str")
  | flt (x : UInt64) : TyOf K H (.flt x) (.type "float")
  | lst {a : Addr} {xs : List V} (e : H a = some (.lst xs)) : TyOf K H (.ref a) (.type "list")
  | frz {a : Addr} {o : Obj} {xs : List V} (e : H a = some (.frz o (.lst xs))) : TyOf K H (.ref a) (.type "list")
  | tup {a : Addr} {xs : List V} (e : H a = some (.tup xs)) : TyOf K H (.ref a) (.type "tuple")
  | dK {a : Addr} {kvs : List (Key × V)} (e : H a = some (.dK kvs)) : TyOf K H (.ref a) (.type "dict")
  | dT {a : Addr} {kvs : List (List Key × V)} (e : H a = some (.dT kvs)) : TyOf K H (.ref a) (.type "dict")
  | ins {a C dx : Addr} {fs : List (Str × V)} (e : H a = some (.ins C dx fs)) (cl : Cls K C) (ha : PySem.W.findIn K (.ref C) "__class__" = some (some (.builtin "object.__class__")))
      (hn : PySem.W.specialIn K (.builtin "object.__class__") "__get__" = some (some (.builtin "getset_descriptor.__get__"))) (htk : PySem.W.takesIn K (.builtin "object.__class__") = some true)
      (hm : PySem.W.mroIn K C (.type "object") = some true) : TyOf K H (.ref a) (.ref C)
/-- isinstance(x, c) for one class c, a built-in or an own one: kitOne's answer -/
theorem isinst_ok {x : V} {u t : Value} (I : Inv X pins σ H s) (rx : RelV x u) (ty : TyOf X.K H x t) (e : PySem.W.kitOne X.K t c = some b) (h : ∀ tk, Q (.bool b) { s with toks := tk }) :
    wpAny (model X.prog X.w) A (call (.builtin "isinstance") [u, c]) Q E s := by
  cases ty with
  | non => cases (show u = Value.none from rx); exact PySem.W.kia_one PySem.W.kitx_none I.kIn True.intro e (fun z => nomatch z) h
  | bl y => cases (show u = Value.bool y from rx); exact PySem.W.kia_one PySem.W.kitx_bool I.kIn True.intro e (fun z => nomatch z) h
  | int i => obtain ⟨t, q⟩ := (show ∃ t, u = Value.int i t from rx); cases q; exact PySem.W.kia_one PySem.W.kitx_int I.kIn True.intro e (fun z => nomatch z) h
  | str y => obtain ⟨t, q⟩ := (show ∃ t, u = Value.str y t from rx); cases q; exact PySem.W.kia_one PySem.W.kitx_str I.kIn True.intro e (fun z => nomatch z) h
  | flt y => obtain ⟨t, q⟩ := (show ∃ t, u = Value.float y t from rx); cases q; exact PySem.W.kia_one PySem.W.kitx_float I.kIn True.intro e (fun z => nomatch z) h
  | @lst a xs ea =>
    cases (show u = Value.ref a from rx)
    obtain ⟨_, _, n, _, h1⟩ := (show ObjOk X.prog X.w H s.heap a (.lst xs) from I.hok a _ ea)
    exact PySem.W.kia_one PySem.W.kitx_list I.kIn ⟨_, h1, rfl⟩ e (fun z => nomatch z) h
  | @frz a ob xs ea =>
    cases (show u = Value.ref a from rx)
    obtain ⟨_, _, _, n, _, h1⟩ := (show ObjOk X.prog X.w H s.heap a (.frz ob (.lst xs)) from I.hok a _ ea)
    exact PySem.W.kia_one PySem.W.kitx_list I.kIn ⟨_, h1, rfl⟩ e (fun z => nomatch z) h
  | @tup a xs ea =>
    cases (show u = Value.ref a from rx)
    obtain ⟨_, _, _, p⟩ := (show ObjOk X.prog X.w H s.heap a (.tup xs) from I.hok a _ ea)
    obtain ⟨o, h1, h2, _⟩ := p
    exact PySem.W.kia_one PySem.W.kitx_tuple I.kIn ⟨o, h1, h2⟩ e (fun z => nomatch z) h
  | @dK a kvs ea =>
    cases (show u = Value.ref a from rx)
    obtain ⟨_, _, vs, _, p⟩ := (show ObjOk X.prog X.w H s.heap a (.dK kvs) from I.hok a _ ea)
    obtain ⟨o, es, ep, h1, h2, _⟩ := p
    exact PySem.W.kia_one PySem.W.kitx_dict I.kIn ⟨o, h1, h2.1⟩ e (fun z => nomatch z) h
  | @dT a kvs ea =>
    cases (show u = Value.ref a from rx)
    obtain ⟨_, _, xs, _, o, es, ep, h1, h2, _⟩ := (show ObjOk X.prog X.w H s.heap a (.dT kvs) from I.hok a _ ea)
    exact PySem.W.kia_one PySem.W.kitx_dict I.kIn ⟨o, h1, h2.1⟩ e (fun z => nomatch z) h
  | @ins a C dx fs ea cl ha hn htk hm =>
    cases (show u = Value.ref a from rx)
    obtain ⟨mA, O, _⟩ := ins_get I.hok ea
    obtain ⟨od, J, _⟩ := O.look
    exact PySem.W.kia_one (PySem.W.kitx_own (cl.get _) cl.hd ha hn htk hm) I.kIn J e (fun z => nomatch z) h
end
end L2

namespace L2
open PySem PySem.Spec PyProof.Rows

/-! ### room -/
structure Room (c : Bool) (k : Nat) (A : Around) : Prop where
  hd : c = true → A.handled = none
  dp : A.depth + 3 * k + 5 < recursionLimit
  un : A.units + 16 * k + 200 < cLine
  gd : A.guards = some []
theorem Room.mono {c : Bool} {j k : Nat} {A : Around} (r : Room c k A) (h : j ≤ k) : Room c j A := ⟨r.hd, by have := r.dp; omega, by have := r.un; omega, r.gd⟩
theorem Room.weak {c : Bool} {k : Nat} {A : Around} (r : Room c k A) : Room false k A := ⟨fun h => (nomatch h), r.dp, r.un, r.gd⟩
theorem Room.deeper {c : Bool} {k : Nat} {A : Around} (r : Room c (k + 1) A) (env : Env) : Room c k (A.deeper env) :=
  ⟨r.hd, by have := r.dp; show A.depth + 1 + 3 * k + 5 < _; omega, by have := r.un; show A.units + 3 + 16 * k + 200 < _; omega, by first | exact r.gd | simpa [Around.deeper, Around.under, Code.isGuard] using r.gd⟩
theorem Room.in1 {c : Bool} {k : Nat} {A : Around} (r : Room c (k + 1) A) : Room c k A.in1 :=
  ⟨r.hd, by have := r.dp; show A.depth + 3 * k + 5 < _; omega, by have := r.un; show A.units + 1 + 16 * k + 200 < _; omega, r.gd⟩
theorem make_depth {A : Around} {C : Addr} {us : List Value} {kw : List (Str × Value)} : (A.under (.builtin "type.__call__" ⟨.ref C :: us, kw⟩)).depth = A.depth + 1 := by
  first | rfl | simp [Around.under, Code.weight, Code.isCreation, Code.isGuard, Code.isCaller, Code.frames, Code.isFrame, guardIds]
theorem make_units {A : Around} {C : Addr} {us : List Value} {kw : List (Str × Value)} : (A.under (.builtin "type.__call__" ⟨.ref C :: us, kw⟩)).units = A.units + 1 := by
  first | rfl | simp [Around.under, Code.cUnits, Code.frames, Code.isFrame]
theorem Room.make {c : Bool} {k : Nat} {A : Around} (r : Room c (k + 1) A) (C : Addr) (us : List Value) (kw : List (Str × Value)) : Room c k (A.under (.builtin "type.__call__" ⟨.ref C :: us, kw⟩)) :=
  ⟨r.hd, by have := r.dp; rw [make_depth]; omega, by have := r.un; rw [make_units]; omega, by first | exact r.gd | simpa [Around.under, Code.isGuard, guardIds] using r.gd⟩
theorem Room.depth {c : Bool} {k : Nat} {A : Around} (r : Room c k A) : A.depth < recursionLimit := by have := r.dp; omega
theorem Room.units {c : Bool} {k : Nat} {A : Around} (r : Room c k A) : A.units + 64 < cLine := by have := r.un; omega
/-! ### argument lists and displays -/
def tNil : TA := fun _ H Q => Q [] H
def tCons (ta : TE) (tr : TA) : TA := fun σ H Q => ta σ H fun x H1 => tr σ H1 fun xs H2 => Q (x :: xs) H2
section
variable {X : Cx} {e : Expr} {es : List Expr} {te : TE} {t : TA} {pos : Pos}
theorem pa_nil : PA X [] tNil := fun _ _ _ _ H Q I h => Calls.spliced_nil ⟨[], H, I, .nil, h⟩
theorem pa_cons (ha : PE X e te) (hr : PA X es t) (hs : starEach (e :: es) X.env = (false, eval e X.env) :: starEach es X.env := by rfl) : PA X (e :: es) (tCons te t) := by
  intro pos pins s σ H Q I h
  rw [hs]
  show wpAny _ _ (spliced ((false, eval e X.env) :: backTo pos (starEach es X.env))) _ _ s
  refine Calls.spliced_cons (thn (ha pins s σ H _ I h) fun u s1 ⟨x, H1, I1, r1, q1⟩ => ?_)
  exact thn (hr pos pins s1 σ H1 _ I1 q1) fun us s2 ⟨xs, H2, I2, r2, q2⟩ => ⟨x :: xs, H2, I2, .cons r1 r2, q2⟩

/-- a tuple, a list of written items -/
def tTup (t : TA) : TE := fun σ H Q => t σ H fun xs H1 => xs.length ≤ sizeLine ∧ ∀ p, H1 p = none → Q (.ref p) (upd H1 p (.tup xs))
theorem pe_tup {x1} (h : PA X es t) : PE X (.Tuple es x1 pos) (tTup t) := by
  intro pins s σ H Q I hq
  refine wpAny_Tuple_spliced (thn (h pos pins s σ H _ I hq) fun us s1 ⟨xs, H1, I1, r, z, q⟩ => ⟨by rw [← r.length]; exact z, ?_⟩)
  have hf : H1 s1.heap.objs.size = none := I1.hok.fresh (Nat.le_refl _)
  refine ⟨.ref s1.heap.objs.size, upd H1 s1.heap.objs.size (.tup xs), I1.laid (t' := s1.toks) (fun b u e => Heap.get?_push_of_some _ e) (Nat.le_refl _) ?_, rfl, q _ hf⟩
  exact ⟨z, us, r, ⟨_, Heap.get?_push_size _ rfl, rfl, _, rfl⟩⟩
end

/-! ### what a def promises -/
/-- a def's promise: the bound arguments in the parameters' order, the heap, the wanted end, the wanted exception -/
abbrev Sp := List V → Hp → VK → XK → Prop
/-- how an exception lies behind a call (file 08 gives it): the callers' frames, abstract heap and state ahead of the call, the wish, the exception, the state -/
abbrev CXT := List Env → Hp → Shared → XK → Value → Shared → Prop

/-- the state at a call -/
structure Env0 (P : Program) (w : World) (K : PySem.W.Frag) (mg : Str → Option Value) (base : Heap) (A : Around) (outer : List Env) (s : Shared) (H : Hp) : Prop where
  frames : A.frames = some outer
  hdk : HdOk A H
  mod : Mod K mg base
  bs : ∀ b o, base.get? b = some o → s.heap.get? b = some o ∧ H b = none
  bsz : base.objs.size ≤ s.heap.objs.size
  funs : s.heap.FunFrames base outer
  frf : ∀ b ∈ frs outer, H b = none
  hok : HOk P w H s.heap
  bare : AllBare s.gens
/-- a call's end -/
def CE (outer : List Env) (P : Program) (w : World) (H : Hp) (s : Shared) (Q : VK) (u : Value) (s' : Shared) : Prop :=
  ∃ v H', s'.os = s.os ∧ AllBare s'.gens ∧ Un (frs outer) [] H H' s.heap s'.heap ∧ HOk P w H' s'.heap ∧ RelV v u ∧ Q v H'
def CR (CX : CXT) (outer : List Env) (P : Program) (w : World) (H : Hp) (s : Shared) (Q : VK) (E : XK) (r : Result) (s' : Shared) : Prop :=
  match r with
  | .ok (.ret u) => CE outer P w H s Q u s'
  | .ok _ => False
  | .error e => CX outer H s E e s'
structure FnOk (P : Program) (w : World) (K : PySem.W.Frag) (mg : Str → Option Value) (base : Heap) (CX : CXT) (c : Bool) (k : Nat) (f : Addr) (fd : FuncData) (ps : List Str) (sp : Sp) : Prop where
  len : ∀ vs H Q E, sp vs H Q E → vs.length = ps.length
  run : ∀ (A : Around) (outer : List Env) (s : Shared) (H : Hp) (args : Args) (us : List Value) (vs : List V) (Q : VK) (E : XK), Room c k A → Env0 P w K mg base A outer s H → BindsTo s fd args (ps.zip us) → Vals vs us → sp vs H Q E →
    codeAny (model P w) A (.call (.ref f) args) (CR CX outer P w H s Q E) s
theorem FnOk.mono {P : Program} {w : World} {K : PySem.W.Frag} {mg : Str → Option Value} {base : Heap} {CX : CXT} {c : Bool} {j k : Nat} {f : Addr} {fd : FuncData} {ps : List Str} {sp : Sp} (F : FnOk P w K mg base CX c j f fd ps sp) (h : j ≤ k) :
    FnOk P w K mg base CX c k f fd ps sp := ⟨F.len, fun A outer s H args us vs Q E hr => F.run A outer s H args us vs Q E (hr.mono h)⟩
theorem FnOk.calm {P : Program} {w : World} {K : PySem.W.Frag} {mg : Str → Option Value} {base : Heap} {CX : CXT} {c : Bool} {k : Nat} {f : Addr} {fd : FuncData} {ps : List Str} {sp : Sp} (F : FnOk P w K mg base CX false k f fd ps sp) :
    FnOk P w K mg base CX c k f fd ps sp := ⟨F.len, fun A outer s H args us vs Q E hr => F.run A outer s H args us vs Q E hr.weak⟩
theorem Env0.make {P : Program} {w : World} {K : PySem.W.Frag} {mg : Str → Option Value} {base : Heap} {A : Around} {outer : List Env} {s : Shared} {H : Hp} (e : Env0 P w K mg base A outer s H) (C : Addr) (us : List Value) (kw : List (Str × Value)) :
    Env0 P w K mg base (A.under (.builtin "type.__call__" ⟨.ref C :: us, kw⟩)) outer s H := ⟨by first | exact e.frames | (simpa [Around.under, Code.envs, Code.isFrame, pushEnvs] using e.frames), e.hdk, e.mod, e.bs, e.bsz, e.funs, e.frf, e.hok, e.bare⟩
theorem Env0.in1 {P : Program} {w : World} {K : PySem.W.Frag} {mg : Str → Option Value} {base : Heap} {A : Around} {outer : List Env} {s : Shared} {H : Hp} (e : Env0 P w K mg base A outer s H) :
    Env0 P w K mg base A.in1 outer s H := ⟨e.frames, e.hdk, e.mod, e.bs, e.bsz, e.funs, e.frf, e.hok, e.bare⟩

section
variable {X : Cx} {pins : List (Addr × Obj)} {σ : St} {H : Hp} {s s' : Shared}
/-- from a body: what a callee wants -/
theorem Inv.env0 (I : Inv X pins σ H s) : Env0 X.prog X.w X.K X.mg X.base X.A X.stack s H :=
  ⟨I.ok.frames, I.hdk, I.ok.mod, I.bs, Nat.le_trans I.ok.bsz I.sz, I.stack, I.stkFree, I.hok, I.bare⟩
/-- behind a call -/
theorem Inv.after {Q : VK} {u : Value} (I : Inv X pins σ H s) (h : CE X.stack X.prog X.w H s Q u s') : EP X pins σ Q u s' := by
  obtain ⟨v, H', os, bare, un, hok, r, q⟩ := h
  obtain ⟨hh, g, d, t, os'⟩ := s'
  obtain rfl : os' = s.os := os
  exact ⟨v, H', I.call (h' := hh) (g' := g) (d' := d) (t' := t) (ch := []) un hok bare (fun b z => absurd z (by simp)), r, q⟩
end

/-! ### calls -/
/-- f(..): the written arguments, then the defaults dvs; E: what is wanted of an exception -/
def tCall (sp : Sp) (dvs : List V) (E : XK) (t : TA) : TE := fun σ H Q => t σ H fun vs H1 => sp (vs ++ dvs) H1 Q E
/-- o.m(..) of an instance of the class at C -/
def tMeth (C : Addr) (m : Str) (sp : Sp) (dvs : List V) (E : XK) (ta : TE) (t : TA) : TE := fun σ H Q => ta σ H fun x H1 => ∃ a dx fs, x = .ref a ∧ H1 a = some (.ins C dx fs) ∧ fs.lookup m = none ∧
  t σ H1 fun vs H2 => sp (x :: (vs ++ dvs)) H2 Q E
/-- how the parameters are bound: us the positional arguments, kw the keywords' values by name, ds the defaults that fill up -/
def Binds (K : PySem.W.Frag) (fd : FuncData) (ps : List Str) (ds : List Value) : Prop :=
  ∀ (s : Shared) (us : List Value), K.In s.heap → (us ++ ds).length = ps.length → BindsTo s fd ⟨us, []⟩ (ps.zip (us ++ ds))
/-- every parameter is given -/
theorem Binds.all {K : PySem.W.Frag} {fd : FuncData} {ps : List Str} (h : ∀ us : List Value, us.length = ps.length → bindArgs fd ⟨us, []⟩ = pure (ps.zip us)) : Binds K fd ps [] := fun s us _ hl => by
  rw [List.append_nil] at hl ⊢
  exact .of_eq (h us hl)

/-- an exception of a callee reaches what this body wants of exceptions -/
def Passes (CX : CXT) (X : Cx) (E : XK) : Prop := ∀ (pins : List (Addr × Obj)) (σ : St) (H : Hp) (s : Shared) (e : Value) (s' : Shared), Inv X pins σ H s → CX X.stack H s E e s' → X.xe e s'

section
variable {X : Cx} {CX : CXT} {cm : Bool} {k : Nat} {f C : Addr} {fd : FuncData} {ps : List Str} {sp : Sp} {dvs : List V} {ds : List Value} {E : XK} {x m : Str} {p pos apos : Pos} {e o : Expr} {es : List Expr} {ta : TE} {t : TA}

/-- the callee runs -/
theorem run_fn {pins : List (Addr × Obj)} {σ : St} {H : Hp} {s : Shared} {Q : VK} {us : List Value} {vs : List V} (F : FnOk X.prog X.w X.K X.mg X.base CX cm k f fd ps sp) (hr : Room cm k X.A) (hb : Binds X.K fd ps ds) (hd : Vals dvs ds) (hx : Passes CX X E)
    (I : Inv X pins σ H s) (r : Vals vs us) (h : sp (vs ++ dvs) H Q E) : wpAny (model X.prog X.w) X.A (call (.ref f) us) (EP X pins σ Q) X.xe s := by
  have r2 : Vals (vs ++ dvs) (us ++ ds) := r.append hd
  have hl : (us ++ ds).length = ps.length := by rw [← r2.length]; exact F.len _ _ _ _ h
  refine wpAny_call (codeAny_mono (F.run X.A X.stack s H ⟨us, []⟩ (us ++ ds) (vs ++ dvs) Q E hr I.env0 (hb s us I.kIn hl) r2 h) fun r s' hq => ?_)
  cases r with
  | error e => exact hx pins σ H s e s' I hq
  | ok fl =>
    cases fl with
    | ret u => exact I.after hq
    | next => exact False.elim hq
    | brk => exact False.elim hq
    | cont => exact False.elim hq

theorem pe_call (F : FnOk X.prog X.w X.K X.mg X.base CX cm k f fd ps sp) (hr : Room cm k X.A) (hg : Gl X x) (hm : X.mg x = some (.ref f)) (hk : PySem.W.keepIn X.K (.ref f) = true) (hb : Binds X.K fd ps ds) (hd : Vals dvs ds) (hx : Passes CX X E)
    (ha : PA X (e :: es) t) (hdb : (x == ("__debug__" : Str)) = false := by decide) (he : starEach (e :: es) X.env = (false, eval e X.env) :: starEach es X.env := by rfl) (hpl : (backTo pos (starEach es X.env)).any (·.1) = false := by rfl) :
    PE X (.Call (.Name x p) (e :: es) [] pos) (tCall sp dvs E t) := by
  intro pins s σ H Q I h
  refine wpAny_Call_Name_kw (ld_glob I hg hm ?_ hdb)
  refine PySem.W.callWith_K (h₀ := X.base) I.ok.mod.kin hk (thn (ha pos pins s σ H _ I h) fun us s1 ⟨vs, H1, I1, r, q⟩ => ⟨I1.kIn, ?_⟩) he hpl
  exact run_fn F hr hb hd hx I1 r q
/-- o.m(e, ..) -/
theorem pe_meth {pl : Sem Bool} (he : PE X o ta) (c : Cls X.K C) (hm : Meth X.K C m f) (F : FnOk X.prog X.w X.K X.mg X.base CX cm k f fd ps sp) (hr : Room cm k X.A) (hb : Binds X.K fd ps ds) (hd : Vals dvs ds) (hx : Passes CX X E) (ha : PA X (e :: es) t)
    (hst : starEach (e :: es) X.env = (false, eval e X.env) :: starEach es X.env := by rfl) (hpl : (backTo pos (starEach es X.env)).any (·.1) = false := by rfl)
    (ht : eval (.Call (.Attribute o m apos) (e :: es) [] pos) X.env = (do
      let ov ← eval o X.env
      standAt apos.atName
      let (f, first) ← holding [ov] (getMethod ov m pl)
      callWith pos f first (backTo pos (starEach (e :: es) X.env)) (backToKw pos (keywordEach [] X.env))) := by rfl) :
    PE X (.Call (.Attribute o m apos) (e :: es) [] pos) (tMeth C m sp dvs E ta t) := by
  intro pins s σ H Q I h
  refine PySem.W.methodCall_KW (pl := pl) (thn (he pins s σ H _ I h) fun u s1 ⟨x, H1, I1, rx, a, dx, fs, ex, ea, l, q⟩ => ?_) ht
  subst ex
  obtain rfl : u = Value.ref a := rx
  refine getmeth_ok I1 ea c hm l ?_
  refine PySem.W.callWith_K (first := [.ref a]) (h₀ := X.base) I.ok.mod.kin hm.kp (thn (ha pos pins s1 σ H1 _ I1 q) fun us s2 ⟨vs, H2, I2, r, q2⟩ => ⟨I2.kIn, ?_⟩) hst hpl
  exact run_fn (us := .ref a :: us) (vs := .ref a :: vs) F hr hb hd hx I2 (.cons rfl r) q2
/-- o.m() -/
theorem pe_meth0 {pl : Sem Bool} (he : PE X o ta) (c : Cls X.K C) (hm : Meth X.K C m f) (F : FnOk X.prog X.w X.K X.mg X.base CX cm k f fd ps sp) (hr : Room cm k X.A) (hb : Binds X.K fd ps ds) (hd : Vals dvs ds) (hx : Passes CX X E)
    (ht : eval (.Call (.Attribute o m apos) [] [] pos) X.env = (do
      let ov ← eval o X.env
      standAt apos.atName
      let (f, first) ← holding [ov] (getMethod ov m pl)
      callWith pos f first (backTo pos (starEach [] X.env)) (backToKw pos (keywordEach [] X.env))) := by rfl) :
    PE X (.Call (.Attribute o m apos) [] [] pos) (tMeth C m sp dvs E ta tNil) := by
  intro pins s σ H Q I h
  refine PySem.W.methodCall_KW (pl := pl) (thn (he pins s σ H _ I h) fun u s1 ⟨x, H1, I1, rx, a, dx, fs, ex, ea, l, q⟩ => ?_) ht
  subst ex
  obtain rfl : u = Value.ref a := rx
  refine getmeth_ok I1 ea c hm l ?_
  exact PySem.W.callWith_K0 (first := [.ref a]) I1.kIn hm.kp (run_fn (us := [.ref a]) (vs := [.ref a]) F hr hb hd hx I1 (.cons rfl .nil) q)

/-- what a class must have to be made -/
structure Mk (K : PySem.W.Frag) (C f : Addr) : Prop where
  makes : PySem.W.makesIn K C = true
  init : PySem.W.findIn K (.ref C) "__init__" = some (some (.ref f))
  fn : PySem.W.isFn K (.ref f) = true
  kp : PySem.W.keepIn K (.ref C) = true

end

/-! ### keywords -/
section
variable {X : Cx} {CX : CXT} {cm : Bool} {k : Nat} {f C : Addr} {fd : FuncData} {ps ks : List Str} {sp : Sp} {E : XK} {x m : Str} {p pos apos kpos : Pos} {e o : Expr} {es : List Expr} {kws : List Keyword} {te ta : TE} {t tk : TA} {nm : Option Str}
variable {g : List Value → List Value → List Value} {gV : List V → List V → List V}
end

/-! ### a def's body keeps its promise -/
/-- names: the parameters first -/
structure FnScope (N P : List Str) (sc : Scope) : Prop where
  kind : sc.kind = .function
  co : sc.isCoroutine = false
  gen : sc.isGenerator = false
  nd : N.Nodup
  pre : N.take P.length = P
  par : ∀ x ∈ P, sc.names.lookup x = some .local ∨ sc.names.lookup x = some .cell
  nofree : ∀ y ∈ sc.names, y.2 ≠ .free

theorem bindL_out {kindOf : Str → Option NameKind} {x : Str} : ∀ {binds : List (Str × Value)} {m : Str → Option Value}, (∀ v, (x, v) ∉ binds) → bindL kindOf binds m x = m x
  | [], _, _ => rfl
  | (n, v) :: r, m, h => by
    unfold bindL
    rw [bindL_out fun w hw => h w (List.mem_cons_of_mem _ hw)]
    split
    · have : x ≠ n := by rintro rfl; exact h v List.mem_cons_self
      simp [this]
    · rfl
theorem bindC_out {kindOf : Str → Option NameKind} {x : Str} : ∀ {binds : List (Str × Value)} {m : Str → Option Value}, (∀ v, (x, v) ∉ binds) → bindC kindOf binds m x = m x
  | [], _, _ => rfl
  | (n, v) :: r, m, h => by
    unfold bindC
    rw [bindC_out fun w hw => h w (List.mem_cons_of_mem _ hw)]
    split
    · rfl
    · have : x ≠ n := by rintro rfl; exact h v List.mem_cons_self
      simp [this]
theorem bindL_get {kindOf : Str → Option NameKind} {x : Str} {v : Value} : ∀ {P : List Str} {vs : List Value} {i : Nat} {m : Str → Option Value}, P.Nodup → P[i]? = some x → vs[i]? = some v → kindOf x = some .local →
    bindL kindOf (P.zip vs) m x = some v
  | [], _, _, _, _, h, _, _ => by simp at h
  | _ :: _, [], _, _, _, _, h, _ => by simp at h
  | p :: P, w :: vs, 0, m, nd, h1, h2, hk => by
    simp at h1 h2; subst h1; subst h2
    show bindL kindOf ((p, w) :: P.zip vs) m p = _
    unfold bindL
    rw [bindL_out fun v hv => (List.nodup_cons.mp nd).1 (List.of_mem_zip hv).1, if_pos hk]
    simp
  | p :: P, w :: vs, i + 1, m, nd, h1, h2, hk => by
    show bindL kindOf ((p, w) :: P.zip vs) m x = _
    unfold bindL
    exact bindL_get (i := i) (List.nodup_cons.mp nd).2 (by simpa using h1) (by simpa using h2) hk
theorem bindC_get {kindOf : Str → Option NameKind} {x : Str} {v : Value} : ∀ {P : List Str} {vs : List Value} {i : Nat} {m : Str → Option Value}, P.Nodup → P[i]? = some x → vs[i]? = some v → kindOf x ≠ some .local →
    bindC kindOf (P.zip vs) m x = some v
  | [], _, _, _, _, h, _, _ => by simp at h
  | _ :: _, [], _, _, _, _, h, _ => by simp at h
  | p :: P, w :: vs, 0, m, nd, h1, h2, hk => by
    simp at h1 h2; subst h1; subst h2
    show bindC kindOf ((p, w) :: P.zip vs) m p = _
    unfold bindC
    rw [bindC_out fun v hv => (List.nodup_cons.mp nd).1 (List.of_mem_zip hv).1, if_neg hk]
    simp
  | p :: P, w :: vs, i + 1, m, nd, h1, h2, hk => by
    show bindC kindOf ((p, w) :: P.zip vs) m x = _
    unfold bindC
    exact bindC_get (i := i) (List.nodup_cons.mp nd).2 (by simpa using h1) (by simpa using h2) hk

/-- the names' values at the entry -/
def start (N : List Str) (vs : List V) : St := vs.map some ++ List.replicate (N.length - vs.length) none

/-- the context of a def's body, at its entry; an exception leaves the frame, then lies as CX says -/
def cxOf (CX : CXT) (cm : Bool) (P : Program) (w : World) (K : PySem.W.Frag) (mg : Str → Option Value) (base : Heap) (N : List Str) (qual : Str) (scope : Scope) (f : Addr) (cd : Value) (A : Around) (outer : List Env) (s : Shared) (H : Hp) (E : XK) : Cx where
  prog := P
  w := w
  K := K
  mg := mg
  base := base
  A := A.deeper (envOfC qual scope s.heap.objs.size f cd)
  N := N
  s₀ := s
  H₀ := H
  env := envOfC qual scope s.heap.objs.size f cd
  outer := outer
  stack := envOfC qual scope s.heap.objs.size f cd :: outer
  ex := []
  calm := cm
  fn := fun _ => true
  pn := []
  xe := fun e s' => wpAny (model P w) (A.deeper (envOfC qual scope s.heap.objs.size f cd)) (leaving (envOfC qual scope s.heap.objs.size f cd) e) (fun _ s'' => CX outer H s E e s'') (fun e' s'' => CX outer H s E e' s'') s'

theorem cell_has {sc : Scope} {n : Nat} {x : Str} (h : sc.names.lookup x = some .cell) : ∃ c, (cellsFrom n sc.names []).lookup x = some c := by
  have q := PySem.W.cellsFrom_some sc.names n [] (.inl h)
  exact Option.isSome_iff_exists.mp q

theorem inv_start {CX : CXT} {cm : Bool} {P : Program} {w : World} {K : PySem.W.Frag} {mg : Str → Option Value} {base : Heap} {N ps : List Str} {qual : Str} {scope : Scope} {f : Addr} {cd : Value} {A : Around} {outer : List Env} {s s1 : Shared} {H : Hp} {E : XK} {us : List Value} {vs : List V}
    (S : FnScope N ps scope) (hd : cm = true → A.handled = none) (e0 : Env0 P w K mg base A outer s H) (hl : vs.length = ps.length) (r : Vals vs us)
    (x : InCallC s s.heap.objs.size (bindL (envOfC qual scope s.heap.objs.size f cd).kindOf (ps.zip us) fun _ => none) (cellsFrom (s.heap.objs.size + 1) scope.names []) (bindC (envOfC qual scope s.heap.objs.size f cd).kindOf (ps.zip us) fun _ => none) s1) :
    Inv (cxOf CX cm P w K mg base N qual scope f cd A outer s H E) [] (start N vs) H s1 := by
  have hpl : ps.length ≤ N.length := by have := congrArg List.length S.pre; rw [List.length_take] at this; omega
  obtain ⟨h1, tk, rfl, hk⟩ := x.done
  have noA : ∀ b : Addr, b ∉ (cxOf CX cm P w K mg base N qual scope f cd A outer s H E).ex := fun b z => absurd (show b ∈ ([] : List Addr) from z) (by simp)
  refine ⟨⟨e0.mod, S.kind, rfl, rfl, Nat.le_refl _, fun y z c h1 h2 => ?_, fun y hy => ?_, fun y c _ h => ?_, hd, Around.frames_deeper e0.frames, .inr ⟨rfl, rfl⟩, fun b z => absurd z (noA b), e0.bs, e0.bsz, fun b _ _ => noA b, fun b z => absurd z (noA b), e0.funs, e0.frf⟩,
    rfl, e0.bare, Un.kept hk, ⟨_, x.toInCall.ns, fun i y v h1 h2 h3 => ?_⟩, fun y c h => ⟨_, x.cell y c h⟩, e0.hok.fresh (Nat.le_refl _), fun y c h => ?_, fun p hp => absurd (show p ∈ ([] : List (Addr × Obj)) from hp) (by simp), e0.hok.kept hk, ?_, e0.hdk⟩
  · exact name_of_addr x.apart (PySem.mem_of_lookup h1) (PySem.mem_of_lookup h2)
  · have hy : scope.names.lookup y = some .cell ∨ scope.names.lookup y = some .free := hy
    rcases hy with hy | hy
    · exact cell_has hy
    · exact absurd rfl (S.nofree _ (PySem.mem_of_lookup hy))
  · exact Nat.le_of_lt (x.above y c (PySem.mem_of_lookup h))
  · have hi : i < vs.length := by
      unfold start at h2
      by_cases hi : i < vs.length
      · exact hi
      · rw [List.getElem?_append_right (by simpa using hi)] at h2
        rw [List.getElem?_replicate] at h2
        split at h2 <;> cases h2
    have ha : vs[i]? = some v := by
      unfold start at h2
      rw [List.getElem?_append_left (by simpa using hi), List.getElem?_map] at h2
      cases e : vs[i]? with
      | none => rw [e] at h2; cases h2
      | some a => rw [e] at h2; cases h2; rfl
    obtain ⟨u, hu, rv⟩ := r.get ha
    have hp : ps[i]? = some y := by
      rw [← S.pre, List.getElem?_take_of_lt (by omega)]; exact h1
    have ndP : ps.Nodup := by rw [← S.pre]; exact S.nd.sublist (List.take_sublist _ _)
    refine ⟨u, rv, ?_⟩
    rcases S.par y (List.mem_of_getElem? hp) with k | k
    · exact .inl ⟨k, bindL_get ndP hp hu k⟩
    · obtain ⟨c, e⟩ := cell_has (n := s.heap.objs.size + 1) k
      refine .inr ⟨.inl k, c, e, ?_⟩
      have q := x.cell y c e
      rw [bindC_get ndP hp hu (by show scope.names.lookup y ≠ _; rw [k]; decide)] at q
      exact q
  · exact e0.hok.fresh (Nat.le_of_lt (x.above y c (PySem.mem_of_lookup h)))
  · unfold start
    show _ = N.length
    rw [List.length_append, List.length_map, List.length_replicate]
    omega

/-- THE RULE: a def (or a method) of the text, by its body. The body's reading t is chosen for each entry; it is run at the parameters' values -/
theorem fn_of {CX : CXT} {cm : Bool} {P : Program} {w : World} {K : PySem.W.Frag} {mg : Str → Option Value} {base : Heap} {k : Nat} {f : Addr} {name qual : Str} {params : Arguments} {body : List Stmt} {scope : Scope} {dV kV doc pm cdv ct oc : Value} {an od : Option Addr}
    {osl : Array (Option Value)} {N ps : List Str} {sp : Sp} (lk : K.lookup f = some ⟨oc, od, .func (PySem.W.fnOf name qual params body scope dV kV doc pm an cdv ct), osl⟩) (hcd : PySem.W.codeIn K cdv qual = true) (S : FnScope N ps scope)
    (len : ∀ vs H Q E, sp vs H Q E → vs.length = ps.length)
    (hbody : ∀ (A : Around) (outer : List Env) (s : Shared) (H : Hp) (vs : List V) (Q : VK) (E : XK), Room cm k (A.deeper (envOfC qual scope s.heap.objs.size f cdv)) → sp vs H Q E →
      ∃ t, PSs (cxOf CX cm P w K mg base N qual scope f cdv A outer s H E) body t ∧ t { nx := fun _ H' => Q .non H', rt := Q } (start N vs) H) :
    FnOk P w K mg base CX cm (k + 1) f (PySem.W.fnOf name qual params body scope dV kV doc pm an cdv ct) ps sp := by
  refine ⟨len, fun A outer s H args us vs Q E hr e0 hb r hsp => ?_⟩
  have hl := len _ _ _ _ hsp
  have KX : K.In s.heap := e0.mod.kin.keeps fun b o e => (e0.bs b o e).1
  have lim : s.heap.NoLimit := e0.mod.nolimit.keeps fun b o e => (e0.bs b o e).1
  have hkind : ∀ y ∈ ps.zip us, scope.names.lookup y.1 = some .local ∨ (scope.names.lookup y.1 = some .cell ∧ ((cellsFrom (s.heap.objs.size + 1) scope.names []).lookup y.1).isSome = true) := fun ⟨n, v⟩ hy => by
    rcases S.par n (List.of_mem_zip hy).1 with q | q
    · exact .inl q
    · exact .inr ⟨q, PySem.W.cellsFrom_some _ _ _ (.inl q)⟩
  refine codeAny_call_function hr.depth (KX _ _ lk) rfl S.co S.gen rfl (PySem.W.codeRec_of KX hcd) (hb _ _ _ _ ?_)
  refine wpAny_newFunctionEnv_cells S.kind hkind fun env he s1 x => ?_
  subst he
  refine ⟨lim.keeps x.toInCall.keep, codeAny_func ?_⟩
  obtain ⟨t, ht, hq⟩ := hbody A outer s H vs Q E (hr.deeper _) hsp
  have I : Inv (cxOf CX cm P w K mg base N qual scope f cdv A outer s H E) [] (start N vs) H s1 := inv_start S hr.hd e0 hl r x
  refine wpAny_mono (ht [] s1 (start N vs) H _ I hq) (fun fl s' hs => ?_) fun e s' hs => hs
  have fin : ∀ {σ' : St} {H' : Hp} {v : V} {u : Value}, Inv (cxOf CX cm P w K mg base N qual scope f cdv A outer s H E) [] σ' H' s' → RelV v u → Q v H' → CE outer P w H s Q u s' :=
    fun {σ' H' v u} J rv q => ⟨v, H', J.os, J.bare, J.base, J.hok, rv, q⟩
  cases fl with
  | ret u =>
    obtain ⟨v, σ', H', J, rv, q⟩ := hs
    exact fin J rv q
  | next =>
    obtain ⟨σ', H', J, q⟩ := hs
    exact fin (v := V.non) (u := Value.none) J rfl q
  | brk =>
    obtain ⟨_, _, _, q⟩ := hs
    exact False.elim q
  | cont =>
    obtain ⟨_, _, _, q⟩ := hs
    exact False.elim q
end L2

namespace L2
open PySem PySem.Spec PyProof.Rows
section
variable {X : Cx} {x : Str} {p pos : Pos} {e : Expr} {es : List Expr} {t : TA} {id T : String} {r : List V → Hp → VK → Prop}

def tCB (r : List V → Hp → VK → Prop) (t : TA) : TE := fun σ H Q => t σ H fun vs H1 => r vs H1 Q
/-- f(e, ..), f a built-in function -/
theorem pe_callB (hc : CallR X (.builtin id) r) (hg : Gl X x) (hm : X.mg x = none) (hv : bootBuiltins x = some (.builtin id)) (ha : PA X (e :: es) t) (hn : x ≠ "__name__" := by decide) (hdb : (x == ("__debug__" : Str)) = false := by decide)
    (he : starEach (e :: es) X.env = (false, eval e X.env) :: starEach es X.env := by rfl) (hpl : (backTo pos (starEach es X.env)).any (·.1) = false := by rfl) : PE X (.Call (.Name x p) (e :: es) [] pos) (tCB r t) := by
  intro pins s σ H Q I h
  refine wpAny_Call_Name_kw (ld_blt I hg hm hv ?_ hn hdb)
  exact PyProof.Rows.callWith_builtin1 (thn (ha pos pins s σ H _ I h) fun us s1 ⟨vs, H1, I1, r1, q1⟩ => hc pins s1 σ H1 vs us Q I1 r1 q1) he hpl
/-- T(e, ..), T a built-in type -/
theorem pe_callTy (hc : CallR X (.type T) r) (hg : Gl X x) (hm : X.mg x = none) (hv : bootBuiltins x = some (.type T)) (ha : PA X (e :: es) t) (hn : x ≠ "__name__" := by decide) (hdb : (x == ("__debug__" : Str)) = false := by decide)
    (he : starEach (e :: es) X.env = (false, eval e X.env) :: starEach es X.env := by rfl) (hpl : (backTo pos (starEach es X.env)).any (·.1) = false := by rfl) : PE X (.Call (.Name x p) (e :: es) [] pos) (tCB r t) := by
  intro pins s σ H Q I h
  refine wpAny_Call_Name_kw (ld_blt I hg hm hv ?_ hn hdb)
  exact PyProof.Rows.callWith_type1 (thn (ha pos pins s σ H _ I h) fun us s1 ⟨vs, H1, I1, r1, q1⟩ => hc pins s1 σ H1 vs us Q I1 r1 q1) he hpl
end
end L2

namespace HT
open PySem PyProof.Rows

section
open PySem.SeqAt
open PySem.AutoSeq1 (wpAny_loadPart')
open PySem.MeetsSeq PySem.MeetsSeq2 PySem.MeetsSeq3

end

section
variable {prog : Program} {w : World} {A : Around} {E : Value → Shared → Prop} {s : Shared}

/-! ### t[a:b], not the whole -/
/-- a slice's bound as a place among n (d where it is left out) -/
def sIx (n d : Nat) : Option Int → Nat
  | none => d
  | some v => if v < 0 then (v + (n : Int)).toNat else min v.toNat n
end
end HT

namespace L2
open PySem PySem.Spec PyProof.Rows

/-! ### the parts of a slice -/
abbrev TO := St → Hp → (Option Int → Hp → Prop) → Prop
def tNoPart : TO := fun _ H Q => Q none H
def tPart (t : TE) : TO := fun σ H Q => t σ H fun x H1 => ∃ i, x = .int i ∧ Q (some i) H1

section
variable {X : Cx} {e : Expr} {te : TE} {lo hi : Option Expr} {tl th : TO} {pos p2 : Pos}

/-- what a slice of a value is, by values: the slice object stands at sl -/
def SlR (X : Cx) (r : V → Option Int → Option Int → Hp → VK → Prop) : Prop :=
  ∀ (pins : List (Addr × Obj)) (s : Shared) (σ : St) (H : Hp) (x : V) (v vl vu : Value) (lo hi : Option Int) (sl : Addr) (Q : VK), Inv X pins σ H s → RelV x v → s.heap.IsSliceOf sl vl vu .none → IsPart vl lo → IsPart vu hi → r x lo hi H Q →
    ∃ T id, typeLookup (.type T) "__getitem__" = pure (some (.builtin id)) ∧ s.TypeIs v T ∧ wpAny (model X.prog X.w) X.A (getItem v (.ref sl)) (EP X pins σ Q) X.xe s
theorem SlR.or {r r' : V → Option Int → Option Int → Hp → VK → Prop} (h : SlR X r) (h' : SlR X r') : SlR X (fun x lo hi H Q => r x lo hi H Q ∨ r' x lo hi H Q) := by
  intro pins s σ H x v vl vu lo hi sl Q I rx hs pl pu q
  rcases q with q | q
  · exact h pins s σ H x v vl vu lo hi sl Q I rx hs pl pu q
  · exact h' pins s σ H x v vl vu lo hi sl Q I rx hs pl pu q
def tSl (r : V → Option Int → Option Int → Hp → VK → Prop) (te : TE) (tl th : TO) : TE := fun σ H Q => te σ H fun x H1 => tl σ H1 fun l H2 => th σ H2 fun u H3 => r x l u H3 Q
/-- the items of xs[lo:hi] -/
def cutV (xs : List V) (lo hi : Option Int) : List V := (xs.drop (HT.sIx xs.length 0 lo)).take (HT.sIx xs.length xs.length hi - HT.sIx xs.length 0 lo)
/-! ### t < u, t + u -/
end
end L2

namespace L2
open PySem PySem.Spec PyProof.Rows

/-! ### places -/
/-- the place that an index of any sign means -/
def ixN (n : Nat) (i : Int) : Option Nat := if 0 ≤ i then (if i < n then some i.toNat else none) else if -(n : Int) ≤ i then some (i + n).toNat else none
def atI {α : Type} (xs : List α) (i : Int) : Option α := (ixN xs.length i).bind fun j => xs[j]?
theorem ixN_seq {n : Nat} {i : Int} {j : Nat} (h : ixN n i = some j) : seqIndex? i n = some j ∧ j < n ∧ -(n : Int) ≤ i ∧ i < n := by
  unfold ixN at h
  by_cases h0 : 0 ≤ i
  · rw [if_pos h0] at h
    by_cases h1 : i < n
    · rw [if_pos h1] at h
      have e : i.toNat = j := Option.some.inj h
      exact ⟨by rw [seqIndex_of h0 h1, e], by omega, by omega, h1⟩
    · rw [if_neg h1] at h; cases h
  · rw [if_neg h0] at h
    by_cases h1 : -(n : Int) ≤ i
    · rw [if_pos h1] at h
      have e : (i + n).toNat = j := Option.some.inj h
      exact ⟨by rw [seqIndex_neg (by omega) h1, e], by omega, h1, by omega⟩
    · rw [if_neg h1] at h; cases h
theorem atI_get {α : Type} {xs : List α} {i : Int} {v : α} (h : atI xs i = some v) : ∃ j, seqIndex? i xs.length = some j ∧ xs[j]? = some v ∧ j < xs.length ∧ -(xs.length : Int) ≤ i ∧ i < xs.length := by
  unfold atI at h
  cases e : ixN xs.length i with
  | none => rw [e] at h; cases h
  | some j =>
    rw [e] at h
    obtain ⟨h1, h2, h3, h4⟩ := ixN_seq e
    exact ⟨j, h1, h, h2, h3, h4⟩
theorem atI_nat {α : Type} {xs : List α} {j : Nat} {v : α} (h : xs[j]? = some v) : atI xs (j : Int) = some v := by
  have hj : j < xs.length := (List.getElem?_eq_some_iff.mp h).1
  have e : ixN xs.length (j : Int) = some j := by
    unfold ixN
    rw [if_pos (by omega), if_pos (by omega)]; simp
  unfold atI; rw [e]; exact h
/-! ### what may be subscripted -/
/-- what stands as an index of a plain subscript -/
def PlainIx (b : Expr) : Prop := ∀ o i, subscripted b false o i = operate [o, i] (getItem o i)
/-- a subscript by values -/
def IxR (X : Cx) (r : R2) : Prop :=
  ∀ (value slice : Expr) (pins : List (Addr × Obj)) (s : Shared) (σ : St) (H : Hp) (x y : V) (v u : Value) (Q : VK), Inv X pins σ H s → RelV x v → RelV y u → r x y H Q →
    subscripted slice false v u = operate [v, u] (getItem v u) → wpAny (model X.prog X.w) X.A (subscriptTail value slice v u) (EP X pins σ Q) X.xe s
/-- a call of a builtin's method by values: the receiver, the arguments -/
def MtR (X : Cx) (id : String) (r : V → List V → Hp → VK → Prop) : Prop :=
  ∀ (pins : List (Addr × Obj)) (s : Shared) (σ : St) (H : Hp) (x : V) (xs : List V) (v : Value) (us : List Value) (Q : VK), Inv X pins σ H s → RelV x v → Vals xs us → r x xs H Q →
    wpAny (model X.prog X.w) X.A (call (.builtin id) (v :: us)) (EP X pins σ Q) X.xe s
section
variable {X : Cx} {a b : Expr} {ta tb : TE} {pos : Pos}
theorem IxR.or {r r' : R2} (h : IxR X r) (h' : IxR X r') : IxR X (fun x y H Q => r x y H Q ∨ r' x y H Q) := by
  intro value slice pins s σ H x y v u Q I rx ry q hs
  rcases q with q | q
  · exact h value slice pins s σ H x y v u Q I rx ry q hs
  · exact h' value slice pins s σ H x y v u Q I rx ry q hs
theorem MtR.or {id : String} {r r' : V → List V → Hp → VK → Prop} (h : MtR X id r) (h' : MtR X id r') : MtR X id (fun x xs H Q => r x xs H Q ∨ r' x xs H Q) := by
  intro pins s σ H x xs v us Q I rx rs q
  rcases q with q | q
  · exact h pins s σ H x xs v us Q I rx rs q
  · exact h' pins s σ H x xs v us Q I rx rs q
/-- a[b] -/
theorem pe_ix {r : R2} (hr : IxR X r) (ha : PE X a ta) (hb : PE X b tb) (hs : PlainIx b) : PE X (.Subscript a b pos) (tOp r ta tb) := by
  intro pins s σ H Q I h
  exact Subscript_ (binT ha hb I h fun v u s2 x y H2 I2 rx ry q => hr a b pins s2 σ H2 x y v u Q I2 rx ry q (hs _ _))

def rIxL (K : PySem.W.Frag) : R2 := fun x y H Q => ∃ p xs i v, x = .ref p ∧ y = .int i ∧ SqL K H p xs ∧ atI xs i = some v ∧ Q v H
def rIxT (K : PySem.W.Frag) : R2 := fun x y H Q => ∃ p xs i v, x = .ref p ∧ y = .int i ∧ SqT K H p xs ∧ atI xs i = some v ∧ Q v H
def rIxS : R2 := fun x y H Q => ∃ z i c, x = .str z ∧ y = .int i ∧ z.length ≤ sizeLine ∧ atI z.cps.toList i = some c ∧ Q (.str ⟨#[c]⟩) H
theorem ix_list : IxR X (rIxL X.K) := by
  intro value slice pins s σ H x y v u Q I rx ry h hs
  obtain ⟨p, xs, i, z, rfl, rfl, hq, he, q⟩ := h
  cases rx
  obtain ⟨t, rfl⟩ := ry
  obtain ⟨its, r, pl, hz⟩ := I.list hq
  obtain ⟨j, h1, h2, h3, h4, h5⟩ := atI_get he
  obtain ⟨w, ew, rw'⟩ := r.get h2
  have hl := r.length
  have hn := line63
  have fin : EP X pins σ Q w s := ⟨z, H, I, rw', q⟩
  by_cases h0 : 0 ≤ i
  · have hj : i.toNat = j := by
      rw [seqIndex_of h0 h5] at h1
      exact Option.some.inj h1
    exact item_listR pl.isList h0 (by omega) (by rw [hj]; simpa using ew) fin hs
  · have hj : (i + (its.toArray.size : Int)).toNat = j := by
      rw [seqIndex_neg (by omega) h4] at h1
      rw [List.size_toArray, ← hl]
      exact Option.some.inj h1
    exact subscriptTail_builtinR (x := w) pl.isList.typeIs slot_list_getitem.lookup
      (wpAny_getItem_list_neg (Q := fun r s' => r = w ∧ EP X pins σ Q r s') pl.isList (by omega) (by rw [List.size_toArray] <;> omega) (by omega) (by rw [hj]; simpa using ew) ⟨rfl, fin⟩) hs
theorem ix_tup : IxR X (rIxT X.K) := by
  intro value slice pins s σ H x y v u Q I rx ry h hs
  obtain ⟨p, xs, i, z, rfl, rfl, hq, he, q⟩ := h
  cases rx
  obtain ⟨t, rfl⟩ := ry
  obtain ⟨its, r, pl, hz⟩ := I.tuple hq
  obtain ⟨j, h1, h2, h3, h4, h5⟩ := atI_get he
  obtain ⟨w, ew, rw'⟩ := r.get h2
  have hl := r.length
  have hn := line63
  have fin : EP X pins σ Q w s := ⟨z, H, I, rw', q⟩
  exact subscriptTail_builtinR (x := w) pl.typeIs slot_tuple_getitem.lookup
    (getItem_tuple (j := j) (Q := fun r s' => r = w ∧ EP X pins σ Q r s') pl (by omega) (by omega) (by rw [List.size_toArray, ← hl]; exact h1) (by simpa using ew) ⟨rfl, fin⟩) hs
theorem ix_str : IxR X rIxS := by
  intro value slice pins s σ H x y v u Q I rx ry h hs
  obtain ⟨z, i, c, rfl, rfl, hz, he, q⟩ := h
  obtain ⟨t, rfl⟩ := rx
  obtain ⟨t', rfl⟩ := ry
  obtain ⟨j, h1, h2, h3, h4, h5⟩ := atI_get he
  have hl : z.cps.toList.length = z.length := by simp [Str.length]
  rw [hl] at h1 h4 h5
  have hn := line63
  exact tail_any (typeIs_str s z t) slot_str_getitem.lookup (getItem_str (c := c) (by
    have e1 : decide (i < -(2 ^ 63 : Int)) = false := decide_eq_false (by omega)
    have e2 : decide (i ≥ 2 ^ 63) = false := decide_eq_false (by omega)
    rw [e1, e2, Bool.or_false]) (by rw [h1]; simpa using h2) ⟨.str ⟨#[c]⟩, H, I.tok _, ⟨_, rfl⟩, q⟩) hs
/-- list, tuple or str -/
def rIx (K : PySem.W.Frag) : R2 := fun x y H Q => rIxL K x y H Q ∨ rIxT K x y H Q ∨ rIxS x y H Q
theorem ix_seq : IxR X (rIx X.K) := ix_list.or (ix_tup.or ix_str)

/-! ### xs[i] = v, any sign -/
theorem Inv.lst {pins : List (Addr × Obj)} {σ : St} {H : Hp} {s : Shared} {p : Addr} {xs : List V} (I : Inv X pins σ H s) (h : H p = some (.lst xs)) :
    ∃ (its : List Value) (n : Nat), Vals xs its ∧ s.heap.get? p = some { cls := .type "list", data := .seq its.toArray n } ∧ xs.length ≤ sizeLine := by
  obtain ⟨z, its, n, r, e⟩ := I.hok p _ h
  exact ⟨its, n, r, e, z⟩
def rSetL : V → V → V → Hp → (Hp → Prop) → Prop := fun o i v H Q => ∃ p xs k j, o = .ref p ∧ i = .int k ∧ H p = some (.lst xs) ∧ ixN xs.length k = some j ∧ Q (upd H p (.lst (xs.set j v)))
/-! ### slices -/
/-! ### in, not in: flat items -/
def flatV : V → Bool
  | .non => true
  | .bl _ => true
  | .int _ => true
  | .str _ => true
  | _ => false
/-- == of flat values -/
def eqV : V → V → Bool
  | .non, .non => true
  | .bl a, .bl b => a == b
  | .bl a, .int b => (if a then 1 else 0) == b
  | .int a, .bl b => a == (if b then 1 else 0)
  | .int a, .int b => a == b
  | .str a, .str b => a == b
  | _, _ => false
theorem eqAt_V {A : Around} {s : Shared} {y x : V} {u v : Value} (ry : RelV y u) (rx : RelV x v) (fy : flatV y = true) (fx : flatV x = true) : SeqAt.EqAt A s u v (eqV y x) := by
  cases y with
  | non =>
    cases ry
    cases x with
    | non => cases rx; exact SeqAt.EqAt.same _
    | bl b => cases rx; exact SeqAt.EqAt.none_bool b
    | int b => obtain ⟨t, rfl⟩ := rx; exact SeqAt.EqAt.none_int b t
    | str b => obtain ⟨t, rfl⟩ := rx; exact SeqAt.EqAt.none_str b t
    | _ => exact absurd (show false = true from fx) Bool.false_ne_true
  | bl a =>
    cases ry
    cases x with
    | non => cases rx; exact SeqAt.EqAt.bool_none a
    | bl b => cases rx; exact SeqAt.EqAt.bool_bool a b
    | int b => obtain ⟨t, rfl⟩ := rx; exact SeqAt.EqAt.bool_int a b t
    | str b => obtain ⟨t, rfl⟩ := rx; exact SeqAt.EqAt.bool_str a b t
    | _ => exact absurd (show false = true from fx) Bool.false_ne_true
  | int a =>
    obtain ⟨t', rfl⟩ := ry
    cases x with
    | non => cases rx; exact SeqAt.EqAt.int_none a t'
    | bl b => cases rx; exact SeqAt.EqAt.int_bool a t' b
    | int b => obtain ⟨t, rfl⟩ := rx; exact SeqAt.EqAt.int_int a t' b t
    | str b => obtain ⟨t, rfl⟩ := rx; exact SeqAt.EqAt.int_str a t' b t
    | _ => exact absurd (show false = true from fx) Bool.false_ne_true
  | str a =>
    obtain ⟨t', rfl⟩ := ry
    cases x with
    | non => cases rx; exact SeqAt.EqAt.str_none a t'
    | bl b => cases rx; exact SeqAt.EqAt.str_bool a t' b
    | int b => obtain ⟨t, rfl⟩ := rx; exact SeqAt.EqAt.str_int a t' b t
    | str b => obtain ⟨t, rfl⟩ := rx; exact SeqAt.EqAt.str_str a t' b t
    | _ => exact absurd (show false = true from fx) Bool.false_ne_true
  | _ => exact absurd (show false = true from fy) Bool.false_ne_true
/-! ### len, list(x), tuple(x) of any list or tuple that is read -/
theorem call_len_seq : CallR X (.builtin "len") (fun xs H Q => ∃ p ys, xs = [.ref p] ∧ (SqL X.K H p ys ∨ SqT X.K H p ys) ∧ Q (.int ys.length) H) := by
  intro pins s σ H xs us Q I r h
  obtain ⟨p, ys, rfl, hq, q⟩ := h
  obtain ⟨u, rfl, rx⟩ := vals1 r
  cases rx
  have hn := line63
  rcases hq with hq | hq
  · obtain ⟨its, r', pl, hz⟩ := I.list hq
    have hlen := r'.length
    exact Calls.call_len_list pl.isList (by simp only [List.size_toArray] <;> omega) ⟨.int ys.length, H, I.tok _, ⟨s.toks + 1, by rw [List.size_toArray, hlen]⟩, q⟩
  · obtain ⟨its, r', pl, hz⟩ := I.tuple hq
    have hlen := r'.length
    exact len_tuple pl (by simp only [List.size_toArray] <;> omega) ⟨.int ys.length, H, I.tok _, ⟨s.toks + 1, by rw [List.size_toArray, hlen]⟩, q⟩
theorem call_len_str : CallR X (.builtin "len") (fun xs H Q => ∃ z, xs = [.str z] ∧ z.length ≤ sizeLine ∧ Q (.int z.length) H) := by
  intro pins s σ H xs us Q I r h
  obtain ⟨z, rfl, hz, q⟩ := h
  obtain ⟨u, rfl, t, rfl⟩ := vals1 r
  have hn := line63
  exact len_str (by omega) ⟨.int z.length, H, I.tok _, ⟨_, rfl⟩, q⟩
theorem CallR.or {f : Value} {r r' : List V → Hp → VK → Prop} (h : CallR X f r) (h' : CallR X f r') : CallR X f (fun xs H Q => r xs H Q ∨ r' xs H Q) := by
  intro pins s σ H xs us Q I rs q
  rcases q with q | q
  · exact h pins s σ H xs us Q I rs q
  · exact h' pins s σ H xs us Q I rs q
/-! ### the call of a builtin's method: o.m(..) -/
/-- the value is of that builtin type -/
def tyV (K : PySem.W.Frag) (T : String) (x : V) (H : Hp) : Prop := match x with
  | .str _ => T = "str"
  | .int _ => T = "int"
  | .ref p => (T = "list" ∧ ∃ xs, SqL K H p xs) ∨ (T = "tuple" ∧ ∃ o, K.lookup p = some o ∧ o.cls = .type "tuple" ∧ o.dict = none) ∨
      (T = "dict" ∧ ((∃ kvs, H p = some (.dK kvs)) ∨ ∃ kvs, H p = some (.dT kvs))) ∨ (T = "set" ∧ ∃ S n, H p = some (.set S n))
  | _ => False
theorem tyV_is {pins : List (Addr × Obj)} {σ : St} {H : Hp} {s : Shared} {T : String} {x : V} {v : Value} (I : Inv X pins σ H s) (r : RelV x v) (ty : tyV X.K T x H) :
    s.TypeIs v T ∧ ∀ a, v = .ref a → ∃ ob, s.heap.get? a = some ob ∧ ob.dict = none := by
  cases x with
  | str z =>
    obtain ⟨t, rfl⟩ := r
    cases (show T = "str" from ty)
    exact ⟨typeIs_str s z t, fun _ e => nomatch e⟩
  | int i =>
    obtain ⟨t, rfl⟩ := r
    cases (show T = "int" from ty)
    exact ⟨typeIs_int s i t, fun _ e => nomatch e⟩
  | ref p =>
    cases r
    rcases ty with ⟨rfl, xs, hq⟩ | ⟨rfl, o, hk, hc, hd⟩ | ⟨rfl, hk⟩ | ⟨rfl, S, n, hk⟩
    · obtain ⟨its, _, pl, _⟩ := I.list hq
      refine ⟨pl.isList.typeIs, fun a e => ?_⟩
      cases e
      obtain ⟨o, n, e, c, hd, _⟩ := pl
      exact ⟨o, e, hd⟩
    · refine ⟨⟨o, I.kIn p o hk, hc⟩, fun a e => ?_⟩
      cases e
      exact ⟨o, I.kIn _ o hk, hd⟩
    · have z : ∃ o, s.heap.get? p = some o ∧ o.ExactDict := by
        rcases hk with ⟨kvs, hk⟩ | ⟨kvs, hk⟩
        · obtain ⟨_, _, _, _, o, _, _, e, ex, _⟩ := I.hok p _ hk
          exact ⟨o, e, ex⟩
        · obtain ⟨_, _, _, _, o, _, _, e, ex, _⟩ := I.hok p _ hk
          exact ⟨o, e, ex⟩
      obtain ⟨o, e, ex⟩ := z
      refine ⟨⟨o, e, ex.1⟩, fun a e2 => ?_⟩
      cases e2
      exact ⟨o, e, ex.2.1⟩
    · obtain ⟨o, _, _, _, e, ex, _⟩ := I.hok p _ hk
      refine ⟨⟨o, e, ex.1⟩, fun a e2 => ?_⟩
      cases e2
      exact ⟨o, e, ex.2.1⟩
  | _ => exact False.elim ty
variable {o e : Expr} {es : List Expr} {to : TE} {t : TA} {name : Str} {apos cpos : Pos} {T id : String} {r : V → List V → Hp → VK → Prop}
/- xs.append(e), list.index on a module's tuple .. are MtR facts of 06m -/
end
end L2

namespace L2
open PySem PySem.Spec PyProof.Rows

def MtM (X : Cx) (id : String) (r : V → List V → Hp → VK → Prop) : Prop :=
  ∀ (pins : List (Addr × Obj)) (s : Shared) (σ : St) (H : Hp) (x : V) (xs : List V) (v : Value) (us : List Value) (Q : VK), Inv X pins σ H s → RelV x v → Vals xs us → r x xs H Q →
    wpAny (model X.prog X.w) X.A (call (.builtin id) (v :: us)) (EP X pins σ Q) X.xe s

/-! ### lists of values -/
theorem Vals.one : ∀ {x : V} {us : List Value}, Vals [x] us → ∃ u, us = [u] ∧ RelV x u
  | _, _, .cons r .nil => ⟨_, rfl, r⟩
theorem Vals.two : ∀ {x y : V} {us : List Value}, Vals [x, y] us → ∃ u v, us = [u, v] ∧ RelV x u ∧ RelV y v
  | _, _, _, .cons r (.cons q .nil) => ⟨_, _, rfl, r, q⟩
theorem Vals.zero : ∀ {us : List Value}, Vals [] us → us = []
  | _, .nil => rfl
theorem Vals.rep {xs : List V} {us : List Value} (h : Vals xs us) : ∀ k : Nat, Vals (List.replicate k xs).flatten (List.replicate k us).flatten
  | 0 => .nil
  | k + 1 => by
    rw [List.replicate_succ, List.replicate_succ, List.flatten_cons, List.flatten_cons]
    exact Vals.append h (Vals.rep h k)
theorem foldl_rep (its : List Value) : ∀ (k : Nat) (acc : List Value),
    List.foldl (fun x1 x2 => x1 ++ x2) acc.toArray (List.replicate k its.toArray) = (acc ++ (List.replicate k its).flatten).toArray
  | 0, acc => by simp
  | k + 1, acc => by
    have e : acc.toArray ++ its.toArray = (acc ++ its).toArray := by simp
    have e2 : (acc ++ its) ++ (List.replicate k its).flatten = acc ++ (List.replicate (k + 1) its).flatten := by
      rw [List.replicate_succ, List.flatten_cons, List.append_assoc]
    rw [← e2, ← foldl_rep its k (acc ++ its), ← e, List.replicate_succ, List.foldl_cons]

section
variable {X : Cx} {pins : List (Addr × Obj)} {σ : St} {H : Hp} {s : Shared} {l b : Addr} {xs ys zs : List V}

/-! ### the two steps: a tracked list is rewritten, a new list is laid -/
theorem Inv.lset {its its' : List Value} {n : Nat} {f : Array Value → Array Value} {t' : Nat} (I : Inv X pins σ H s) (hH : H l = some (.lst xs))
    (e : s.heap.get? l = some { cls := .type "list", data := .seq its.toArray n }) (hf : f its.toArray = its'.toArray) (hv : Vals ys its') (hz : ys.length ≤ sizeLine) :
    Inv X pins σ (upd H l (.lst ys)) { s with heap := s.heap.update l (Obj.mapSeq f), toks := t' } := by
  have q := PySem.IsL.update e f
  rw [hf] at q
  refine I.write (x := l) (e := l) (by rw [hH]; exact trivial) (.inl rfl) (fun b' u hb hu => (Heap.get?_update_other s.heap (Obj.mapSeq f) (Ne.symm hb)).trans hu) ⟨_, q⟩ ?_
  exact ⟨hz, its', _, hv, q⟩
theorem Inv.lnew {its : List Value} {t' : Nat} (I : Inv X pins σ H s) (hv : Vals ys its) (hz : ys.length ≤ sizeLine) :
    Inv X pins σ (upd H s.heap.objs.size (.lst ys)) { s with heap := s.heap.push { cls := .type "list", data := .seq its.toArray }, toks := t' } :=
  I.laid (fun _ _ q => Heap.get?_push_of_some _ q) (Nat.le_refl _) ⟨hz, its, 0, hv, Heap.get?_push_size _ rfl⟩
theorem Inv.fresh (I : Inv X pins σ H s) : H s.heap.objs.size = none := I.hok.fresh (Nat.le_refl _)
theorem Inv.lstM (I : Inv X pins σ H s) (hH : H l = some (.lst xs)) : xs.length ≤ sizeLine ∧ ∃ (its : List Value) (n : Nat), Vals xs its ∧ xs.length = its.length ∧ s.heap.get? l = some { cls := .type "list", data := .seq its.toArray n } := by
  obtain ⟨z, its, n, r, e⟩ := I.hok l _ hH
  exact ⟨z, its, n, r, r.length, e⟩

theorem notLongL {n : Nat} (h : n ≤ sizeLine) : Builtin.List.listTooLong n = false := by
  unfold Builtin.List.listTooLong
  exact decide_eq_false (by omega)
end

section
variable {X : Cx}

/-! ### methods -/
def rAppend : V → List V → Hp → VK → Prop := fun x vs H Q => ∃ l xs y, x = .ref l ∧ vs = [y] ∧ H l = some (.lst xs) ∧ xs.length < sizeLine ∧ Q .non (upd H l (.lst (xs ++ [y])))
theorem mt_append : MtM X "list.append" rAppend := by
  intro pins s σ H x vs v us Q I rx rv h
  obtain ⟨l, xs, y, rfl, rfl, hH, hz, q⟩ := h
  cases rx
  obtain ⟨u, rfl, ru⟩ := rv.one
  obtain ⟨z, its, n, r, hl, e⟩ := I.lstM hH
  refine call_meets F.slot_list_append ⟨_, e, rfl⟩ F.entry_list_append (F.args_list_append_2 _ _) (PySem.list_append l its.toArray n u (by rw [List.size_toArray]; omega)) ⟨e, ?_⟩
  refine ⟨.non, _, I.lset (its' := its ++ [u]) hH e (by simp) (r.append (.cons ru .nil)) ?_, rfl, q⟩
  rw [List.length_append, List.length_singleton]
  omega

def rExtend : V → List V → Hp → VK → Prop := fun x vs H Q => ∃ l b xs zs, x = .ref l ∧ vs = [.ref b] ∧ H l = some (.lst xs) ∧ H b = some (.lst zs) ∧ xs.length + zs.length ≤ sizeLine ∧ Q .non (upd H l (.lst (xs ++ zs)))
theorem mt_extend : MtM X "list.extend" rExtend := by
  intro pins s σ H x vs v us Q I rx rv h
  obtain ⟨l, b, xs, zs, rfl, rfl, hH, hB, hz, q⟩ := h
  cases rx
  obtain ⟨u, rfl, ru⟩ := rv.one
  cases ru
  obtain ⟨z, its, n, r, hl, e⟩ := I.lstM hH
  obtain ⟨z2, its2, n2, r2, hl2, e2⟩ := I.lstM hB
  have hsz : its.toArray.size + its2.toArray.size ≤ sizeLine := by rw [List.size_toArray, List.size_toArray]; omega
  have hlong : ¬ (!its.toArray.isEmpty && Builtin.List.listTooLong (its.toArray.size + its2.toArray.size)) = true := by
    rw [notLongL hsz, Bool.and_false]
    exact Bool.false_ne_true
  refine call_meets F.slot_list_extend ⟨_, e, rfl⟩ F.entry_list_extend (F.args_list_extend_2 _ _)
    (AutoSeq1.list_extend_list_list_0 l its.toArray n b its2.toArray n2 hlong (by rw [List.size_toArray]; omega) (by omega)) ⟨e, e2, ?_⟩
  refine ⟨.non, _, I.lset (its' := its ++ its2) hH e (by simp) (r.append r2) ?_, rfl, q⟩
  rw [List.length_append]
  omega

/-! ### list + list, list += list, list * int -/
def rCat : R2 := fun x y H Q => ∃ l b xs zs, x = .ref l ∧ y = .ref b ∧ H l = some (.lst xs) ∧ H b = some (.lst zs) ∧ xs.length + zs.length ≤ sizeLine ∧ ∀ p, H p = none → Q (.ref p) (upd H p (.lst (xs ++ zs)))
theorem op_cat : OpR X (binaryOp .Add) rCat := by
  intro pins s σ H x y v u Q I rx ry h
  obtain ⟨l, b, xs, zs, rfl, rfl, hH, hB, hz, q⟩ := h
  cases rx
  cases ry
  obtain ⟨z, its, n, r, hl, e⟩ := I.lstM hH
  obtain ⟨z2, its2, n2, r2, hl2, e2⟩ := I.lstM hB
  refine PySem.P.add_list e e2 ?_ (by rw [List.size_toArray, List.size_toArray]; omega)
  have ea : its.toArray ++ its2.toArray = (its ++ its2).toArray := by simp
  rw [ea]
  exact ⟨.ref _, _, I.lnew (t' := s.toks) (r.append r2) (by rw [List.length_append]; omega), rfl, q _ I.fresh⟩
/-- a list times an int (a negative one is nothing) -/
def rRep : R2 := fun x y H Q => ∃ l k xs, x = .ref l ∧ y = .int k ∧ H l = some (.lst xs) ∧ -(2 ^ 63) ≤ k ∧ k < 2 ^ 63 ∧ xs.length * k.toNat ≤ sizeLine ∧
  ∀ p, H p = none → Q (.ref p) (upd H p (.lst (List.replicate k.toNat xs).flatten))
theorem len_rep {α : Type} (xs : List α) (k : Nat) : (List.replicate k xs).flatten.length = k * xs.length := by
  induction k with
  | zero => simp
  | succ k ih => rw [List.replicate_succ, List.flatten_cons, List.length_append, ih, Nat.succ_mul, Nat.add_comm]
theorem op_rep : OpR X (binaryOp .Mult) rRep := by
  intro pins s σ H x y v u Q I rx ry h
  obtain ⟨l, k, xs, rfl, rfl, hH, h1, h2, hz, q⟩ := h
  cases rx
  obtain ⟨t, rfl⟩ := ry
  obtain ⟨z, its, n, r, hl, e⟩ := I.lstM hH
  have hlen : its.toArray.size * k.toNat ≤ sizeLine := by rw [List.size_toArray, ← hl]; exact hz
  have hcap : ¬ its.toArray.size * k.toNat > (2 ^ 63 - 1) / 8 := by
    have : (sizeLine : Nat) ≤ (2 ^ 63 - 1) / 8 := by decide
    omega
  have hfit : ¬ (!Builtin.List.listFitsIndex k) = true := by
    rw [fitsIndex_both h1 h2]
    exact Bool.false_ne_true
  have hlong : ¬ Builtin.List.listTooLong (its.toArray.size * k.toNat) = true := by
    rw [notLongL hlen]
    exact Bool.false_ne_true
  have hnew : List.foldl (fun x1 x2 => x1 ++ x2) #[] (List.replicate (if its.toArray.isEmpty = true then 0 else k.toNat) its.toArray) = (List.replicate k.toNat its).flatten.toArray := by
    have f0 : ∀ m : Nat, List.foldl (fun x1 x2 => x1 ++ x2) #[] (List.replicate m its.toArray) = (List.replicate m its).flatten.toArray := fun m => by
      have := foldl_rep its m []
      rw [List.nil_append] at this
      exact this
    rw [f0]
    cases its with
    | nil => simp
    | cons a r' => rw [if_neg (by simp)]
  refine wpAny_binaryOp_repeat_ref (T := "list") (U := "int") (by decide) ⟨_, e, rfl⟩ (fun s' => typeIs_int s' k t) noFill_list_mul F.fills_int_mul F.slot_int_rmul repeat_list F.slot_int_index.lookup
    (call_meets F.slot_int_rmul (typeIs_int s k t) F.entry_int_rmul (F.args_int_rmul_2 _ _) (int___rmul___int_list k t l its.toArray n)
      ⟨e, rfl, ⟨_, e, rfl⟩, call_meets F.slot_list_mul ⟨_, e, rfl⟩ F.entry_list_mul (F.args_list_mul_2 _ _) (AutoListH.list___mul___list_int_3 l its.toArray n k t hfit hcap hlong) ⟨e, ?_⟩⟩)
  rw [hnew]
  exact ⟨.ref _, _, I.lnew (t' := s.toks) (r.rep k.toNat) (by rw [len_rep, Nat.mul_comm]; exact hz), rfl, q _ I.fresh⟩

/-! ### del xs[i] -/
end

/-! ### xs[a:b] = ys -/
section
variable {prog : Program} {w : World} {A : Around} {E : Value → Shared → Prop} {s : Shared}
end

section
variable {X : Cx}
end
end L2

namespace Att
open PySem PySem.W PySem.Calls PyProof.Rows

/-! ### the script -/
theorem ints_of_wellAll {P : Params} {h : Heap} : ∀ (ns : List Int) (vs : List Value), WellAll P h vs (ns.map WData.int) → IntsAre vs ns := by
  intro ns
  induction ns with
  | nil =>
    intro vs w
    rw [List.map_nil] at w
    cases w
    exact .nil
  | cons n ns ih =>
    intro vs w
    rw [List.map_cons] at w
    cases w with
    | cons a b =>
      cases a
      exact .cons _ _ (ih _ b)

theorem script_of {l : OpenLaw} {n : Nat} (hn : l.most = some n) {P : Params} {h : Heap} {args : List WData} {vals : List Value}
    (hpre : l.row.toRowW.claim.pre args = true) (hwl : WellAll P h vals args) :
    ∃ a vs ns, vals = [Value.ref a] ∧ args = [WData.list (ns.map WData.int)] ∧ h.get? a = some { cls := .type "list", data := .seq vs.toArray } ∧ IntsAre vs ns ∧ ns.length ≤ n := by
  have hsh : WShape.hasAll [] args [.list .int] = true := (pre_splitW hpre).1
  have hc : l.pre.holds [] { args := args } = true := (pre_splitW hpre).2
  obtain ⟨d, r, rfl, h1, h2⟩ := hasAllW_cons hsh
  obtain rfl := hasAllW_nil h2
  obtain ⟨xs, rfl, h3⟩ := hasW_list h1
  obtain ⟨ns, rfl⟩ := items_int h3
  have hlen : ns.length ≤ n := by
    unfold OpenLaw.pre at hc
    have h4 : (WTm.not (.lt (.lit (.int (n : Int))) (.len (.arg 0)))).holds [] { args := [.list (ns.map .int)] } = true := by
      have h4 := (holds_andW hc).1
      rw [hn] at h4
      exact h4
    have h5 := condW_of h4 (w_not (w_lt w_lit (w_len_list (w_arg rfl))))
    rw [List.length_map] at h5
    refine Nat.le_of_not_lt fun q => ?_
    have q' : (n : Int) < ((ns.length : Nat) : Int) := by omega
    first
      | (rw [decide_eq_true q'] at h5; exact absurd h5 (by decide))
      | (simp at h5; omega)
  cases hwl with
  | cons w1 w2 =>
    cases w2
    cases w1 with
    | list ho hall => exact ⟨_, _, ns, rfl, rfl, ho, ints_of_wellAll ns _ hall, hlen⟩

theorem post_true (l : OpenLaw) (args : List WData) : l.row.toRowW.claim.post args (.bool true) args = true :=
  postW_of (r := l.row.toRowW) (X := (true == true))
    (show WShape.has [] (.bool true) .bool = true by first | rfl | decide | simp [WShape.has, WShape.arms, WShape.armsAll])
    (show (WTm.eq .res (.lit (.bool true))).value [] { args := args, res := some (.bool true), after := args } = some (.bool (true == true)) from w_eq_bool (w_res rfl) w_lit) rfl

/-! ### the attachment: holds_open's last premise (the goal 'hc' behind k_head) from a wpAny of the law's body -/
/-- the same from a codeAny of the CALL (for a layer whose function contracts speak of calls) -/
theorem attach_call {l : OpenLaw} {n : Nat} {q : Program} {loose : List Str} {XP : (Str → Option Value) → Heap → Prop} {YP : World → Heap → Prop} {d : DefRec}
    (hn : l.most = some n) (hdf : d.params.defaults = [])
    (call : ∀ (w : World) (s₀ s₁ : Shared) (mg mb : Str → Option Value) (fa : Addr) (o : Obj) (pm cd doc : Value) (a : Addr) (vs : List Value) (ns : List Int),
      Ground q loose [] XP w s₀ mg mb s₁.heap → YP w s₁.heap →
      s₁.heap.get? fa = some o → o.data = .func (docDef d.name d.params d.body d.scope pm cd doc) → s₁.heap.CodeRec cd d.name → mg d.name = some (.ref fa) →
      s₁.heap.get? a = some { cls := .type "list", data := .seq vs.toArray } → IntsAre vs ns → ns.length ≤ n → s₁.gens = #[] →
      codeAny (model l.prog w) callerA (.call (.ref fa) ⟨[.ref a], []⟩) (fun r s' => r = .ok (.ret (.bool true)) ∧ OldK s₁.heap s'.heap ∧ s'.os = s₁.os ∧ AllBare s'.gens) s₁) :
    WalkO q loose XP YP l.row.toRowW d [] (fun f vs => PySem.call f vs) := by
  intro w s₀ s₁ mg mb G Y fa o pm cd doc dV kV ho hd hcd hD hmg hg args vals as hpre hlay hrd hwl hlo
  obtain rfl : dV = .none := Dflts.none hD hdf
  obtain rfl : kV = .none := Dflts.noKw hD
  obtain ⟨a, vs, ns, rfl, rfl, hobj, hints, hlen⟩ := script_of hn hpre hwl
  refine enter_call (codeAny_mono (call w s₀ s₁ mg mb fa o pm cd doc a vs ns G Y ho (fd_plain hd) hcd hmg hobj hints hlen hg) fun r s' hq => ?_)
  obtain ⟨rfl, h2, h3, h4⟩ := hq
  exact ⟨.inl ⟨.bool true, .bool true, [], rfl, fun _ => rfl, .bool true, post_true l _, fun _ => ⟨List.Pairwise.nil, fun _ hm => (nomatch hm)⟩⟩, h2, h3, h4⟩

/-! ### rules over ANY heap (no ledger) from facts about the written part K: the library's own take a ledger (News) for what they write -/
section
variable {prog : Program} {w : World} {A : Around} {E : Value → Shared → Prop} {s : Shared} {K : Frag}

/-! the whole heap as the ledger: makes every rule that writes through a ledger a rule over any heap -/
def ledger (h : Heap) (L d : Addr) : List (Addr × Obj) := (List.range h.objs.size).filterMap fun a => if a = L ∨ a = d then none else (h.get? a).map fun o => (a, o)
end
end Att

namespace L2
open PySem PySem.Spec PyProof.Rows

theorem vals_ints : ∀ {vs : List Value} {ns : List Int}, IntsAre vs ns → Vals (ns.map V.int) vs
  | _, _, .nil => .nil
  | _, _, .cons n t h => .cons ⟨t, rfl⟩ (vals_ints h)

/-- nothing is tracked but the script, known to the object (or it is an object of the module) -/
def Only (H : Hp) : Prop := ∀ b, H b = none ∨ ∃ o xs, H b = some (.frz o (.lst xs))

/-- THE HEAD: the law's promise, at the heap behind the top. F, the promise of the law's def, may use that base is part of the heap (so K.In base, base.Ns mainGlobals mg stand in Mod) -/
theorem law_call {P : Program} {w : World} {K : PySem.W.Frag} {mg mb : Str → Option Value} {CX : CXT} {k : Nat} {fa a : Addr} {fd : FuncData} {x : Str} {sp : Sp} {s₁ : Shared} {vs : List Value} {ns : List Int}
    (KX : K.In s₁.heap) (hns : s₁.heap.Ns mainGlobals mg) (hb : s₁.heap.Ns builtinsNs mb) (hbb : ∀ x : Str, x ≠ "__name__" → mb x = bootBuiltins x) (hlim : s₁.heap.NoLimit) (hg : s₁.gens = #[])
    (ha : s₁.heap.get? a = some { cls := .type "list", data := .seq vs.toArray }) (hi : IntsAre vs ns) (hl : ns.length ≤ sizeLine) (hr : Room true k callerA)
    (F : ∀ base : Heap, K.In base → base.Ns mainGlobals mg → FnOk P w K mg base CX true k fa fd [x] sp) (hbind : ∀ (s : Shared) (u : Value), BindsTo s fd ⟨[u], []⟩ [(x, u)])
    (hsp : ∀ H : Hp, Only H → SqL K H a (ns.map V.int) → sp [.ref a] H (fun v _ => v = .bl true) fun _ _ _ => False)
    (hCX : ∀ H e s', CX [] H s₁ (fun _ _ _ => False) e s' → False) :
    codeAny (model P w) callerA (.call (.ref fa) ⟨[.ref a], []⟩) (fun r s' => r = .ok (.ret (.bool true)) ∧ OldK s₁.heap s'.heap ∧ s'.os = s₁.os ∧ AllBare s'.gens) s₁ := by
  have rv := vals_ints hi
  have lenV := hi.length
  -- from an abstract heap in which nothing but the script may be tracked
  have core : ∀ H : Hp, Only H → SqL K H a (ns.map V.int) → HOk P w H s₁.heap → (∀ b, H b ≠ none → b = a) → (H a ≠ none → K.lookup a = none) →
      codeAny (model P w) callerA (.call (.ref fa) ⟨[.ref a], []⟩) (fun r s' => r = .ok (.ret (.bool true)) ∧ OldK s₁.heap s'.heap ∧ s'.os = s₁.os ∧ AllBare s'.gens) s₁ := by
    intro H hO hS hok hA hK
    have base_of : ∀ {b : Addr} {o : Obj}, s₁.heap.get? b = some o → H b = none → (hidT s₁.heap H).get? b = some o := fun e n => hidT_get e n
    have noA : ∀ {b : Addr} {o : Obj} {es : Array DictEntry} {ep : Nat}, s₁.heap.get? b = some o → o.data = .dict es ep → H b = none := fun {b o es ep} e d => by
      cases q : H b with
      | none => rfl
      | some u =>
        have e' : b = a := hA b (by rw [q]; simp)
        subst e'
        rw [ha] at e; cases e
        have d' : Data.seq vs.toArray _ = Data.dict es ep := d
        cases d'
    have nsK : ∀ {b : Addr} {m : Str → Option Value}, s₁.heap.Ns b m → (hidT s₁.heap H).Ns b m := fun {b m} ⟨o, es, ep, e, d, r⟩ => ⟨o, es, ep, base_of e (noA e d), d, r⟩
    have hKb : K.In (hidT s₁.heap H) := fun b o e => base_of (KX b o e) (by
      cases q : H b with
      | none => rfl
      | some u =>
        have e' : b = a := hA b (by rw [q]; simp)
        subst e'
        rw [hK (by rw [q]; simp)] at e; cases e)
    have hM : Mod K mg (hidT s₁.heap H) := ⟨hKb, nsK hns, ⟨mb, nsK hb, hbb⟩, let ⟨mc, h1, h2⟩ := hlim; ⟨mc, nsK h1, h2⟩⟩
    have e0 : Env0 P w K mg (hidT s₁.heap H) callerA [] s₁ H := ⟨rfl, .inl rfl, hM, fun b o e => of_hidT e, Nat.le_of_eq (hidT_size _ _), trivial, fun b hb => absurd (show b ∈ ([] : List Addr) from hb) (by simp), hok, .of_eq hg⟩
    refine codeAny_mono ((F _ hKb (nsK hns)).run callerA [] s₁ H ⟨[.ref a], []⟩ [.ref a] [.ref a] _ _ hr e0 (hbind s₁ (.ref a)) (.cons rfl .nil) (hsp H hO hS)) fun r s' h => ?_
    cases r with
    | error e => exact (hCX H e s' h).elim
    | ok fl =>
      cases fl with
      | next => exact False.elim h
      | brk => exact False.elim h
      | cont => exact False.elim h
      | ret u =>
        obtain ⟨v, H', os, bare, un, hok', r', q⟩ := h
        have q' : v = .bl true := q
        subst q'
        obtain rfl : u = Value.bool true := r'
        refine ⟨rfl, OldK.of_keep fun b o e => ?_, os, bare⟩
        cases q : H b with
        | none => exact un.keep b o e q (by intro z; exact absurd (show b ∈ ([] : List Addr) from z) (by simp)) (by simp)
        | some u =>
          rcases hO b with z | ⟨ob, xs, z⟩
          · rw [q] at z; cases z
          · have z2 := un.frzs b ob _ z
            obtain ⟨e1, _⟩ := hok b _ z
            obtain ⟨e2, _⟩ := hok' b _ z2
            rw [e] at e1; cases e1
            exact e2
  cases hk : K.lookup a with
  | some o =>
    -- the script is one of the module's own objects
    have e := KX a o hk
    rw [ha] at e
    cases e
    refine core (fun _ => none) (fun _ => .inl rfl) (.inr ⟨_, vs.toArray, _, hk, rfl, rfl, rfl, by rw [List.size_toArray, lenV]; exact hl, by simpa using rv⟩) (fun b u z => by have z' : (none : Option HO) = some u := z; cases z') (fun b z => absurd rfl z) fun z => absurd rfl z
  | none =>
    refine core (fun b => if b = a then some (.frz { cls := .type "list", data := .seq vs.toArray } (.lst (ns.map V.int))) else none) (fun b => ?_) (.inl (.inr ⟨{ cls := .type "list", data := .seq vs.toArray }, if_pos rfl⟩)) (fun b u z => ?_) (fun b z => ?_) fun _ => hk
    · by_cases hb : b = a
      · exact .inr ⟨_, _, if_pos hb⟩
      · exact .inl (if_neg hb)
    · by_cases hb : b = a
      · have z' := (if_pos hb).symm.trans z
        cases z'
        subst hb
        exact ⟨ha, by rw [List.length_map]; exact hl, vs, _, rv, ha⟩
      · have z' := (if_neg hb).symm.trans z
        cases z'
    · by_cases hb : b = a
      · exact hb
      · exact absurd (if_neg hb) z
end L2

namespace L2
open PySem PySem.Spec PyProof.Rows

abbrev KOf {K : PySem.W.Frag} {h : Heap} (_ : K.In h) : PySem.W.Frag := K

/-- the goal that k_head leaves (case hc), from the law's promise. F gives the function object fd (K's own) once, then the promise over every base -/
theorem walk_of {l : PySem.W.OpenLaw} {n k : Nat} {q : Program} {loose : List Str} {XP : (Str → Option Value) → Heap → Prop} {YP : World → Heap → Prop} {d : DefRec} {K : Params → PySem.W.Frag} {CX : World → CXT} {sp : World → Sp} {x : Str}
    (hn : l.most = some n) (hn2 : n ≤ sizeLine) (hdf : d.params.defaults = []) (hr : Room true k callerA)
    (hY : ∀ (w : World) (h : Heap), YP w h → (K w.params).In h)
    (F : ∀ (w : World) (mg : Str → Option Value) (fa : Addr) (h : Heap), (K w.params).In h → h.Ns mainGlobals mg → mg d.name = some (.ref fa) →
      ∃ fd : FuncData, (∀ (s : Shared) (u : Value), BindsTo s fd ⟨[u], []⟩ [(x, u)]) ∧
        ∀ base : Heap, (K w.params).In base → base.Ns mainGlobals mg → FnOk l.prog w (K w.params) mg base (CX w) true k fa fd [x] (sp w))
    (hsp : ∀ (w : World) (H : Hp) (a : Addr) (ns : List Int), ns.length ≤ n → Only H → SqL (K w.params) H a (ns.map V.int) → sp w [.ref a] H (fun v _ => v = .bl true) fun _ _ _ => False)
    (hCX : ∀ (w : World) (H : Hp) (s : Shared) (e : Value) (s' : Shared), CX w [] H s (fun _ _ _ => False) e s' → False) :
    PySem.W.WalkO q loose XP YP l.row.toRowW d [] (fun f vs => PySem.call f vs) := by
  refine Att.attach_call hn hdf fun w s₀ s₁ mg mb fa o pm cd doc a vs ns G Y ho hd hcd hmg hobj hints hlen hg => ?_
  have KX := hY w _ Y
  obtain ⟨fd, hb, hF⟩ := F w mg fa _ KX G.T.g hmg
  exact law_call KX G.T.g G.T.b G.T.builtins G.T.nolimit hg hobj hints (Nat.le_trans hlen hn2) hr hF hb (fun H hO hS => hsp w H a ns hlen hO hS) fun H e s' => hCX w H s₁ e s'
end L2

/- THE LAST THEOREM (shape; LID, My.* are yours):
   My.Adr: a structure of the addresses that your layer names (classes, functions); My.Txt K t: a structure (Prop) of the equations over K;
   My.txt_mk : {K} {implicit addresses ..} (e1 : nsIn K mainGlobals "law" = some (some (.ref f))) (e2 : K.lookup f = some ⟨oc, od, .func (fnOf "law" "law" params body scope dV kV doc pm an cdv ct), sl⟩) (e3 : codeIn K cdv "law" = true) .. : ∃ t, My.Txt K t

set_option maxRecDepth 100000 in
set_option maxHeartbeats 0 in
theorem PySem.Challenge.cw_LID_holds : PySem.Challenge.rw_LID.Holds := by
  w_on; o_law; k_head; (case hw => w_witness2)
  k_fill
  refine L2.walk_of (l := PySem.Challenge.rw_LID) (n := 63) (k := 40) (x := "script") (CX := fun w => ..) (sp := fun _ => My.sp_law) rfl (by decide) rfl ⟨rfl, by decide, by decide⟩ (fun w h Y => PySem.W.kIn_of Y) ?F ?S ?C
  case F =>
    intro w mg fa h KX G hmg
    have T : ∃ t, My.Txt (L2.KOf KX) t := by
      dsimp only [L2.KOf]                          -- K must stand as «<heap const> w.params» for k_is
      refine' My.txt_mk ?e1 ?e2 ?e3 ..
      (case e1 => PySem.W.k_is)                    -- in the order: a name -> its address -> its object -> its parts
      (case e2 => PySem.W.k_is)
      ..
    obtain ⟨t, T⟩ := T
    have e0 := hmg.symm.trans (PySem.W.mg_of KX G T.law)
    cases e0                                       -- fa is the law's own address
    exact ⟨_, fun s u => .of_eq rfl, fun base kb nb => My.law_fn T kb nb⟩     -- if «.of_eq rfl» comes too early: refine' ⟨_, ?b, fun base kb nb => My.law_fn T kb nb⟩; exact fun s u => .of_eq rfl
  case S => exact fun w H a ns hl hO hS => ..
  case C => exact ..
(the tactic k_is has no namespace: write k_is) -/

/-! SHORT WORDS over the layer: a def of the text, its body, what a loop and a test want. -/
namespace L2
open PySem PySem.Spec PyProof.Rows

/-! ### the text by places -/
/-- the j-th statement of a class's body -/
def inClass (s : Stmt) (j : Nat) : Stmt := match s with
  | .ClassDef _ _ _ body _ _ _ _ _ _ _ => body.getD j (.Pass ⟨0, 0, 0, 0⟩)
  | _ => .Pass ⟨0, 0, 0, 0⟩
def defArgs (s : Stmt) : Arguments := match s with
  | .FunctionDef _ a _ _ _ _ _ _ _ _ => a
  | _ => { posonlyargs := [], args := [], vararg := none, kwonlyargs := [], kw_defaults := [], kwarg := none, defaults := [] }
def defBody (s : Stmt) : List Stmt := match s with
  | .FunctionDef _ _ b _ _ _ _ _ _ _ => b
  | _ => []
def defScope (s : Stmt) : Scope := match s with
  | .FunctionDef _ _ _ _ _ _ sc _ _ _ => sc
  | _ => { kind := .function, names := [], isGenerator := false, isCoroutine := false }

/-! ### no exception leaves a def -/
abbrev CX0 : CXT := fun _ _ _ _ _ _ => False
abbrev E0 : XK := fun _ _ _ => False
theorem pass0 {X : Cx} : Passes CX0 X E0 := fun _ _ _ _ _ _ _ h => h.elim

/-! ### a def (or method) of the text as it stands behind the top -/
structure Fun (K : PySem.W.Frag) (x qual : Str) (st : Stmt) (f : Addr) (fd : FuncData) : Prop where
  ex : ∃ (oc : Value) (od : Option Addr) (kV doc pm : Value) (an : Option Addr) (cdv ct : Value) (osl : Array (Option Value)),
    fd = PySem.W.fnOf x qual (defArgs st) (defBody st) (defScope st) .none kV doc pm an cdv ct ∧ K.lookup f = some ⟨oc, od, .func fd, osl⟩ ∧ PySem.W.codeIn K cdv qual = true
  kp : PySem.W.keepIn K (.ref f) = true
section
variable {P : Program} {w : World} {K : PySem.W.Frag} {mg : Str → Option Value} {base : Heap}
/-- THE RULE for a def: its body as a term of rules, and the reading of that term -/
theorem Fun.ok {x qual : Str} {st : Stmt} {f : Addr} {fd : FuncData} {N ps : List Str} {cm : Bool} {k : Nat} {sp : Sp} (F : Fun K x qual st f fd) (S : FnScope N ps (defScope st)) (len : ∀ vs H Q E, sp vs H Q E → vs.length = ps.length)
    (hbody : ∀ (cdv : Value) (A : Around) (outer : List Env) (s : Shared) (H : Hp) (vs : List V) (Q : VK) (E : XK), Room cm k (A.deeper (envOfC qual (defScope st) s.heap.objs.size f cdv)) → sp vs H Q E →
      ∃ t, PSs (cxOf CX0 cm P w K mg base N qual (defScope st) f cdv A outer s H E).nox (defBody st) t ∧ t { nx := fun _ H' => Q .non H', rt := Q } (start N vs) H) : FnOk P w K mg base CX0 cm (k + 1) f fd ps sp := by
  obtain ⟨oc, od, kV, doc, pm, an, cdv, ct, osl, rfl, lk, hcd⟩ := F.ex
  refine fn_of lk hcd S len fun A outer s H vs Q E hr hsp => ?_
  obtain ⟨t, h, q⟩ := hbody cdv A outer s H vs Q E hr hsp
  exact ⟨t, h.nox, q⟩
/-- how its arguments bind (no defaults): h is «fun _ _ _ _ _ _ us hl => match us, hl with | [_, _], _ => rfl», one _ a parameter -/
theorem Fun.binds {x qual : Str} {st : Stmt} {f : Addr} {fd : FuncData} {ps : List Str} (F : Fun K x qual st f fd)
    (h : ∀ (kV doc pm : Value) (an : Option Addr) (cdv ct : Value) (us : List Value), us.length = ps.length → bindArgs (PySem.W.fnOf x qual (defArgs st) (defBody st) (defScope st) .none kV doc pm an cdv ct) ⟨us, []⟩ = pure (ps.zip us)) : Binds K fd ps [] := by
  obtain ⟨oc, od, kV, doc, pm, an, cdv, ct, osl, rfl, lk, hcd⟩ := F.ex
  exact .all (h kV doc pm an cdv ct)
theorem fun_mk {x qual : Str} {st : Stmt} {f : Addr} {oc : Value} {od an : Option Addr} {osl : Array (Option Value)} {kV doc pm cdv ct : Value} (l : K.lookup f = some ⟨oc, od, .func (PySem.W.fnOf x qual (defArgs st) (defBody st) (defScope st) .none kV doc pm an cdv ct), osl⟩)
    (c : PySem.W.codeIn K cdv qual = true) (k : PySem.W.keepIn K (.ref f) = true) : Fun K x qual st f (PySem.W.fnOf x qual (defArgs st) (defBody st) (defScope st) .none kV doc pm an cdv ct) := ⟨⟨oc, od, kV, doc, pm, an, cdv, ct, osl, rfl, l, c⟩, k⟩
end
theorem hu_of {A : Around} {c : Bool} {k : Nat} (hr : Room c k A) : A.units + 1 < cLine := Nat.lt_of_le_of_lt (Nat.add_le_add_left (by decide : 1 ≤ 64) _) hr.units
theorem small1000 {n : Nat} (h : n ≤ 1000) : n < sizeLine := Nat.lt_of_le_of_lt h (by decide)

/-! ### expressions in short: the name that stands in the i-th slot -/
section
variable {X : Cx}
theorem pv (i : Nat) {x : Str} {pos : Pos} (hN : X.N[i]? = some x := by rfl) (hv : Vis X.env.scope x := by first | exact Or.inl rfl | exact Or.inr (Or.inl rfl) | exact Or.inr (Or.inr rfl)) (hd : (x == ("__debug__" : Str)) = false := by decide)
    (hcd : (x == ("__classdict__" : Str)) = false := by decide) : PE X (.Name x pos) (tVar i) := pe_var hN hv hd hcd
end

/-! ### tests -/
theorem iteF {A B : Prop} (h : B) : if false = true then A else B := by
  rw [if_neg Bool.false_ne_true]
  exact h
theorem iteT {A B : Prop} (h : A) : if true = true then A else B := by
  rw [if_pos rfl]
  exact h
theorem ite2 {c A B : Prop} [Decidable c] (h1 : c → A) (h2 : ¬ c → B) : if c then A else B := by
  by_cases h : c
  · rw [if_pos h]
    exact h1 h
  · rw [if_neg h]
    exact h2 h
/-! ### heaps -/
/-- all that was tracked is as it was -/
def Same (H H' : Hp) : Prop := ∀ b o, H b = some o → H' b = some o
theorem Same.refl (H : Hp) : Same H H := fun _ _ h => h
theorem Same.trans {H H1 H2 : Hp} (a : Same H H1) (b : Same H1 H2) : Same H H2 := fun c o h => b c o (a c o h)
theorem Same.free {H H' : Hp} (e : Same H H') {l : Addr} (h : H' l = Option.none) : H l = Option.none := by
  cases q : H l with
  | none => rfl
  | some o =>
    rw [e l o q] at h
    cases h
theorem Same.seq {K : PySem.W.Frag} {H H' : Hp} {a : Addr} {xs : List V} (e : Same H H') (h : SqL K H a xs) : SqL K H' a xs := by
  rcases h with (h | ⟨o, h⟩) | h
  · exact .inl (.inl (e _ _ h))
  · exact .inl (.inr ⟨o, e _ _ h⟩)
  · exact .inr h

end L2
set_option Elab.async false
set_option linter.all false
set_option maxRecDepth 100000
set_option maxHeartbeats 4000000
namespace L2
open PySem PySem.Spec PyProof.Rows

/-! ### a list comprehension of one clause -/
/-- the closure of a block -/
def closL (cells : List (Str × Addr)) : List (Str × NameKind) → List (Str × Addr) → List (Str × Addr)
  | [], cs => cs
  | (n, k) :: r, cs => closL cells r (if k == .free then (match cells.lookup n with | some c => (n, c) :: cs | none => cs) else cs)
theorem closureFor_eq {scope : Scope} {env : Env} (h : ∀ y ∈ scope.names, y.2 = .free → ∃ c, env.cells.lookup y.1 = some c) : closureFor scope env = pure (closL env.cells scope.names []) := by
  simp only [closureFor]
  have all : ∀ (l : List (Str × NameKind)) (cs : List (Str × Addr)), (∀ y ∈ l, y.2 = .free → ∃ c, env.cells.lookup y.1 = some c) →
      (forIn l cs fun (x : Str × NameKind) (r : List (Str × Addr)) => match x with | (name, kind) => if (kind == NameKind.free) = true then do let a ← cellOf env name; pure (ForInStep.yield ((name, a) :: r)) else pure (ForInStep.yield r) : Sem (List (Str × Addr))) = pure (closL env.cells l cs) := by
    intro l
    induction l with
    | nil => intro cs _; rfl
    | cons y r ih =>
      intro cs hy
      obtain ⟨n, k⟩ := y
      rw [List.forIn_cons]
      by_cases hk : k = .free
      · subst hk
        obtain ⟨c, hc⟩ := hy (n, .free) List.mem_cons_self rfl
        have hc' : env.cells.lookup n = some c := hc
        simp only [cellOf, hc', closL, beq_self_eq_true, if_true]
        exact ih _ fun z hz => hy z (List.mem_cons_of_mem _ hz)
      · have hb : (k == NameKind.free) = false := by simpa using hk
        simp only [closL, hb, Bool.false_eq_true, if_false]
        exact ih _ fun z hz => hy z (List.mem_cons_of_mem _ hz)
  have e := all scope.names [] h
  show (do let cs ← forIn scope.names [] _; pure cs) = _
  first
    | (rw [bind_pure]; exact e)
    | exact e
    | (simpa using e)
/-- what the closure holds -/
theorem closL_of {cells : List (Str × Addr)} : ∀ {l : List (Str × NameKind)} {cs : List (Str × Addr)} {x : Str} {c : Addr}, (closL cells l cs).lookup x = some c → cs.lookup x = some c ∨ (cells.lookup x = some c ∧ (x, NameKind.free) ∈ l)
  | [], _, _, _, h => .inl h
  | (n, k) :: r, cs, x, c, h => by
    unfold closL at h
    rcases closL_of h with h | ⟨h1, h2⟩
    · by_cases hk : k = .free
      · subst hk
        simp only [beq_self_eq_true, if_true] at h
        cases e : cells.lookup n with
        | none => rw [e] at h; exact .inl h
        | some c' =>
          rw [e] at h
          simp only [List.lookup_cons] at h
          by_cases hx : x = n
          · subst hx
            simp only [beq_self_eq_true] at h
            cases h
            exact .inr ⟨e, List.mem_cons_self⟩
          · have hb : (x == n) = false := by simpa using hx
            rw [hb] at h
            exact .inl h
      · have hb : (k == NameKind.free) = false := by simpa using hk
        rw [hb] at h
        exact .inl h
    · exact .inr ⟨h1, List.mem_cons_of_mem _ h2⟩
theorem closL_keep {cells : List (Str × Addr)} : ∀ {l : List (Str × NameKind)} {cs : List (Str × Addr)} {x : Str}, (cs.lookup x).isSome = true → ((closL cells l cs).lookup x).isSome = true
  | [], _, _, h => h
  | (n, k) :: r, cs, x, h => by
    unfold closL
    refine closL_keep ?_
    split
    · split
      · simp only [List.lookup_cons]
        split
        · rfl
        · exact h
      · exact h
    · exact h
theorem closL_has {cells : List (Str × Addr)} : ∀ {l : List (Str × NameKind)} {cs : List (Str × Addr)} {x : Str} {c : Addr}, (x, NameKind.free) ∈ l → cells.lookup x = some c → ((closL cells l cs).lookup x).isSome = true
  | (n, k) :: r, cs, x, c, hm, hc => by
    unfold closL
    rcases List.mem_cons.mp hm with e | hm
    · cases e
      refine closL_keep ?_
      simp only [beq_self_eq_true, if_true, hc, List.lookup_cons]
      rfl
    · exact closL_has hm hc

/-- the static facts of a block: its names by kind, the block's slots by the def's -/
def lcStat (sc : Scope) (names : List (Str × NameKind)) (N N' : List Str) (ix : List (Option Nat)) : Bool :=
  sc.kind == .function && sc.names.all (fun y => y.2 != .cell && (y.2 != .local || sc.names.lookup y.1 == some .local) && (y.2 != .free || (names.lookup y.1 == some .cell && sc.names.lookup y.1 == some .free)) ) &&
  ix.length == N'.length && (List.range ix.length).all (fun i => match ix.getD i none with
    | none => true
    | some j => (match N'[i]?, N[j]? with | some x, some y => x == y && sc.names.lookup x == some .free | _, _ => false))
def pick (ix : List (Option Nat)) (σ : St) : St := ix.map fun o => o.bind fun j => (σ[j]?).join

structure LcOk (X : Cx) (sc : Scope) (N' : List Str) (ix : List (Option Nat)) : Prop where
  kind : sc.kind = .function
  cell : ∀ y ∈ sc.names, y.2 ≠ .cell
  names : ∀ y ∈ sc.names, y.2 = .local → sc.names.lookup y.1 = some .local
  free : ∀ y ∈ sc.names, y.2 = .free → X.env.kindOf y.1 = some .cell ∧ sc.names.lookup y.1 = some .free
  len : ix.length = N'.length
  at_ : ∀ (i j : Nat), ix[i]? = some (some j) → ∃ x, N'[i]? = some x ∧ X.N[j]? = some x ∧ sc.names.lookup x = some .free
theorem LcOk.of {X : Cx} {sc : Scope} {N' : List Str} {ix : List (Option Nat)} (h : lcStat sc X.env.scope.names X.N N' ix = true) : LcOk X sc N' ix := by
  unfold lcStat at h
  simp only [Bool.and_eq_true, List.all_eq_true] at h
  obtain ⟨⟨⟨h1, h2⟩, h3⟩, h4⟩ := h
  refine ⟨by simpa using h1, fun y hy => ?_, fun y hy hk => ?_, fun y hy hk => ?_, by simpa using h3, fun i j e => ?_⟩
  · simpa using (h2 y hy).1.1
  · have q := (h2 y hy).1.2
    rw [hk] at q
    simpa using q
  · have q := (h2 y hy).2
    rw [hk] at q
    simp only [bne_self_eq_false, Bool.false_or, Bool.and_eq_true, beq_iff_eq] at q
    exact q
  · have hi : i < ix.length := (List.getElem?_eq_some_iff.mp e).1
    have := h4 i (List.mem_range.mpr hi)
    have eg : ix.getD i none = some j := by rw [List.getD_eq_getElem?_getD, e]; rfl
    rw [eg] at this
    dsimp only at this
    cases e1 : N'[i]? with
    | none => rw [e1] at this; simp at this
    | some x =>
      cases e2 : X.N[j]? with
      | none => rw [e1, e2] at this; simp at this
      | some y =>
        rw [e1, e2] at this
        simp only [Bool.and_eq_true, beq_iff_eq] at this
        exact ⟨x, rfl, by rw [this.1], this.2⟩

/-- the block's context -/
def cxLC (X : Cx) (sc : Scope) (N' : List Str) (pins : List (Addr × Obj)) (C : Addr) (fp : List Addr) (s : Shared) (H : Hp) : Cx :=
  { X with N := N', s₀ := s, H₀ := H, env := compEnvC sc (closL X.env.cells sc.names []) C X.env, outer := X.stack, stack := X.stack, ex := fp, fn := fun _ => false, pn := X.pn ++ pins, xe := fun _ _ => False }

theorem HOk.add {P : Program} {w : World} {H : Hp} {h : Heap} {D : Addr} {o : HO} (x : HOk P w H h) (hn : H D = none) (new : ObjOk P w (upd H D o) h D o) : HOk P w (upd H D o) h := fun b u e => by
  by_cases hb : b = D
  · subst hb; rw [upd_same] at e; cases e; exact new
  · rw [upd_ne hb] at e
    exact (x b u e).stay (fun _ _ _ q => q) (fun c q => by rw [upd_ne (ne_of_none q hn)]; exact q) fun c xs q => by rw [upd_ne (ne_of_none q hn)]; exact q
theorem HOk.but {P : Program} {w : World} {H : Hp} {h h' : Heap} {C : Addr} (x : HOk P w H h) (hn : H C = none) (k : ∀ b u, b ≠ C → h.get? b = some u → h'.get? b = some u) : HOk P w H h' := fun b u e =>
  (x b u e).stay (fun c v hc q => k c v (by
    rcases hc with z | z
    · rw [z]; exact ne_of_none e hn
    · exact ne_of_none z hn) q) (fun _ q => q) fun _ _ q => q

theorem relabel_look {sc : Scope} {env : Env} (hk : env.scope.kind = .function) (hf : ∀ y ∈ sc.names, y.2 = .free → env.kindOf y.1 = some .cell) :
    ∀ x, (relabel sc env).names.lookup x = (sc.names.lookup x).map fun k => if k == .free then .cell else k := by
  intro x
  have em : (relabel sc env).names = sc.names.map fun y => (y.1, if y.2 == .free then NameKind.cell else y.2) := by
    show sc.names.map _ = _
    refine List.map_congr_left fun y hy => ?_
    obtain ⟨n, k⟩ := y
    by_cases hk' : k = .free
    · subst hk'
      have e : env.kindOf n = some .cell := hf (n, .free) hy rfl
      simp [hk, e]
    · have hb : (k == NameKind.free) = false := by simpa using hk'
      simp [hb]
  rw [em]
  generalize sc.names = l
  induction l with
  | nil => rfl
  | cons y r ih =>
    obtain ⟨n, k⟩ := y
    simp only [List.map_cons, List.lookup_cons]
    cases x == n with
    | true => rfl
    | false => exact ih

section
variable {X : Cx} {sc : Scope} {N' : List Str} {ix : List (Option Nat)}
theorem pick_get {σ : St} {i : Nat} {v : V} (h : (pick ix σ)[i]? = some (some v)) : ∃ j, ix[i]? = some (some j) ∧ σ[j]? = some (some v) := by
  unfold pick at h
  rw [List.getElem?_map] at h
  cases e : ix[i]? with
  | none => rw [e] at h; cases h
  | some o =>
    rw [e] at h
    have h' : (o.bind fun j => (σ[j]?).join) = some v := Option.some.inj h
    cases o with
    | none => cases h'
    | some j =>
      have h'' : (σ[j]?).join = some v := h'
      cases e2 : σ[j]? with
      | none => rw [e2] at h''; cases h''
      | some z =>
        rw [e2] at h''
        have : z = some v := h''
        exact ⟨j, rfl, by rw [e2, this]⟩

/-- the block begins -/
theorem inv_lc {pins : List (Addr × Obj)} {σ : St} {H : Hp} {s : Shared} {fp : List Addr} {h₁ : Heap} {C : Addr} {tk : Nat} {m : Str → Option Value} (I : Inv X pins σ H s) (L : LcOk X sc N' ix) (f : ∀ b ∈ fp, FpOk X pins H b) (fl : ∀ b ∈ fp, b < s.heap.objs.size)
    (hC : s.heap.objs.size ≤ C) (hns : h₁.Ns C m) (old : ∀ b o, s.heap.get? b = some o → h₁.get? b = some o) :
    Inv (cxLC X sc N' pins C fp s H) [] (pick ix σ) H { s with heap := h₁, toks := tk } := by
  have cof : ∀ x c, (closL X.env.cells sc.names []).lookup x = some c → X.env.cells.lookup x = some c ∧ (x, NameKind.free) ∈ sc.names := fun x c h => by
    rcases closL_of h with h | h
    · cases h
    · exact h
  have rl := relabel_look (sc := sc) (env := X.env) I.ok.kind fun y hy hk => (L.free y hy hk).1
  have chas : ∀ x, sc.names.lookup x = some .free → ∃ c, (closL X.env.cells sc.names []).lookup x = some c ∧ X.env.cells.lookup x = some c := fun x hx => by
    have hm : (x, NameKind.free) ∈ sc.names := PySem.mem_of_lookup hx
    obtain ⟨c, hc⟩ := I.ok.has x (.inl (L.free _ hm rfl).1)
    obtain ⟨c', hc'⟩ := Option.isSome_iff_exists.mp (closL_has (cs := []) hm hc)
    exact ⟨c', hc', (cof x c' hc').1⟩
  refine ⟨⟨I.ok.mod, L.kind, I.ok.glob, I.ok.blt, hC, fun x y c h1 h2 => I.ok.inj x y c (cof x c h1).1 (cof y c h2).1, fun x hx => ?_, fun x c h => (nomatch h), I.ok.hd, I.ok.frames, .inl rfl, fun b hb => ⟨Nat.ne_of_lt (Nat.lt_of_lt_of_le (fl b hb) hC), fun x c h => (f b hb).2.2.2.2.1 x c (cof x c h).1⟩,
      I.bs, Nat.le_trans I.ok.bsz I.sz, fun b o e hb => ?_, fun b hb z => ?_, I.stack, I.stkFree⟩, rfl, I.bare, Un.kept old, ⟨m, hns, fun i x v e1 e2 e3 => ?_⟩, fun x c h => ?_, I.hok.fresh hC, fun x c h => I.freeC x c (cof x c h).1, fun p hp => ?_, I.hok.kept old, ?_, I.hdk⟩
  · have hx' : (relabel sc X.env).names.lookup x = some .cell ∨ (relabel sc X.env).names.lookup x = some .free := hx
    rw [rl x] at hx'
    cases e : sc.names.lookup x with
    | none => rw [e] at hx'; simp at hx'
    | some k =>
      have hk : k = .free := by
        cases k with
        | free => rfl
        | cell => exact absurd rfl (L.cell _ (PySem.mem_of_lookup e))
        | _ => rw [e] at hx'; revert hx'; decide
      subst hk
      obtain ⟨c, h1, _⟩ := chas x e
      exact ⟨c, h1⟩
  · rcases (f b hb).2.2.2.1 with z | z
    · exact I.ok.noex b o e z
    · exact absurd (Nat.lt_of_lt_of_le (Heap.lt_size (I.ok.bs b o e).1) z) (Nat.lt_irrefl _)
  · rcases List.mem_cons.mp (I.stkSub b z) with e | e
    · exact (f b hb).2.1 e
    · exact (f b hb).2.2.1 e
  · obtain ⟨j, hj, hv⟩ := pick_get e2
    obtain ⟨y, n1, n2, n3⟩ := L.at_ i j hj
    have exy : x = y := Option.some.inj ((show N'[i]? = some x from e1).symm.trans n1)
    subst exy
    obtain ⟨c, c1, c2⟩ := chas x n3
    have kf := (L.free _ (PySem.mem_of_lookup n3) rfl).1
    obtain ⟨m0, hn0, hl⟩ := I.loc
    obtain ⟨u, r, l⟩ := hl j x v n2 hv (.inr (.inl kf))
    refine ⟨u, r, .inr ⟨.inl ?_, c, c1, ?_⟩⟩
    · show (relabel sc X.env).names.lookup x = some .cell
      rw [rl x, n3]; rfl
    · rcases l with ⟨hk, _⟩ | ⟨_, c', hc', z⟩
      · have kf' : X.env.kindOf x = some .cell := kf
        rw [hk] at kf'; cases kf'
      · rw [c2] at hc'
        cases hc'
        obtain ⟨oc, ho, hd⟩ := z
        exact ⟨oc, old _ _ ho, hd⟩
  · obtain ⟨v, oc, ho, hd⟩ := I.cell x c (cof x c h).1
    exact ⟨v, oc, old _ _ ho, hd⟩
  · have hp' : p ∈ X.pn ++ pins := by
      have : p ∈ (X.pn ++ pins) ++ [] := hp
      simpa using this
    obtain ⟨a, b, c, d, e⟩ := I.pin p hp'
    exact ⟨old _ _ a, b, Nat.ne_of_lt (Nat.lt_of_lt_of_le (Heap.lt_size a) hC), fun z => (List.mem_cons.mp (I.stkSub p.1 z)).elim c d, e⟩
  · show (pick ix σ).length = N'.length
    unfold pick
    rw [List.length_map, L.len]
end

/-- the block's tests -/
def PTs (X : Cx) (ifs : List Expr) (t : TT) : Prop :=
  ∀ (pins : List (Addr × Obj)) (s : Shared) (σ : St) (H : Hp) (Q : Bool → Hp → Prop), Inv X pins σ H s → t σ H Q →
    wpAny (model X.prog X.w) X.A (forIn ifs true fun c r => if r = true then do let ok ← isTrue c X.env (eval c X.env); pure (ForInStep.yield ok) else pure (ForInStep.yield r)) (TP X pins σ Q) X.xe s
def tAll : TT := fun _ H Q => Q true H
theorem pts_nil {X : Cx} : PTs X [] tAll := fun _ _ _ H _ I h => wpAny_tests_nil ⟨H, I, h⟩
theorem pts_one {X : Cx} {c : Expr} {t : TT} (h : PT X c t) : PTs X [c] t := fun pins s σ H Q I q => wpAny_tests_one (h pins s σ H Q I q)

theorem compLoop_gen {prog : Program} {w : World} {A : Around} {R : Result → Shared → Prop} {s : Shared} {elt target iter : Expr} {ifs : List Expr} {scope : Scope} {pos : Pos} {it acc : Value} {env : Env} (I : Nat → Shared → Prop)
    (turn : ∀ n s, I n s → wpAny (model prog w) A (pyNext it) (fun r s₁ => match r with
      | none => R (.ok .next) s₁
      | some v => wpAny (model prog w) A (letOwnedTupleGo target it v) (fun _ s₁' => wpAny (model prog w) A (assign target env v) (fun _ s₂ =>
          wpAny (model prog w) A (forIn ifs true fun c r => if r = true then do let ok ← isTrue c env (eval c env); pure (ForInStep.yield ok) else pure (ForInStep.yield r)) (fun ok s₃ =>
            if ok = true then wpAny (model prog w) A (eval elt env) (fun x s₄ =>
              wpAny (model prog w) A (call (.builtin "list.append") [acc, x]) (fun _ s₅ => ∃ m, m < n ∧ I m s₅) (fun _ _ => False) s₄) (fun _ _ => False) s₃
            else ∃ m, m < n ∧ I m s₃) (fun _ _ => False) s₂) (fun _ _ => False) s₁') (fun _ _ => False) s₁) (fun _ _ => False) s)
    (n : Nat) (h : I n s) : codeAny (model prog w) A (.compLoop (.ListComp elt [⟨target, iter, ifs, 0⟩] scope pos) 0 it acc env) R s := by
  refine codeAny_loop rfl I (fun n s hI => ?_) n h
  show wpAny _ A ((compTurn (.ListComp elt [⟨target, iter, ifs, 0⟩] scope pos) 0 it acc env).onRaise (fun x => do noteFrame x env; theTreesLotGoes x)) _ _ s
  refine wpAny_noted (wpAny_mono (E := fun _ _ => False) ?_ (fun _ _ q => q) fun _ _ z => z.elim)
  rw [compTurn_list]
  refine wpAny_bind (wpAny_standAt (wpAny_bind (wpAny_mono (turn n s hI) (fun r s₁ h₁ => ?_) fun _ _ h' => h')))
  cases r with
  | none => exact wpAny_pure h₁
  | some v =>
    refine wpAny_bind (wpAny_mono h₁ (fun _ s₁' h₁' => ?_) fun _ _ h' => h')
    refine wpAny_bind (wpAny_mono h₁' (fun _ s₂ h₂ => wpAny_bind (wpAny_mono h₂ (fun ok s₃ h₃ => ?_) fun _ _ h' => h')) fun _ _ h' => h')
    cases ok with
    | false => exact wpAny_pure ⟨rfl, h₃⟩
    | true => exact wpAny_bind (wpAny_bind (wpAny_mono h₃ (fun x s₄ h₄ => wpAny_bind (wpAny_mono h₄ (fun _ s₅ h₅ => wpAny_pure (wpAny_pure ⟨rfl, h₅⟩)) fun _ _ h' => h')) fun _ _ h' => h'))

/-- [elt for tg in iter if ..]: W by the turn, a measure, the block's slots, what is gathered, the heap -/
def tLC (ix : List (Option Nat)) (wi : TI) (g : TG) (tt : TT) (te : TE) : TE := fun σ H Q => wi σ H fun J H1 => ∃ W : Nat → Nat → St → List V → Hp → Prop, (∃ m, W 0 m (pick ix σ) [] H1) ∧ ∀ i m τ ys H2, W i m τ ys H2 → ys.length < sizeLine ∧
  ((J.stop i H2 ∧ ∀ D, H2 D = none → Q (.ref D) (upd H2 D (.lst ys))) ∨
   (J.go i H2 ∧ ∀ x H3, J.yld i H2 x H3 → g x τ H3 fun τ1 H4 => tt τ1 H4 fun ok H5 => if ok = true then te τ1 H5 fun y H6 => ∃ m', m' < m ∧ W (i + 1) m' τ1 (ys ++ [y]) H6 else ∃ m', m' < m ∧ W (i + 1) m' τ1 ys H5))

theorem pe_lc {c : Bool} {X : Cx} {elt tg iter : Expr} {ifs : List Expr} {sc : Scope} {pos : Pos} {N' : List Str} {ix : List (Option Nat)} {wi : TI} {g : TG} {tt : TT} {te : TE} (hc : c = true → X.calm = true) (L : LcOk X sc N' ix) (hi : PIc c X tg iter wi)
    (hg : ∀ pins C fp s H, PG (cxLC X sc N' pins C fp s H) tg g) (ht : ∀ pins C fp s H, PTs (cxLC X sc N' pins C fp s H) ifs tt) (he : ∀ pins C fp s H, PE (cxLC X sc N' pins C fp s H) elt te)
    (hs : ∀ x, foldedSetIterable iter X.env x = pure x := by intro _; rfl) : PE X (.ListComp elt [⟨tg, iter, ifs, 0⟩] sc pos) (tLC ix wi g tt te) := by
  intro pins s σ H Q I h
  rw [eval_ListComp]
  have hclos : closureFor sc X.env = pure (closL X.env.cells sc.names []) := closureFor_eq fun y hy hk => I.ok.has y.1 (.inl (L.free y hy hk).1)
  refine wpAny_comprehension_free (use := none) rfl hs hclos L.kind L.names (thn (hi pins s σ H _ I h) fun v s1 h1 => thn h1 fun itv s2 h2 => ?_)
  obtain ⟨it, fp, tn, J, H2, e, I2, T, st2, f2, W, ⟨m0, w0⟩, turn⟩ := h2
  subst e
  refine wpAny_newObj_type (wpAny_newFunctionEnv L.cell (by intro y hy; simp at hy) (fun h₁ hns₁ hsb₁ => ?_) L.kind)
  dsimp only at hns₁ hsb₁ ⊢
  generalize hH2 : s2.heap.push { cls := .type "list", dict := none, data := .seq ([] : List Value).toArray } = G2 at hns₁ hsb₁ ⊢
  have hC : G2.objs.size = s2.heap.objs.size + 1 := by rw [← hH2, Heap.size_push]
  have hDC : s2.heap.objs.size ≠ G2.objs.size := by rw [hC]; exact Nat.ne_of_lt (Nat.lt_succ_self _)
  have hCle : s2.heap.objs.size ≤ G2.objs.size := by rw [hC]; exact Nat.le_succ _
  have below : ∀ b, b < s2.heap.objs.size → b ≠ G2.objs.size ∧ b ≠ s2.heap.objs.size := fun b hb => ⟨by rw [hC]; exact Nat.ne_of_lt (Nat.lt_succ_of_lt hb), Nat.ne_of_lt hb⟩
  have old : ∀ b o, s2.heap.get? b = some o → h₁.get? b = some o := fun b o e => hsb₁.extBut b o (below b (Heap.lt_size e)).1 (Heap.get?_push_of_some _ (hH2 ▸ Heap.get?_push_of_some _ e))
  have hacc : h₁.get? s2.heap.objs.size = some { cls := .type "list", data := .seq ([] : List Value).toArray 0 } := hsb₁.extBut _ _ hDC (Heap.get?_push_of_some _ (hH2 ▸ Heap.get?_push_size _ rfl))
  have fl : ∀ b ∈ fp, b < s2.heap.objs.size := fun b hb => by
    obtain ⟨o, e, _⟩ := T.obj 0 _ st2 b hb
    exact Heap.lt_size e
  have hDfp : s2.heap.objs.size ∉ fp := fun z => Nat.lt_irrefl _ (fl _ z)
  generalize hD : s2.heap.objs.size = D at *
  generalize hCe : G2.objs.size = C at *
  have cof : ∀ x c, (closL X.env.cells sc.names []).lookup x = some c → X.env.cells.lookup x = some c := fun x c h => by
    rcases closL_of h with h | h
    · cases h
    · exact h.1
  have st1 : tn 0 h₁ := T.keep _ _ _ st2 fun b _ o e => old b o e
  have I3 : Inv (cxLC X sc N' pins C fp s2 H2) [] (pick ix σ) H2 { s2 with heap := h₁, toks := s2.toks + ([] : List (Str × Value)).length } := inv_lc I2 L f2 (fun b hb => by rw [hD]; exact fl b hb) (by rw [hD]; exact hCle) hns₁ old
  have D0 : H2 D = none := I2.hok.fresh (Nat.le_of_eq hD)
  -- what stays of the accumulator and the iterator's objects
  have fD : ∀ {H' : Hp}, H' D = none → FpOk (cxLC X sc N' pins C fp s2 H2) [] H' D := fun {H'} hn => by
    refine ⟨hn, hDC, fun z => ?_, .inr (Nat.le_of_eq hD), fun x c hx z => ?_, fun p hp z => ?_⟩
    · obtain ⟨_, o, ho, _⟩ := I2.stack.mem (show D ∈ frs X.stack from z)
      exact absurd (Heap.lt_size ho) (by rw [hD]; exact Nat.lt_irrefl _)
    · obtain ⟨v, q⟩ := I2.cell x c (cof x c hx)
      have := q.lt
      rw [z, hD] at this
      exact Nat.lt_irrefl _ this
    · have hp' : p ∈ X.pn ++ pins := by
        have : p ∈ (X.pn ++ pins) ++ [] := hp
        simpa using this
      have := Heap.lt_size (I2.pin p hp').1
      rw [z, hD] at this
      exact Nat.lt_irrefl _ this
  have fF : ∀ {H' : Hp}, (∀ b ∈ fp, H' b = none) → ∀ b ∈ fp, FpOk (cxLC X sc N' pins C fp s2 H2) [] H' b := fun {H'} hn b hb => by
    obtain ⟨_, g1, g2, g3, g4, g5⟩ := f2 b hb
    refine ⟨hn b hb, (below b (fl b hb)).1, fun z => ?_, .inl hb, fun x c hx => g4 x c (cof x c hx), fun p hp => g5 p ?_⟩
    · rcases List.mem_cons.mp (I2.stkSub b z) with e | e
      · exact g1 e
      · exact g2 e
    · have : p ∈ (X.pn ++ pins) ++ [] := hp
      simpa using this
  have loop : ∀ s₃ : Shared, s₃ = { s2 with heap := h₁, toks := s2.toks + ([] : List (Str × Value)).length } →
      codeAny (model X.prog X.w) X.A (.compLoop (.ListComp elt [⟨tg, iter, ifs, 0⟩] sc pos) 0 (.ref it) (.ref D) (compEnvC sc (closL X.env.cells sc.names []) C X.env))
        (compPost (model X.prog X.w) X.A X.xe none (EP X pins σ Q) (.ref D) C) s₃ := by
    rintro s₃ rfl
    refine compLoop_gen (fun n s' => ∃ i τ ys H', Inv (cxLC X sc N' pins C fp s2 H2) [] τ H' s' ∧ tn i s'.heap ∧ (∀ b ∈ fp, H' b = none) ∧ H' D = none ∧ (∃ its k, Vals ys its ∧ s'.heap.get? D = some { cls := .type "list", data := .seq its.toArray k }) ∧ W i n τ ys H')
      ?_ m0 ⟨0, _, [], H2, I3, st1, fun b hb => (f2 b hb).1, D0, ⟨[], 0, .nil, hacc⟩, w0⟩
    rintro n s4 ⟨i, τ, ys, H4, I4, st4, fr4, dn4, ⟨its, k, rv, dg⟩, w4⟩
    obtain ⟨hlen, step⟩ := turn i n τ ys H4 w4
    rcases step with ⟨stop, fin⟩ | ⟨go, step⟩
    · refine thn (T.done (cxLC X sc N' pins C fp s2 H2) rfl rfl rfl hc i [(D, ({ cls := .type "list", data := .seq its.toArray k } : Obj))] s4 τ H4 (fun _ _ => False) (I4.pins_of fun p hp => ?_) (fun b hb => ?_) st4 stop) fun r s5 ⟨hr, I5⟩ => ?_
      · have e : p = (D, { cls := .type "list", data := .seq its.toArray k }) := by simpa using hp
        subst e
        obtain ⟨g0, g1, g2, _⟩ := fD dn4
        exact ⟨dg, g0, g1, g2, fun v z => (nomatch z)⟩
      · obtain ⟨g0, g1, g2, g3, g4, g5⟩ := fF fr4 b hb
        refine ⟨g0, g1, g2, g3, g4, fun p hp => ?_⟩
        rcases List.mem_append.mp hp with z | z
        · exact g5 p (List.mem_append_left _ z)
        · have e : p = (D, { cls := .type "list", data := .seq its.toArray k }) := by simpa using z
          subst e
          exact fun q => hDfp (by have q' : D = b := q; rw [q']; exact hb)
      · subst hr
        have dg5 := (I5.pin (D, _) (List.mem_append_right _ (List.mem_singleton.mpr rfl))).1
        obtain ⟨m5, hn5, _⟩ := id I5.loc
        refine ⟨m5, hn5, fun h' hsb => ?_⟩
        have kb : ∀ b u, b ≠ C → s5.heap.get? b = some u → h'.get? b = some u := fun b u hb e => (hsb.2 b hb).trans e
        have hlt : ∀ b o, s2.heap.get? b = some o → b ≠ C ∧ b ≠ D := fun b o e => by
          have := Heap.lt_size e
          rw [hD] at this
          exact below b this
        have U := I5.base
        refine ⟨.ref D, upd H4 D (.lst ys), I2.call' (s' := { s5 with heap := h' }) (ch := fp) I5.os ⟨fun b o e n hb hx => kb b o (hlt b o e).1 (U.keep b o e n hb hx), fun b o e n hb hx => ?_, fun b o e n hx => ?_, fun b o e hx => ?_, fun b xs e => ?_, fun b o u e => ?_, fun b ps e => ?_⟩ ?_ I5.bare (fun b hb => ?_), rfl, fin D dn4⟩
        · obtain ⟨sl, q⟩ := U.slot b o e n hb hx
          exact ⟨sl, kb b _ (hlt b o e).1 q⟩
        · rw [upd_ne (hlt b o e).2]
          exact U.free b o e n hx
        · obtain ⟨o', q⟩ := U.there b o e hx
          exact ⟨o', kb b _ (hlt b o e).1 q⟩
        · have q := U.tups b xs e
          rw [upd_ne (ne_of_none q dn4)]
          exact q
        · have q := U.frzs b o u e
          rw [upd_ne (ne_of_none q dn4)]
          exact q
        · obtain ⟨more, q⟩ := U.tbls b ps e
          exact ⟨more, by rw [upd_ne (ne_of_none q dn4)]; exact q⟩
        · refine (I5.hok.but I5.free kb).add dn4 ?_
          exact ⟨Nat.le_of_lt hlen, its, k, rv, kb _ _ hDC dg5⟩
        · obtain ⟨_, g1, g2, g3, g4, g5⟩ := f2 b hb
          exact ⟨g3, g1, g4, g5⟩
    · refine thn (T.item (cxLC X sc N' pins C fp s2 H2) rfl rfl rfl hc i [(D, ({ cls := .type "list", data := .seq its.toArray k } : Obj))] s4 τ H4 (fun _ _ => False) (I4.pins_of fun p hp => ?_) (fun b hb => ?_) st4 go) fun r s5 ⟨u, hr, h5⟩ => ?_
      · have e : p = (D, { cls := .type "list", data := .seq its.toArray k }) := by simpa using hp
        subst e
        obtain ⟨g0, g1, g2, _⟩ := fD dn4
        exact ⟨dg, g0, g1, g2, fun v z => (nomatch z)⟩
      · obtain ⟨g0, g1, g2, g3, g4, g5⟩ := fF fr4 b hb
        refine ⟨g0, g1, g2, g3, g4, fun p hp => ?_⟩
        rcases List.mem_append.mp hp with z | z
        · exact g5 p (List.mem_append_left _ z)
        · have e : p = (D, { cls := .type "list", data := .seq its.toArray k }) := by simpa using z
          subst e
          exact fun q => hDfp (by have q' : D = b := q; rw [q']; exact hb)
      · subst hr
        refine thn h5 fun _ s6 ⟨x, H6, I6, r6, y6, st6, fr6⟩ => ?_
        obtain ⟨dg6, dn6, _⟩ := I6.pin (D, _) (List.mem_append_right _ (List.mem_singleton.mpr rfl))
        have dn6' : H6 D = none := dn6
        have all6 : ∀ b ∈ D :: fp, FpOk (cxLC X sc N' pins C fp s2 H2) [] H6 b := fun b hb => by
          rcases List.mem_cons.mp hb with z | z
          · subst z; exact fD dn6'
          · exact fF fr6 b z
        have obj6 : ∀ b ∈ D :: fp, ∃ o, s6.heap.get? b = some o ∧ ∀ v, o.data ≠ .cell v := fun b hb => by
          rcases List.mem_cons.mp hb with z | z
          · subst z; exact ⟨_, dg6, fun v q => (nomatch q)⟩
          · exact T.obj _ _ st6 b z
        have I6' := (I6.unpinned (pins := [])).pinned all6 obj6
        refine thn (hg pins C fp s2 H2 _ s6 τ H6 x u _ I6' r6 (step x H6 y6)) fun _ s7 ⟨τ7, H7, I7, q7⟩ => ?_
        refine thn (ht pins C fp s2 H2 _ s7 τ7 H7 _ I7 q7) fun ok s8 ⟨H8, I8, q8⟩ => ?_
        have back : ∀ {s9 : Shared} {H9 : Hp}, Inv (cxLC X sc N' pins C fp s2 H2) ([] ++ pinsAt (D :: fp) s6.heap) τ7 H9 s9 → s9.heap.get? D = some { cls := .type "list", data := .seq its.toArray k } ∧ H9 D = none ∧ tn (i + 1) s9.heap ∧ ∀ b ∈ fp, H9 b = none := fun {s9 H9} I9 => by
          have pin : ∀ b o, b ∈ D :: fp → s6.heap.get? b = some o → s9.heap.get? b = some o ∧ H9 b = none := fun b o hb e => by
            have q := I9.pin (b, o) (List.mem_append_right _ (List.mem_append_right _ (mem_pinsAt hb e)))
            exact ⟨q.1, q.2.1⟩
          refine ⟨(pin D _ List.mem_cons_self dg6).1, (pin D _ List.mem_cons_self dg6).2, T.keep _ _ _ st6 fun b hb o e => (pin b o (List.mem_cons_of_mem _ hb) e).1, fun b hb => ?_⟩
          obtain ⟨o, e, _⟩ := T.obj _ _ st6 b hb
          exact (pin b o (List.mem_cons_of_mem _ hb) e).2
        cases ok with
        | false =>
          obtain ⟨b1, b2, b3, b4⟩ := back I8
          simp only [Bool.false_eq_true, if_false] at q8 ⊢
          obtain ⟨m', hm, w'⟩ := q8
          exact ⟨m', hm, i + 1, τ7, ys, H8, I8.unpinned, b3, b4, b2, ⟨its, k, rv, b1⟩, w'⟩
        | true =>
          simp only [if_true] at q8 ⊢
          refine thn (he pins C fp s2 H2 _ s8 τ7 H8 _ I8 q8) fun y s9 ⟨yv, H9, I9, r9, m', hm, w'⟩ => ?_
          obtain ⟨b1, b2, b3, b4⟩ := back I9
          have el : its.toArray.size ≤ sizeLine := by
            have := rv.length
            simp only [List.size_toArray]
            omega
          refine append_at (hsz := el) b1 fun h10 sb hD10 => ?_
          obtain ⟨_, g1, _, g3, g4, g5⟩ := fD b2
          refine ⟨m', hm, i + 1, τ7, ys ++ [yv], H9, (I9.unpinned (pins := [])).turned (t' := s9.toks) (fun b o hb e => (sb.2 b hb).trans e) b2 g1 g3 g4 g5, T.keep _ _ _ b3 fun b hb o e => (sb.2 b fun q => hDfp (by rw [← q]; exact hb)).trans e, b4, b2, ⟨its ++ [y], k + 1, rv.append (.cons r9 .nil), ?_⟩, w'⟩
          show h10.get? D = _
          rw [hD10]
          simp
  exact codeAny_compStart_list (loop _ rfl) (T.self _ 0 _ _ _ st1 (loop _ rfl))
end L2
set_option Elab.async false
set_option linter.all false
set_option maxRecDepth 100000
set_option maxHeartbeats 4000000
namespace L2
open PySem PySem.Spec PyProof.Rows

/-! ### an exception under way -/
/-- e of the class cls flies over the frames l; no context hangs on it; its newest entry, if there is one, stands in flight fl; what B holds stays -/
structure FlyZ (B : Heap) (l : List Env) (e : Addr) (cls fl : Value) (h : Heap) : Prop where
  stays : B.StaysIn h
  new : B.get? e = none
  frames : h.FunFrames B l
  obj : ∃ oe vs, h.get? e = some oe ∧ oe.cls = cls ∧ oe.dict = none ∧ oe.data = .fields vs ∧ 2 < vs.size ∧ vs[2]? = some .none ∧
    (vs[1]? = some .none ∨ ∃ T oT ts, vs[1]? = some (.ref T) ∧ B.get? T = none ∧ T ≠ e ∧ h.get? T = some oT ∧ oT.data = .fields ts ∧ ts[3]? = some fl)

section
variable {M : Model} {A : Around} {E : Value → Shared → Prop} {s : Shared} {B : Heap} {env : Env} {outer l : List Env} {L e : Addr} {cls fl : Value}
theorem dict_mapFields (o : Obj) (f : Array Value → Array Value) : (o.mapFields f).dict = o.dict := by
  obtain ⟨c, d, dt, sl⟩ := o
  cases dt <;> rfl
theorem fly_entry {oe : Obj} {vs : Array Value} {head : Value} {had : Bool} {Q : Unit → Shared → Prop} (hfr : A.frames = some (env :: outer)) (hf : env.frame = some L) (st : B.StaysIn s.heap) (hn : B.get? e = none)
    (hl : s.heap.FunFrames B (env :: outer)) (he : s.heap.get? e = some oe) (hc : oe.cls = cls) (hdi : oe.dict = none) (hd : oe.data = .fields vs) (hz : 2 < vs.size) (h2 : vs[2]? = some .none)
    (k : ∀ h', FlyZ B (env :: outer) e cls (rawInt L) h' → s.heap.UpToSlots h' → Q () { s with heap := h' }) :
    wpAny M A (do let a ← frameOf env; let pl ← entryPlaceOf L had; let b ← EntryCells.newEntry head a .none (rawInt L) .none pl; setField (.ref e) 1 b) Q E s := by
  have nfr : e ∉ (env :: outer).filterMap (·.frame) := fun z => by
    obtain ⟨_, o, ho, nf⟩ := hl.mem z
    rw [he] at ho
    cases ho
    exact nf vs hd
  refine wpAny_bind (wpAny_frameOf_fun hfr hl hf fun g only => ?_)
  obtain ⟨_, same, slots⟩ := only
  refine wpAny_bind (wpAny_entryPlaceOf fun pl hpl => ?_)
  have key : ∀ (tb : Obj) (ts : Array Value), tb.data = .fields ts → ts[3]? = some (rawInt L) → wpAny M A (setField (.ref e) 1 (.ref g.objs.size)) Q E { s with heap := g.push tb } := by
    intro tb ts td t3
    have e1 : g.get? e = some oe := (same e nfr).trans he
    have e2 : (g.push tb).get? e = some oe := Heap.get?_push_of_some _ e1
    have hT : (g.push tb).get? g.objs.size = some tb := Heap.get?_push_size _ (by rw [Obj.isFreed_of_fields td])
    have hne : g.objs.size ≠ e := Nat.ne_of_gt (Heap.lt_size e1)
    have fresh : B.get? g.objs.size = none := by
      cases q : B.get? g.objs.size with
      | none => rfl
      | some o =>
        obtain ⟨sl, z⟩ := slots _ o (st _ o q)
        exact absurd (Heap.lt_size z) (Nat.lt_irrefl _)
    have up : ∀ b o, b ≠ e → g.get? b = some o → ((g.push tb).update e (Obj.mapFields (·.setIfInBounds 1 (.ref g.objs.size)))).get? b = some o := fun b o hb q =>
      (Heap.get?_update_other _ _ (Ne.symm hb)).trans (Heap.get?_push_of_some _ q)
    have notE : ∀ b o, s.heap.get? b = some o → (∀ ws, o.data ≠ .fields ws) → b ≠ e := fun b o q nf z => by
      rw [z, he] at q
      cases q
      exact nf vs hd
    have dd := Obj.data_mapFields hd (·.setIfInBounds 1 (Value.ref g.objs.size))
    refine wpAny_setField e2 hd (by omega) (k _ ⟨fun b o q => ?_, hn, ?_, ?_⟩ fun b o q nf => ?_)
    · refine up b o (fun z => by rw [z, hn] at q; cases q) ((same b fun z => ?_).trans (st b o q))
      rw [(hl.mem z).1] at q
      cases q
    · refine hl.of_keeps fun b o q nf => ?_
      obtain ⟨sl, z⟩ := slots b o q
      exact ⟨_, up b _ (notE b o q nf) z, rfl⟩
    · refine ⟨_, _, Heap.get?_update_self _ e2 (Obj.isFreed_of_fields dd), (Obj.cls_mapFields _ _).trans hc, (dict_mapFields _ _).trans hdi, dd, by simpa using hz, by rw [Array.getElem?_setIfInBounds_ne (by decide)]; exact h2, .inr ⟨g.objs.size, tb, ts, ?_, fresh, hne, ?_, td, t3⟩⟩
      · rw [Array.getElem?_setIfInBounds_self_of_lt (by omega)]
      · rw [Heap.get?_update_other _ _ (Ne.symm hne)]
        exact hT
    · obtain ⟨sl, z⟩ := slots b o q
      exact ⟨sl, up b _ (notE b o q nf) z⟩
  unfold EntryCells.newEntry newFields
  refine wpAny_bind (wpAny_newObj_type ?_ (hpl.sizeOk5 _ _ _ _ _))
  exact key _ _ rfl (by simp)
/-- a frame is noted -/
theorem fly_note {Q : Unit → Shared → Prop} (hfr : A.frames = some (env :: outer)) (hf : env.frame = some L) (x : FlyZ B (env :: outer) e cls fl s.heap)
    (k : ∀ h', FlyZ B (env :: outer) e cls (rawInt L) h' → s.heap.UpToSlots h' → Q () { s with heap := h' }) : wpAny M A (noteFrame (.ref e) env) Q E s := by
  obtain ⟨st, hn, hl, oe, vs, he, hc, hdi, hd, hz, h2, h1⟩ := x
  unfold noteFrame
  simp only [hf]
  rcases h1 with h1 | ⟨T, oT, ts, h1, nT, Te, gT, dT, t3⟩
  · refine wpAny_bind (wpAny_field he hd h1 ?_)
    rw [if_neg (show ¬ ((Value.none != Value.none) = true) by decide)]
    exact fly_entry hfr hf st hn hl he hc hdi hd hz h2 k
  · refine wpAny_bind (wpAny_field he hd h1 ?_)
    rw [if_pos (show (Value.ref T != Value.none) = true by simp)]
    refine wpAny_bind (wpAny_field gT dT t3 ?_)
    by_cases hfl : fl = rawInt L
    · subst hfl
      rw [if_pos (show (rawInt L == rawInt L) = true by simp)]
      exact wpAny_pure (k s.heap ⟨st, hn, hl, oe, vs, he, hc, hdi, hd, hz, h2, .inr ⟨T, oT, ts, h1, nT, Te, gT, dT, t3⟩⟩ (Heap.UpToSlots.refl _))
    · rw [if_neg (show ¬ ((fl == rawInt L) = true) by simpa using hfl)]
      refine wpAny_bind (wpAny_setField gT dT (Array.getElem?_eq_some_iff.mp t3).1 ?_)
      have oth : ∀ b, b ≠ T → (s.heap.update T (Obj.mapFields (·.setIfInBounds 3 Value.none))).get? b = s.heap.get? b := fun b hb => Heap.get?_update_other _ _ (Ne.symm hb)
      have notT : ∀ b o, s.heap.get? b = some o → (∀ ws, o.data ≠ .fields ws) → b ≠ T := fun b o q nf z => by
        rw [z, gT] at q
        cases q
        exact nf ts dT
      refine fly_entry (B := B) (cls := cls) hfr hf (fun b o q => ?_) hn (hl.of_keeps fun b o q nf => ⟨o, (oth b (notT b o q nf)).trans q, rfl⟩) ((oth e (Ne.symm Te)).trans he) hc hdi hd hz h2 fun h' y up => k h' y fun b o q nf => up b o ((oth b (notT b o q nf)).trans q) nf
      exact (oth b fun z => by rw [z, nT] at q; cases q).trans (st b o q)
theorem fly_flight {Q : Unit → Shared → Prop} (x : FlyZ B l e cls fl s.heap) (k : ∀ h', FlyZ B l e cls .none h' → s.heap.UpToSlots h' → Q () { s with heap := h' }) : wpAny M A (setFlight (.ref e) none) Q E s := by
  obtain ⟨st, hn, hl, oe, vs, he, hc, hdi, hd, hz, h2, h1⟩ := x
  unfold setFlight
  rcases h1 with h1 | ⟨T, oT, ts, h1, nT, Te, gT, dT, t3⟩
  · refine wpAny_bind (wpAny_field he hd h1 ?_)
    rw [if_neg (show ¬ ((Value.none != Value.none) = true) by decide)]
    exact wpAny_pure (k s.heap ⟨st, hn, hl, oe, vs, he, hc, hdi, hd, hz, h2, .inl h1⟩ (Heap.UpToSlots.refl _))
  · refine wpAny_bind (wpAny_field he hd h1 ?_)
    rw [if_pos (show (Value.ref T != Value.none) = true by simp)]
    have lt3 : 3 < ts.size := (Array.getElem?_eq_some_iff.mp t3).1
    have dd := Obj.data_mapFields dT (·.setIfInBounds 3 Value.none)
    have oth : ∀ b, b ≠ T → (s.heap.update T (Obj.mapFields (·.setIfInBounds 3 Value.none))).get? b = s.heap.get? b := fun b hb => Heap.get?_update_other _ _ (Ne.symm hb)
    have notT : ∀ b o, s.heap.get? b = some o → (∀ ws, o.data ≠ .fields ws) → b ≠ T := fun b o q nf z => by
      rw [z, gT] at q
      cases q
      exact nf ts dT
    refine wpAny_setField gT dT lt3 (k _ ⟨fun b o q => (oth b fun z => by rw [z, nT] at q; cases q).trans (st b o q), hn, hl.of_keeps fun b o q nf => ⟨o, (oth b (notT b o q nf)).trans q, rfl⟩, oe, vs, (oth e (Ne.symm Te)).trans he, hc, hdi, hd, hz, h2,
      .inr ⟨T, _, _, h1, nT, Te, Heap.get?_update_self _ gT (Obj.isFreed_of_fields dd), dd, ?_⟩⟩ fun b o q nf => ⟨o.slots, (oth b (notT b o q nf)).trans q⟩)
    rw [Array.getElem?_setIfInBounds_self_of_lt lt3]
theorem fly_leave {Q : Unit → Shared → Prop} (hfr : A.frames = some (env :: outer)) (hf : env.frame = some L) (x : FlyZ B (env :: outer) e cls fl s.heap)
    (k : ∀ h', FlyZ B outer e cls .none h' → s.heap.UpToSlots h' → Q () { s with heap := h' }) : wpAny M A (leaving env (.ref e)) Q E s := by
  unfold leaving
  refine wpAny_bind (fly_note hfr hf x fun h1 y u1 => fly_flight (s := { s with heap := h1 }) y fun h2 z u2 => ?_)
  obtain ⟨a, b, ⟨_, _, c⟩, d⟩ := z
  exact k h2 ⟨a, b, c, d⟩ (u1.trans u2)
end

/-! ### how an exception lies behind a call -/
def CXW (P : Program) (w : World) : CXT := fun outer H s E e s' => ∃ (ea C : Addr) (B : Heap) (H' : Hp) (sI : Shared), e = .ref ea ∧ FlyZ B outer ea (.ref C) .none s'.heap ∧ Un (frs outer) [] H H' s.heap sI.heap ∧ HOk P w H' sI.heap ∧
  sI.os = s.os ∧ AllBare sI.gens ∧ s'.os = s.os ∧ AllBare s'.gens ∧ (∀ b o, sI.heap.get? b = some o → b ∉ frs outer → B.get? b = some o) ∧ sI.heap.UpToSlots s'.heap ∧ E (.ref C) none H'
/-- the context takes an exception of which Ex holds -/
def Throws (X : Cx) (Ex : Addr → St → Hp → Prop) : Prop := ∀ (pins : List (Addr × Obj)) (σ : St) (H : Hp) (sI : Shared) (ea C : Addr) (B : Heap) (fl : Value) (s' : Shared), Inv X pins σ H sI → FlyZ B X.stack ea (.ref C) fl s'.heap → s'.os = sI.os → AllBare s'.gens →
  (∀ b o, sI.heap.get? b = some o → b ∉ frs X.stack → B.get? b = some o) → sI.heap.UpToSlots s'.heap → Ex C σ H → X.xe (.ref ea) s'
theorem throws_none {X : Cx} : Throws X (fun _ _ _ => False) := fun _ _ _ _ _ _ _ _ _ _ _ _ _ _ _ h => h.elim
/-- a def's body -/
theorem throws_def {cm : Bool} {P : Program} {w : World} {K : PySem.W.Frag} {mg : Str → Option Value} {base : Heap} {N : List Str} {qual : Str} {scope : Scope} {f : Addr} {cd : Value} {A : Around} {outer : List Env} {s : Shared} {H : Hp} {E : XK} :
    Throws (cxOf (CXW P w) cm P w K mg base N qual scope f cd A outer s H E) (fun C _ H' => E (.ref C) none H') := by
  intro pins σ H' sI ea C B fl s' I x os bare hB up q
  have ff : A.frames = some outer := by
    have := I.ok.frames
    cases h : A.frames with
    | none =>
      have z : (A.deeper (envOfC qual scope s.heap.objs.size f cd)).frames = none := by
        first | (show (A.frames.map _) = none; rw [h]; rfl) | simp [Around.deeper, Around.under, h]
      rw [show (cxOf (CXW P w) cm P w K mg base N qual scope f cd A outer s H E).A = A.deeper (envOfC qual scope s.heap.objs.size f cd) from rfl, z] at this
      cases this
    | some l =>
      have z := Around.frames_deeper (env := envOfC qual scope s.heap.objs.size f cd) h
      rw [show (cxOf (CXW P w) cm P w K mg base N qual scope f cd A outer s H E).A = A.deeper (envOfC qual scope s.heap.objs.size f cd) from rfl, z] at this
      have := Option.some.inj this
      exact congrArg some (List.cons.inj this).2
  show wpAny (model P w) (A.deeper (envOfC qual scope s.heap.objs.size f cd)) (leaving (envOfC qual scope s.heap.objs.size f cd) (.ref ea)) _ _ s'
  refine fly_leave (L := s.heap.objs.size) (Around.frames_deeper ff) rfl x fun h' y u => ?_
  have hid : ∀ b o, b ≠ s.heap.objs.size → sI.heap.get? b = some o → (PySem.W.hideAll sI.heap [s.heap.objs.size]).get? b = some o := fun b o hb e => PySem.W.hideAll_get _ e (by simpa using hb)
  have U := I.base
  have lt : ∀ b o, s.heap.get? b = some o → b ≠ s.heap.objs.size := fun b o e => Nat.ne_of_lt (Heap.lt_size e)
  have nl : ∀ b : Addr, b ∉ (cxOf (CXW P w) cm P w K mg base N qual scope f cd A outer s H E).ex := fun b z => absurd (show b ∈ ([] : List Addr) from z) (by simp)
  refine ⟨ea, C, B, H', { sI with heap := PySem.W.hideAll sI.heap [s.heap.objs.size] }, rfl, y, ⟨fun b o e n hb _ => hid b o (lt b o e) (U.keep b o e n hb (nl b)), fun b o e n hb _ => ?_, fun b o e n _ => U.free b o e n (nl b), fun b o e _ => ?_, U.tups, U.frzs, U.tbls⟩,
    I.hok.but (C := s.heap.objs.size) I.free hid, I.os, I.bare, os.trans I.os, bare, fun b o e hb => ?_, fun b o e nf => ?_, q⟩
  · obtain ⟨sl, z⟩ := U.slot b o e n hb (nl b)
    exact ⟨sl, hid b _ (lt b o e) z⟩
  · obtain ⟨o', z⟩ := U.there b o e (nl b)
    exact ⟨o', hid b _ (lt b o e) z⟩
  · have e' := PySem.W.of_hideAll _ e
    refine hB b o e' fun z => ?_
    have z' : b ∈ s.heap.objs.size :: frs outer := z
    rcases List.mem_cons.mp z' with r | r
    · rw [r] at e
      have z9 : (PySem.W.hideAll sI.heap [s.heap.objs.size]).get? s.heap.objs.size = none := PySem.W.hideAll_none _ (by simp)
      exact absurd (z9.symm.trans e) (by simp)
    · exact hb r
  · exact (up.trans u) b o (PySem.W.of_hideAll _ e) nf

/-! ### calls that may raise -/
def XE (Ex : Addr → St → Hp → Prop) (σ : St) : XK := fun c _ H' => ∃ C, c = .ref C ∧ Ex C σ H'
def tCallX (sp : Sp) (dvs : List V) (Ex : Addr → St → Hp → Prop) (t : TA) : TE := fun σ H Q => t σ H fun vs H1 => sp (vs ++ dvs) H1 Q (XE Ex σ)
def tMethX (C : Addr) (m : Str) (sp : Sp) (dvs : List V) (Ex : Addr → St → Hp → Prop) (ta : TE) (t : TA) : TE := fun σ H Q => ta σ H fun x H1 => ∃ a dx fs, x = .ref a ∧ H1 a = some (.ins C dx fs) ∧ fs.lookup m = none ∧
  t σ H1 fun vs H2 => sp (x :: (vs ++ dvs)) H2 Q (XE Ex σ)
def tMakeX (C : Addr) (sp : Sp) (dvs : List V) (Ex : Addr → St → Hp → Prop) (t : TA) : TE := fun σ H Q => t σ H fun vs H1 => ∀ x dx, H1 x = none → H1 dx = none → dx ≠ x →
  sp (.ref x :: (vs ++ dvs)) (upd (upd H1 dx (.own x)) x (.ins C dx [])) (fun v H2 => v = .non ∧ Q (.ref x) H2) (XE Ex σ)
section
variable {X : Cx} {cm : Bool} {k : Nat} {f C : Addr} {fd : FuncData} {ps : List Str} {sp : Sp} {dvs : List V} {ds : List Value} {Ex : Addr → St → Hp → Prop} {x m : Str} {p pos apos : Pos} {e o : Expr} {es : List Expr} {ta : TE} {t : TA}
theorem Throws.of {pins : List (Addr × Obj)} {σ : St} {H : Hp} {s s' : Shared} {v : Value} (T : Throws X Ex) (I : Inv X pins σ H s) (h : CXW X.prog X.w X.stack H s (XE Ex σ) v s') : X.xe v s' := by
  obtain ⟨ea, C, B, H', sI, rfl, y, un, hok, os, bare, os', bare', hB, up, C', ec, q⟩ := h
  cases ec
  exact T pins σ H' sI ea C B .none s' (I.call' os un hok bare fun b z => absurd z (by simp)) y (os'.trans os.symm) bare' hB up q
theorem pe_makeX (M : Mk X.K C f) (T : Throws X Ex) (F : FnOk X.prog X.w X.K X.mg X.base (CXW X.prog X.w) cm k f fd ps sp) (hr : Room cm (k + 1) X.A) (hg : Gl X x) (hm : X.mg x = some (.ref C)) (hb : Binds X.K fd ps ds) (hd : Vals dvs ds)
    (ha : PA X (e :: es) t) (hdb : (x == ("__debug__" : Str)) = false := by decide) (he : starEach (e :: es) X.env = (false, eval e X.env) :: starEach es X.env := by rfl) (hpl : (backTo pos (starEach es X.env)).any (·.1) = false := by rfl) :
    PE X (.Call (.Name x p) (e :: es) [] pos) (tMakeX C sp dvs Ex t) := by
  intro pins s σ H Q I h
  refine wpAny_Call_Name_kw (ld_glob I hg hm ?_ hdb)
  refine PySem.W.callWith_K (h₀ := X.base) I.ok.mod.kin M.kp (thn (ha pos pins s σ H _ I h) fun us s1 ⟨vs, H1, I1, r, q⟩ => ⟨I1.kIn, ?_⟩) he hpl
  have hq := q (s1.heap.objs.size + 1) s1.heap.objs.size (I1.hok.fresh (Nat.le_succ _)) (I1.hok.fresh (Nat.le_refl _)) (Nat.ne_of_lt (Nat.lt_succ_self _))
  have I2 := Inv.made (C := C) I1
  have r2 : Vals (V.ref (s1.heap.objs.size + 1) :: (vs ++ dvs)) (Value.ref (s1.heap.objs.size + 1) :: (us ++ ds)) := .cons rfl (r.append hd)
  have hl : (Value.ref (s1.heap.objs.size + 1) :: us ++ ds).length = ps.length := by
    have e := r2.length
    rw [F.len _ _ _ _ hq] at e
    exact e.symm
  refine wpAny_call (make_map (f := f) I1.kIn M.makes M.init (beq_iff_eq.mp M.fn) (codeAny_mono (F.run _ X.stack _ _ ⟨Value.ref (s1.heap.objs.size + 1) :: us, []⟩ (Value.ref (s1.heap.objs.size + 1) :: (us ++ ds)) _ _ (XE Ex σ) (hr.make C us [])
    (I2.env0.make C us []) (hb _ (Value.ref (s1.heap.objs.size + 1) :: us) I2.kIn hl) r2 hq) fun r s' hq' => ?_))
  cases r with
  | error e => exact T.of I2 hq'
  | ok fl =>
    cases fl with
    | ret u =>
      obtain ⟨v, H', I3, rv, ev, q3⟩ := I2.after hq'
      subst ev
      exact ⟨rv, ⟨V.ref (s1.heap.objs.size + 1), H', I3, rfl, q3⟩⟩
    | next => exact False.elim hq'
    | brk => exact False.elim hq'
    | cont => exact False.elim hq'
end
/-- no exception leaves a statement -/
theorem PS.nox {X : Cx} {st : Stmt} {t : TS} (h : PS X.nox st t) : PS X st t := fun pins s σ H D I hw =>
  wpAny_mono (h pins s σ H D (I.wish _) hw) (fun _ _ q => q.unwish) fun _ _ z => False.elim z
/-- THE RULE for a def that may raise: its body's exceptions are E's -/
theorem Fun.okW {P : Program} {w : World} {K : PySem.W.Frag} {mg : Str → Option Value} {base : Heap} {x qual : Str} {st : Stmt} {f : Addr} {fd : FuncData} {N ps : List Str} {cm : Bool} {k : Nat} {sp : Sp} (F : Fun K x qual st f fd) (S : FnScope N ps (defScope st)) (len : ∀ vs H Q E, sp vs H Q E → vs.length = ps.length)
    (hbody : ∀ (cdv : Value) (A : Around) (outer : List Env) (s : Shared) (H : Hp) (vs : List V) (Q : VK) (E : XK), Room cm k (A.deeper (envOfC qual (defScope st) s.heap.objs.size f cdv)) → sp vs H Q E →
      ∃ t, PSs (cxOf (CXW P w) cm P w K mg base N qual (defScope st) f cdv A outer s H E) (defBody st) t ∧ t { nx := fun _ H' => Q .non H', rt := Q } (start N vs) H) : FnOk P w K mg base (CXW P w) cm (k + 1) f fd ps sp := by
  obtain ⟨oc, od, kV, doc, pm, an, cdv, ct, osl, rfl, lk, hcd⟩ := F.ex
  exact fn_of lk hcd S len fun A outer s H vs Q E hr hsp => hbody cdv A outer s H vs Q E hr hsp
end L2
set_option Elab.async false
set_option linter.all false
set_option maxRecDepth 100000
set_option maxHeartbeats 4000000
namespace L2
open PySem PySem.Spec PyProof.Rows

/-! ### own error classes under ValueError -/
def bmV : List Value := [.type "ValueError", .type "Exception", .type "BaseException", .type "object"]
/-- the class at C is an own error class whose first built-in base is ValueError -/
def ErrK (K : PySem.W.Frag) (C : Addr) : Prop := PySem.W.excIn K C bmV "ValueError.__new__" = true
structure ErrObj (h : Heap) (C : Addr) (mro : List Value) : Prop where
  ex : ∃ bm N nm q bs hdct sn sub ab col dd k0 k1 k2 k3 k5 mN, mro = .ref C :: bm ∧ h.get? C = some (excClassObj nm q C N bs bm hdct sn sub ab col dd k0 k1 k2 k3 k5 "ValueError.__new__") ∧ h.Ns N mN ∧ mN "__init__" = none ∧ OwnTail h bmV bm
theorem ErrK.obj {K : PySem.W.Frag} {C : Addr} {h : Heap} (x : ErrK K C) (X : K.In h) : ∃ cd, PySem.W.clsIn K C = some cd ∧ ErrObj h C cd.mro := by
  unfold ErrK PySem.W.excIn at x
  split at x
  · rename_i dd cd sl look
    have hc : PySem.W.clsIn K C = some cd := by
      unfold PySem.W.clsIn
      rw [look]
    refine ⟨cd, hc, ?_⟩
    split at x
    · rename_i C' bm k0 k1 k2 k3 n k5 em es
      simp only [Bool.and_eq_true, beq_iff_eq, Bool.not_eq_true'] at x
      obtain ⟨⟨⟨⟨⟨c1, c2⟩, c3⟩, c4⟩, c5⟩, c6⟩ := x
      subst c1 c2
      obtain ⟨a1, a2, a3, a4, a5, a6, a7, a8, a9, a10, a11⟩ := cd
      dsimp only at em c3 c5 c6 ⊢
      subst em c3
      obtain ⟨sl⟩ := sl
      dsimp only at es
      subst es
      exact ⟨bm, a4, a1, a5, a2, a6, a7, a8, a9, a10, dd, k0, k1, k2, k3, k5, _, rfl, X _ _ look, .of_isNs (PySem.W.isNs_of_in X c5), PySem.W.nsMap_none_of_in X c5 c6, PySem.W.tail_of_in X c4⟩
    · cases x
  · cases x

/-! ### raise C(..) -/
def tRaise (C : Addr) (Ex : Addr → St → Hp → Prop) (t : TA) : TS := fun _ σ H => t σ H fun vs H1 => vs.length ≤ sizeLine ∧ Ex C σ H1
theorem ps_raise {X : Cx} {Ex : Addr → St → Hp → Prop} {C : Addr} {x : Str} {np cpos pos : Pos} {e : Expr} {es : List Expr} {t : TA} (hc : X.calm = true) (T : Throws X Ex) (O : ErrK X.K C) (hg : Gl X x) (hm : X.mg x = some (.ref C)) (ha : PA X (e :: es) t)
    (hdb : (x == ("__debug__" : Str)) = false := by decide) (hst : starEach (e :: es) X.env = (false, eval e X.env) :: starEach es X.env := by rfl) (hpl : (backTo cpos (starEach es X.env)).any (·.1) = false := by rfl) :
    PS X (.Raise (some (.Call (.Name x np) (e :: es) [] cpos)) none pos) (tRaise C Ex t) := by
  intro pins s σ H D I h
  obtain ⟨cd, _, ⟨bm, N, nm, q, bs, hdct, sn, sub, ab, col, dd, k0, k1, k2, k3, k5, mN, em, hC, hN, hni, TL⟩⟩ := O.obj I.ok.mod.kin
  refine wpAny_Raise_call_subT (C := C) (nm := nm) (q := q) (N := N) (bs := bs) (bm := bm) (hdct := hdct) (sn := sn) (sub := sub) (ab := ab) (col := col) (dd := dd) (k0 := k0) (k1 := k1) (k2 := k2) (k3 := k3) (k5 := k5) (mN := mN) PySem.F.excBase_ValueError (TL.hasType (by decide)) (I.ok.hd hc)
    (by rw [hst]; show (false || (backTo cpos (starEach es X.env)).any (·.1)) = false; rw [hpl]; rfl) hni (ld_glob I hg hm ⟨rfl, ?_⟩ hdb)
  have hA := ha cpos pins s σ H _ I h
  rw [hst] at hA ⊢
  refine Calls.evalArgs_plain (thn hA fun us s2 ⟨vs, H2, I2, r2, hz, q2⟩ => ⟨rfl, by rw [← r2.length]; exact hz, I2.bk _ _ hC, hN.keeps I2.bk, TL.keeps I2.bk, fun h' ea hm' => ?_⟩)
  obtain ⟨tt, he, htn, _⟩ := hm'.there
  have hin : ∀ env ∈ X.stack, ∀ a, env.frame = some a → a ∈ frs X.stack := fun env hm a ha => List.mem_filterMap.mpr ⟨env, hm, ha⟩
  refine T pins σ H2 s2 ea C (PySem.W.hideAll s2.heap (frs X.stack)) .none { s2 with heap := h' } I2 ⟨fun b o e => hm'.keeps b o (PySem.W.of_hideAll _ e), ?_, ?_, ?_⟩ rfl I2.bare (fun b o e hb => PySem.W.hideAll_get _ e hb) (fun b o e _ => ⟨o.slots, hm'.keeps b o e⟩) q2
  · cases z : (PySem.W.hideAll s2.heap (frs X.stack)).get? ea with
    | none => rfl
    | some o =>
      have := PySem.W.of_hideAll _ z
      rw [hm'.new] at this
      cases this
  · exact (PySem.W.funFrames_hide I2.stack hin).of_keeps fun b o e _ => ⟨o, hm'.keeps b o e, rfl⟩
  · exact ⟨_, _, he, rfl, rfl, rfl, by simp, rfl, .inl rfl⟩

/-! ### try .. except D as n -/
section
variable {M : Model} {A : Around} {E : Value → Shared → Prop}
theorem exc_matches {h : Heap} {g : Array GenState} {d : Drawn} {t : Nat} {os : OsState} {e C D : Addr} {oe : Obj} {mC mD : List Value} {Q : Bool → Shared → Prop} (OC : ErrObj h C mC) (OD : ErrObj h D mD) (he : h.get? e = some oe) (hcls : oe.cls = .ref C)
    (hsub : mC.contains (.ref D) = true) (hq : Q true ⟨h, g, d, t, os⟩) : wpAny M A (excMatches (.ref e) (.ref D)) Q E ⟨h, g, d, t, os⟩ := by
  obtain ⟨bm, N, nm, q, bs, hdct, sn, sub, ab, col, dd, k0, k1, k2, k3, k5, mN, rfl, hC, _, _, TC⟩ := OC
  obtain ⟨bm', N', nm', q', bs', hdct', sn', sub', ab', col', dd', j0, j1, j2, j3, j5, mN', rfl, hD, _, _, TD⟩ := OD
  have b1 : (Value.ref D :: bm').contains (.type "BaseException") = true := by
    rw [List.contains_cons, TD.hasType (X := "BaseException") (b := true) (by decide), Bool.or_true]
  have b2 := tc_notTuple
  unfold excMatches
  repeat (first | (with_reducible refine wpAny_loadPart_at he ?_; rw [hcls]) | with_reducible refine wpAny_loadPart_at hD ?_ | (with_reducible refine wpAny_isSubtype_exc hD ?_; rw [b1]) | (with_reducible refine wpAny_isSubtype_exc hC ?_; rw [hsub]) | wp_step)
  exact hq
end

theorem ObjOk.ex {P : Program} {w : World} {H : Hp} {h : Heap} {a : Addr} {o : HO} (x : ObjOk P w H h a o) : ∃ ob, h.get? a = some ob := by
  cases o with
  | lst xs => obtain ⟨_, _, _, _, e⟩ := x; exact ⟨_, e⟩
  | tup xs => obtain ⟨_, _, _, o, e, _⟩ := x; exact ⟨_, e⟩
  | dK kvs => obtain ⟨_, _, _, _, o, _, _, e, _⟩ := x; exact ⟨_, e⟩
  | dT kvs => obtain ⟨_, _, _, _, o, _, _, e, _⟩ := x; exact ⟨_, e⟩
  | set S n => obtain ⟨o, _, _, _, e, _⟩ := x; exact ⟨_, e⟩
  | ins C dx fs => obtain ⟨_, _, _, e, _⟩ := x; exact ⟨_, e⟩
  | own y => exact x
  | xd fs => obtain ⟨_, ⟨_, _, _, e, _⟩, _⟩ := x; exact ⟨_, e⟩
  | rng lo hi => obtain ⟨_, _, _, e⟩ := x; exact ⟨_, e⟩
  | frz ob u => exact ⟨_, x.1⟩
  | tbl ps => exact ⟨_, x⟩
  | met f y => exact ⟨_, x⟩
  | ext φ => exact x.2.1

/-- the pins become the context's own -/
abbrev cxP (X : Cx) (pins : List (Addr × Obj)) : Cx := { X with pn := X.pn ++ pins }
theorem Cx.Ok.p {X : Cx} (ok : X.Ok) (pins : List (Addr × Obj)) : (cxP X pins).Ok :=
  ⟨ok.mod, ok.kind, ok.glob, ok.blt, ok.above, ok.inj, ok.has, ok.cab, ok.hd, ok.frames, ok.stk, ok.exf, ok.bs, ok.bsz, ok.noex, ok.exfs, ok.funs, ok.frf⟩
theorem Inv.p {X : Cx} {pins : List (Addr × Obj)} {σ : St} {H : Hp} {s : Shared} (I : Inv X pins σ H s) : Inv (cxP X pins) [] σ H s :=
  ⟨I.ok.p pins, I.os, I.bare, I.base, I.loc, I.cell, I.free, I.freeC, fun p hp => I.pin p (by have h : p ∈ (X.pn ++ pins) ++ [] := hp; simpa using h), I.hok, I.len, I.hdk⟩
theorem Inv.unp {X : Cx} {pins : List (Addr × Obj)} {σ : St} {H : Hp} {s : Shared} (ok : X.Ok) (I : Inv (cxP X pins) [] σ H s) : Inv X pins σ H s :=
  ⟨ok, I.os, I.bare, I.base, I.loc, I.cell, I.free, I.freeC, fun p hp => I.pin p (by show p ∈ (X.pn ++ pins) ++ []; simpa using hp), I.hok, I.len, I.hdk⟩
/-- the body of a try -/
abbrev cxTry (X : Cx) (pins : List (Addr × Obj)) (Ex : Addr → St → Hp → Prop) : Cx := (cxP X pins).wish fun e s' => ∃ (ea C : Addr) (B : Heap) (H' : Hp) (fl : Value) (σ : St) (sI : Shared), e = .ref ea ∧ Inv (cxP X pins) [] σ H' sI ∧ FlyZ B X.stack ea (.ref C) fl s'.heap ∧
  s'.os = sI.os ∧ AllBare s'.gens ∧ (∀ b o, sI.heap.get? b = some o → b ∉ frs X.stack → B.get? b = some o) ∧ sI.heap.UpToSlots s'.heap ∧ Ex C σ H'
theorem throws_try {X : Cx} {pins : List (Addr × Obj)} {Ex : Addr → St → Hp → Prop} : Throws (cxTry X pins Ex) Ex := fun ps σ H sI ea C B fl s' I y os bare hB up q =>
  ⟨ea, C, B, H, fl, σ, sI, rfl, (I.unwish.pins_of fun p hp => (nomatch hp)), y, os, bare, hB, up, q⟩
/-- the suite of an except -/
abbrev cxSuite (X : Cx) (pins : List (Addr × Obj)) (ea : Addr) : Cx := { X with pn := X.pn ++ pins, A := X.A.mark (some (.ref ea)), calm := false, xe := fun _ _ => False }

/-- an exception's own object -/
def ExcO (C : Addr) (o : Obj) : Prop := o.cls = .ref C ∧ o.dict = none ∧ ∃ vs, o.data = .fields vs
/-- the exception lands: the suite's ground -/
theorem land {X : Cx} {pins : List (Addr × Obj)} {σ : St} {H : Hp} {sI s' : Shared} {ea C : Addr} {B : Heap} {fl : Value} (hex : X.ex = []) (I : Inv (cxP X pins) [] σ H sI) (y : FlyZ B X.stack ea (.ref C) fl s'.heap) (os : s'.os = sI.os) (bare : AllBare s'.gens)
    (hB : ∀ b o, sI.heap.get? b = some o → b ∉ frs X.stack → B.get? b = some o) (up : sI.heap.UpToSlots s'.heap) :
    H ea = none ∧ ∃ oe, ExcO C oe ∧ s'.heap.get? ea = some oe ∧ Inv (cxSuite X pins ea) [] σ (upd H ea (.frz oe (.own 0))) s' := by
  obtain ⟨st, hn, hl, oe, vs, he, hc, hdi, hd, hz, h2, h1⟩ := y
  have nea : ea ∉ frs X.stack := fun z => by
    obtain ⟨_, o, ho, nf⟩ := hl.mem z
    rw [he] at ho
    cases ho
    exact nf vs hd
  have new : sI.heap.get? ea = none := by
    cases q : sI.heap.get? ea with
    | none => rfl
    | some o =>
      have := hB _ o q nea
      rw [hn] at this
      cases this
  have hH : H ea = none := by
    cases q : H ea with
    | none => rfl
    | some u =>
      obtain ⟨ob, z⟩ := (I.hok ea u q).ex
      rw [new] at z
      cases z
  have keep : ∀ b o, sI.heap.get? b = some o → b ∉ frs X.stack → s'.heap.get? b = some o := fun b o e hb => st b o (hB b o e hb)
  have slot : ∀ b o, sI.heap.get? b = some o → b ∈ frs X.stack → ∃ sl, s'.heap.get? b = some { o with slots := sl } := fun b o e hb => by
    obtain ⟨_, o', ho', nf⟩ := I.stack.mem (show b ∈ (cxP X pins).stack.filterMap (·.frame) from hb)
    rw [e] at ho'
    cases ho'
    exact up b o e nf
  have I1 : Inv (cxP X pins) [] σ H s' := I.call' (ch := []) os ⟨fun b o e _ hb _ => keep b o e hb, fun b o e _ hb _ => slot b o e hb, fun _ _ _ n _ => n, fun b o e _ => ?_, fun _ _ e => e, fun _ _ _ e => e, fun b ps e => ⟨#[], by rw [e]; simp⟩⟩
    (fun b u e => (I.hok b u e).stay (fun c v hc q => keep c v q fun z => ?_) (fun _ q => q) fun _ _ q => q) bare fun b z => absurd z (by simp)
  · have nel : ea ≠ X.env.locals := fun z => by
      obtain ⟨m, ⟨o, es, ep, ho, hdd, _⟩, _⟩ := I1.loc
      have ho' : s'.heap.get? ea = some o := by rw [z]; exact ho
      rw [he] at ho'
      cases ho'
      rw [hd] at hdd
      cases hdd
    refine ⟨hH, oe, ⟨hc, hdi, vs, hd⟩, he, ⟨⟨I1.ok.mod, I1.ok.kind, I1.ok.glob, I1.ok.blt, I1.ok.above, I1.ok.inj, I1.ok.has, I1.ok.cab, fun z => (nomatch z), I1.ok.frames, I1.ok.stk, I1.ok.exf, I1.ok.bs, I1.ok.bsz, I1.ok.noex, I1.ok.exfs, I1.ok.funs, I1.ok.frf⟩, I1.os, I1.bare,
      ⟨I1.base.keep, I1.base.slot, fun b o e n hx => ?_, I1.base.there, fun b xs e => ?_, fun b o u e => ?_, fun b ps e => ?_⟩, I1.loc, I1.cell, ?_, fun x c e => ?_, fun p hp => ?_, I1.hok.add hH ⟨he, oe, he⟩, I1.len, .inr ⟨ea, oe, vs, rfl, upd_same, hd, h2, C, hc⟩⟩⟩
    · obtain ⟨o', z⟩ := I.base.there b o e hx
      rw [upd_ne (fun w => by rw [w, new] at z; cases z)]
      exact I1.base.free b o e n hx
    · have z := I1.base.tups b xs e
      rw [upd_ne (ne_of_none z hH)]
      exact z
    · have z := I1.base.frzs b o u e
      rw [upd_ne (ne_of_none z hH)]
      exact z
    · obtain ⟨more, z⟩ := I1.base.tbls b ps e
      exact ⟨more, by rw [upd_ne (ne_of_none z hH)]; exact z⟩
    · rw [upd_ne (Ne.symm nel)]
      exact I1.free
    · have nc : c ≠ ea := fun w => by
        obtain ⟨v, o, ho, hdd⟩ := I1.cell x c e
        rw [w, he] at ho
        cases ho
        rw [hd] at hdd
        cases hdd
      rw [upd_ne nc]
      exact I1.freeC x c e
    · obtain ⟨a, b, c, d, f⟩ := I1.pin p hp
      refine ⟨a, ?_, c, d, f⟩
      rw [upd_ne fun w => ?_]
      · exact b
      · have := (I.pin p hp).1
        rw [w, new] at this
        cases this
  · by_cases hb : b ∈ frs X.stack
    · obtain ⟨sl, z⟩ := slot b o e hb
      exact ⟨_, z⟩
    · exact ⟨o, keep b o e hb⟩
  · have zf : H c = none := I.stkFree c z
    rcases hc with w | w
    · rw [w] at zf
      rw [zf] at e
      cases e
    · rw [zf] at w
      cases w

/-- a name is unbound -/
theorem Inv.unbound {X : Cx} {pins : List (Addr × Obj)} {σ : St} {H : Hp} {s : Shared} {i : Nat} {n : Str} {m : Str → Option Value} {v : Option Value} {h' : Heap} {tk : Nat} (I : Inv X pins σ H s) (hN : X.N.Nodup) (hi : X.N[i]? = some n)
    (hm : s.heap.Ns X.env.locals m ∧ ∀ (i : Nat) (x : Str) (v : V), X.N[i]? = some x → σ[i]? = some (some v) → Vis X.env.scope x → ∃ u, RelV v u ∧ Look X.env s.heap m x u)
    (hn' : h'.Ns X.env.locals (fun x => if x = n then v else m x)) (hs : Heap.SameBut X.env.locals s.heap h') : Inv X pins (σ.set i none) H { s with heap := h', toks := tk } := by
  obtain ⟨oL, _, _, hoL, _⟩ := id hm.1
  have hiσ : i < σ.length := by rw [I.len]; exact (List.getElem?_eq_some_iff.mp hi).1
  have ne0 : ∀ b o, X.s₀.heap.get? b = some o → b ≠ X.env.locals := fun b o e => Nat.ne_of_lt (Nat.lt_of_lt_of_le (Heap.lt_size e) I.ok.above)
  refine ⟨I.ok, I.os, I.bare, ⟨fun b o e n hb hx => (hs.2 b (ne0 b o e)).trans (I.base.keep b o e n hb hx), fun b o e n hb hx => ?_, I.base.free, fun b o e hx => ?_, I.base.tups, I.base.frzs, I.base.tbls⟩, ⟨_, hn', fun j y w e1 e2 e3 => ?_⟩, fun y c e => ?_, I.free, I.freeC, fun p hp => ?_,
    I.hok.but I.free fun b u hb e => (hs.2 b hb).trans e, by simpa using I.len, I.hdk⟩
  · obtain ⟨sl, z⟩ := I.base.slot b o e n hb hx
    exact ⟨sl, (hs.2 b (ne0 b o e)).trans z⟩
  · obtain ⟨o', z⟩ := I.base.there b o e hx
    exact ⟨o', (hs.2 b (ne0 b o e)).trans z⟩
  · by_cases hj : j = i
    · subst hj
      rw [List.getElem?_set_self hiσ] at e2
      cases e2
    · rw [List.getElem?_set_ne (Ne.symm hj)] at e2
      obtain ⟨u, r, l⟩ := hm.2 j y w e1 e2 e3
      refine ⟨u, r, ?_⟩
      have hy : y ≠ n := fun q => hj (nodup_ix hN e1 (q ▸ hi))
      rcases l with ⟨k1, k2⟩ | ⟨k1, c, e, z⟩
      · exact .inl ⟨k1, by simp [hy, k2]⟩
      · exact .inr ⟨k1, c, e, z.sameBut hs (I.cne y c e)⟩
  · obtain ⟨w, z⟩ := I.cell y c e
    exact ⟨w, z.sameBut hs (I.cne y c e)⟩
  · obtain ⟨a, b, c, d, f⟩ := I.pin p hp
    exact ⟨(hs.2 p.1 c).trans a, b, c, d, f⟩
theorem Inv.unsuite {X : Cx} {pins : List (Addr × Obj)} {σ : St} {H : Hp} {s : Shared} {ea : Addr} (ok : X.Ok) (hh : X.A.handled = none) (I : Inv (cxSuite X pins ea) [] σ H s) : Inv X pins σ H s :=
  ⟨ok, I.os, I.bare, I.base, I.loc, I.cell, I.free, I.freeC, fun p hp => I.pin p (by show p ∈ (X.pn ++ pins) ++ []; simpa using hp), I.hok, I.len, .inl hh⟩

/-- i: the slot of n; D: the class that is caught; tb: the body, by what is wanted of an exception; ts: the suite -/
def tTry (K : PySem.W.Frag) (i : Nat) (D : Addr) (tb : (Addr → St → Hp → Prop) → TS) (ts : TS) : TS := fun Z σ H =>
  tb (fun C σ' H' => ErrK K C ∧ PySem.W.mroIn K C (.ref D) = some true ∧ ∀ ea oe, H' ea = none → ExcO C oe →
    ts { nx := fun σ2 H2 => Z.nx (σ2.set i none) H2, rt := Z.rt, bk := fun σ2 H2 => Z.bk (σ2.set i none) H2, ct := fun σ2 H2 => Z.ct (σ2.set i none) H2 } (σ'.set i (some (.ref ea))) (upd H' ea (.frz oe (.own 0)))) Z σ H
theorem ps_try {X : Cx} {i : Nat} {D : Addr} {x n : Str} {np hpos pos : Pos} {body : List Stmt} {b₀ : Stmt} {suite : List Stmt} {tb : (Addr → St → Hp → Prop) → TS} {ts : TS} (hc : X.calm = true) (hex : X.ex = []) (hstk : X.stack = X.env :: X.outer ∧ X.env.frame = some X.env.locals)
    (hN : X.N.Nodup) (hi : X.N[i]? = some n) (hlo : X.env.scope.names.lookup n = some .local) (OD : ErrK X.K D) (hg : Gl X x) (hm : X.mg x = some (.ref D))
    (hb : ∀ pins Ex, PSs (cxTry X pins Ex) body (tb Ex)) (hs : ∀ pins ea, PSs (cxSuite X pins ea) (b₀ :: suite) ts) (hdb : (x == ("__debug__" : Str)) = false := by decide) :
    PS X (.Try body [.ExceptHandler (some (.Name x np)) (some n) (b₀ :: suite) hpos] [] [] pos) (tTry X.K i D tb ts) := by
  intro pins s σ H Z I h
  have hh : X.A.handled = none := I.ok.hd hc
  have hp : (X.env.scope.kind == .class || (X.env.scope.kind == .module && X.env.locals != X.env.globals)) = false := by rw [I.ok.kind]; rfl
  refine wpAny_Try_except (wpAny_mono (hb pins _ [] s σ H Z (I.p.wish _) h) (fun f s1 q => ?_) fun e s1 q => ?_)
  · cases f with
    | next =>
      obtain ⟨σ', H', J, q⟩ := q
      exact wpAny_execs_nil ⟨σ', H', Inv.unp I.ok J.unwish, q⟩
    | brk => obtain ⟨σ', H', J, q⟩ := q; exact ⟨σ', H', Inv.unp I.ok J.unwish, q⟩
    | cont => obtain ⟨σ', H', J, q⟩ := q; exact ⟨σ', H', Inv.unp I.ok J.unwish, q⟩
    | ret u => obtain ⟨v, σ', H', J, r, q⟩ := q; exact ⟨v, σ', H', Inv.unp I.ok J.unwish, r, q⟩
  · obtain ⟨ea, C, B, H', fl, σ', sI, rfl, J, y, os, bare, hB, up, OC, sub, want⟩ := q
    have fr : X.A.frames = some (X.env :: X.outer) := by rw [I.ok.frames, hstk.1]
    rw [hstk.1] at y
    refine fly_note fr hstk.2 y fun h2 y2 u2 => fly_flight (s := { s1 with heap := h2 }) y2 fun h3 y3 u3 => ?_
    have y3' : FlyZ B X.stack ea (.ref C) .none h3 := by rw [hstk.1]; exact y3
    have up3 := (up.trans u2).trans u3
    obtain ⟨_, oe3, c3, g3, J3⟩ := land (s' := { s1 with heap := h3 }) hex J y3' os bare hB up3
    obtain ⟨cdC, cC, eC⟩ := OC.obj J3.kIn
    obtain ⟨cdD, cD, eD⟩ := OD.obj J3.kIn
    have hsub : cdC.mro.contains (.ref D) = true := by
      unfold PySem.W.mroIn at sub
      rw [cC] at sub
      simp only [Option.bind_some] at sub
      split at sub
      · cases sub
      · exact Option.some.inj sub
    refine wpAny_handleBy_cons (codeAny_handlers_test (ld_glob (X := cxSuite X pins ea) J3 hg hm ?_ hdb)) (by intro q; cases q)
    refine exc_matches (h := h3) (g := s1.gens) (d := s1.drawn) (t := s1.toks) (os := s1.os) eC eD g3 c3.1 hsub ?_
    refine codeAny_handlers_suite_as ?_
    refine fly_flight (s := { s1 with heap := h3 }) y3 fun h4 y4 u4 => ?_
    have y4' : FlyZ B X.stack ea (.ref C) .none h4 := by rw [hstk.1]; exact y4
    obtain ⟨hH4, oe4, c4, g4, J4⟩ := land (s' := { s1 with heap := h4 }) hex J y4' os bare hB (up3.trans u4)
    refine store_ok (X := cxSuite X pins ea) (i := i) (v := .ref ea) J4 hN hi (.inl hlo) rfl (fun s5 J5 => ?_) (.inr hlo)
    refine wpAny_mono (hs pins ea [] s5 _ _ _ J5 (want ea oe4 hH4 c4)) (fun f s6 q6 => ?_) fun _ _ z => z.elim
    have go : ∀ {σ7 : St} {H7 : Hp}, Inv (cxSuite X pins ea) [] σ7 H7 s6 → (∀ s7, Inv X pins (σ7.set i none) H7 s7 → SP X pins Z f s7) →
        wpAny (model X.prog X.w) X.A (do bindName X.env n .none; unbindBehindTheSuite X.env n hpos) (fun _ s7 => SP X pins Z f s7) X.xe s6 := fun {σ7 H7} J7 k => by
      have J8 := Inv.unsuite I.ok hh J7
      obtain ⟨m, hns, hl⟩ := id J8.loc
      exact wpAny_nameGoes_keeps hlo hns hp fun h' v hn' hsb => k _ (J8.unbound hN hi ⟨hns, hl⟩ hn' hsb)
    cases f with
    | next => obtain ⟨σ7, H7, J7, q7⟩ := q6; exact go J7 fun s7 I7 => ⟨_, _, I7, q7⟩
    | brk => obtain ⟨σ7, H7, J7, q7⟩ := q6; exact go J7 fun s7 I7 => ⟨_, _, I7, q7⟩
    | cont => obtain ⟨σ7, H7, J7, q7⟩ := q6; exact go J7 fun s7 I7 => ⟨_, _, I7, q7⟩
    | ret u => obtain ⟨v, σ7, H7, J7, r7, q7⟩ := q6; exact go J7 fun s7 I7 => ⟨v, _, _, I7, r7, q7⟩
end L2
set_option Elab.async false
set_option linter.all false
set_option maxRecDepth 100000
set_option maxHeartbeats 4000000
namespace L2
open PySem PySem.Spec PyProof.Rows PySem.W
section
variable {prog : Program} {w : World} {A : Around} {E : Value → Shared → Prop} {K : Frag} {h : Heap} {g : Array GenState} {d : Drawn} {t : Nat} {os : OsState} {e C : Addr} {oe : Obj}
theorem exc_getattribute {tk : Tok} {Q : Fin → Shared → Prop} (X : K.In h) (I : InstAt h e oe C none) (f3 : findIn K (.ref C) "__class__" = some (some (.builtin "object.__class__"))) (hm : mroIn K C (.type "object") = some true)
    (hq : Q (.done (.ret (.ref C))) ⟨h, g, d, t, os⟩) : wpAny (model prog w) A (Builtin.«object.__getattribute__» ⟨[.ref e, .str "__class__" tk], []⟩) Q E ⟨h, g, d, t, os⟩ := by
  have L0 := I.type (M := model prog w)
  have L3 := looks_findIn (M := model prog w) X f3
  have f5 := F.typeOf_object_class
  have f6 := F.slot_gs_get.lookup
  have f7 := F.slot_gs_set.lookup
  repeat (any_goals (first | assumption | with_reducible refine L0.at ?_ | with_reducible refine L3.at ?_ | wp_step))
  exact class_get (s := ⟨h, g, d, t, os⟩) X I hm (wpAny_pure hq)
theorem exc_check {nameV : Value} {Q : Unit → Shared → Prop} (X : K.In h) (I : InstAt h e oe C none) (hb : mroIn K C (.type "BaseException") = some true) (hq : Q () ⟨h, g, d, t, os⟩) :
    wpAny (model prog w) A (checkBuiltinCall "BaseException.__getattribute__" ⟨[.ref e, nameV], []⟩) Q E ⟨h, g, d, t, os⟩ := by
  have L0 := I.type (M := model prog w)
  have L4 := looks_mroIn (M := model prog w) X hb
  have c1 : builtinKind "BaseException.__getattribute__" = some .slot := by decide +kernel
  have c2 : splitId "BaseException.__getattribute__" = some ("BaseException", "__getattribute__") := by decide +kernel
  have c3 := F.args_bexc_ga (.ref e) nameV
  simp only [checkBuiltinCall, c1, c2]
  refine wpAny_bind ?_
  unfold isInstance
  repeat (first | with_reducible refine L0.at ?_ | with_reducible refine L4.at ?_ | wp_step)
  exact hq
theorem exc_class {Q : Option Value → Shared → Prop} (X : K.In h) (I : InstAt h e oe C none) (f1 : findIn K (.ref C) "__getattribute__" = some (some (.builtin "BaseException.__getattribute__"))) (f2 : findIn K (.ref C) "__getattr__" = some none)
    (f3 : findIn K (.ref C) "__class__" = some (some (.builtin "object.__class__"))) (hm : mroIn K C (.type "object") = some true) (hb : mroIn K C (.type "BaseException") = some true) (hq : Q (some (.ref C)) ⟨h, g, d, t + 1, os⟩) :
    wpAny (model prog w) A (getAttr? (.ref e) "__class__") Q E ⟨h, g, d, t, os⟩ := by
  have L0 := I.type (M := model prog w)
  have L1 := looks_findIn (M := model prog w) X f1
  have L2 := looks_findIn (M := model prog w) X f2
  have f4 := PySem.F.attr_ValueError.ga.bind (.ref e)
  have x2 : (Value.builtin "BaseException.__getattribute__" == Value.builtin "object.__getattribute__") = false := by decide +kernel
  have x1 : (onTheHeap (Value.ref C) && Value.builtin "BaseException.__getattribute__" == Value.builtin "object.__getattribute__") = false := by rw [x2]; rfl
  have x0 : (false && onTheHeap (Value.builtin "BaseException.__getattribute__")) = false := rfl
  unfold getAttr? getAttrBy?
  refine wpAny_bind (wpAny_mkText (wpAny_bind (wpAny_attempt ?_)))
  repeat (any_goals (first | assumption | with_reducible refine L0.at ?_ | with_reducible refine L1.at ?_ | with_reducible refine L2.at ?_ | wp_step))
  refine codeAny_call_builtin PySem.F.attr_ValueError.ga.plain F.entry_bexc_ga (exc_check X I hb (exc_getattribute X I f3 hm ?_))
  repeat (any_goals (first | assumption | wp_step))
/-- what isinstance asks of an exception's class -/
structure ErrC (K : Frag) (C : Addr) : Prop where
  err : ErrK K C
  ga : findIn K (.ref C) "__getattribute__" = some (some (.builtin "BaseException.__getattribute__"))
  gr : findIn K (.ref C) "__getattr__" = some none
  cl : findIn K (.ref C) "__class__" = some (some (.builtin "object.__class__"))
  ob : mroIn K C (.type "object") = some true
  ba : mroIn K C (.type "BaseException") = some true
theorem kitx_exc (O : ErrC K C) : KitX K (.ref e) (.ref C) (fun h => InstAt h e oe C none) where
  ty := fun _ _ _ I => I.type
  it := fun M h X I => by
    obtain ⟨cd, _, ⟨bm, N, nm, q, bs, hdct, sn, sub, ab, col, dd, k0, k1, k2, k3, k5, mN, _, hC, _⟩⟩ := O.err.obj X
    intro A' Q' E' s' k q'
    unfold isType loadHead
    exact wpAny_bind (wpAny_loadPart (k _ _ hC) (wpAny_pure q'))
  ne := fun h tp dd its n sl X htp => by
    obtain ⟨cd, _, ⟨bm, N, nm, q, bs, hdct, sn, sub, ab, col, d1, k0, k1, k2, k3, k5, mN, _, hC, _⟩⟩ := O.err.obj X
    refine Bool.eq_false_iff.mpr fun z => ?_
    have ec : C = tp := Value.ref.inj (beq_iff_eq.mp z)
    subst ec
    have wd := congrArg Obj.data (Option.some.inj (hC.symm.trans htp))
    cases wd
  ca := fun {prog w A E Q s} X I k => by
    obtain ⟨h, g, d, t, os⟩ := s
    exact exc_class X I O.ga O.gr O.cl O.ob O.ba k
end
/-! ### isinstance -/
/-- a class as a value -/
def clsV : V → Option Value
  | .ref a => some (.ref a)
  | .ty n => some (.type n)
  | _ => none
inductive TyX (K : Frag) (H : Hp) : V → Value → Prop where
  | of {x : V} {t : Value} (h : TyOf K H x t) : TyX K H x t
  | exc {a C : Addr} {o : Obj} (e : H a = some (.frz o (.own 0))) (ho : ExcO C o) (O : ErrC K C) : TyX K H (.ref a) (.ref C)
def rIsi (K : Frag) : List V → Hp → VK → Prop := fun xs H Q => ∃ x c t u b, xs = [x, c] ∧ clsV c = some u ∧ TyX K H x t ∧ kitOne K t u = some b ∧ Q (.bl b) H
theorem call_isi {X : Cx} : CallR X (.builtin "isinstance") (rIsi X.K) := by
  intro pins s σ H xs us Q I r h
  obtain ⟨x, c, t, u, b, rfl, hc, ty, hk, q⟩ := h
  cases r with
  | cons r1 rr =>
    cases rr with
    | cons r2 rr =>
      cases rr
      rename_i v1 v2
      have e2 : v2 = u := by
        cases c with
        | ref a => cases hc; exact r2
        | ty n => cases hc; exact r2
        | _ => cases hc
      subst e2
      cases ty with
      | of ty => exact isinst_ok I r1 ty hk fun tk => ⟨.bl b, H, I.tok tk, rfl, q⟩
      | exc e ho O =>
        rename_i a C o
        obtain rfl : v1 = Value.ref a := r1
        obtain ⟨z, _⟩ := I.hok a _ e
        obtain ⟨c1, c2, vs, c3⟩ := ho
        have J : InstAt s.heap a o C none := ⟨z, c1, by unfold notCls; rw [c3], by rw [c2]; trivial⟩
        exact kia_one (kitx_exc O) I.kIn J hk (fun w => nomatch w) fun tk => ⟨.bl b, H, I.tok tk, rfl, q⟩
end L2
set_option Elab.async false
set_option linter.all false
set_option maxRecDepth 100000
set_option maxHeartbeats 4000000
namespace L2
open PySem PySem.Spec PyProof.Rows

/-! ### the end of a walk, while an exception is handled too -/
def Hnd (A : Around) (h : Heap) : Prop := A.handled = none ∨ ∃ (a : Addr) (o : Obj) (vs : Array Value), A.handled = some (.ref a) ∧ h.get? a = some o ∧ o.data = .fields vs ∧ vs[2]? = some .none ∧ ∃ C, o.cls = .ref C
theorem Inv.hnd {X : Cx} {pins : List (Addr × Obj)} {σ : St} {H : Hp} {s : Shared} (I : Inv X pins σ H s) : Hnd X.A s.heap := by
  rcases I.hdk with h | ⟨a, o, vs, h1, h2, h3⟩
  · exact .inl h
  · exact .inr ⟨a, o, vs, h1, (I.hok a _ h2).1, h3⟩
theorem Hnd.keeps {A : Around} {h h' : Heap} (x : Hnd A h) (k : ∀ b o, (∃ C, o.cls = .ref C) → h.get? b = some o → h'.get? b = some o) : Hnd A h' := by
  rcases x with x | ⟨a, o, vs, h1, h2, h3, h4, h5⟩
  · exact .inl x
  · exact .inr ⟨a, o, vs, h1, k a o h5 h2, h3, h4, h5⟩
theorem entry_unchain : entryFor table "proto.unchain" = some Builtin.«proto.unchain» := entryFor_of_tree (by kernel_rfl)
section
variable {prog : Program} {w : World} {A : Around} {E : Value → Shared → Prop} {s : Shared}
theorem raise_fresh {α : Type} {e : Addr} {oe : Obj} {ws : Array Value} {Q : α → Shared → Prop} (hh : Hnd A s.heap) (he : s.heap.get? e = some oe) (hd : oe.data = .fields ws) (hz : 2 < ws.size) (hc : ∀ C, oe.cls ≠ .ref C)
    (k : ∀ h', Heap.SameBut e s.heap h' → (∃ o, h'.get? e = some o ∧ o.cls = oe.cls) → E (.ref e) { s with heap := h' }) : wpAny (model prog w) A (raiseNew (.ref e) : Sem α) Q E s := by
  unfold raiseNew
  refine wpAny_bind (wpAny_handled ?_)
  rcases hh with hh | ⟨a, o, vs, h1, h2, h3, h4, C, h5⟩
  · rw [hh]
    exact wpAny_bind (wpAny_pure (wpAny_throw (k s.heap (Heap.SameBut.refl _ _) ⟨oe, he, rfl⟩)))
  · rw [h1]
    have ne : a ≠ e := fun z => by rw [z, he] at h2; cases h2; exact hc C h5
    dsimp only
    rw [if_pos (show (Value.ref a != Value.ref e) = true by simpa using ne)]
    refine wpAny_bind (wpAny_holding (wpAny_runValue (codeAny_builtin entry_unchain ?_)))
    refine wpAny_bind (m := field (.ref a) 2) (wpAny_field h2 h3 h4 ?_)
    rw [if_pos (show (Value.none == Value.none) = true by rfl)]
    refine wpAny_pure (wpAny_bind ?_)
    show wpAny _ _ (setField (.ref e) 2 (.ref a)) _ _ _
    have dd := Obj.data_mapFields hd (·.setIfInBounds 2 (Value.ref a))
    exact wpAny_setField he hd hz (wpAny_throw (k _ (Heap.SameBut.update ..) ⟨_, Heap.get?_update_self _ he (Obj.isFreed_of_fields dd), Obj.cls_mapFields _ _⟩))
theorem stop_raised {α : Type} {Q : α → Shared → Prop} (hh : Hnd A s.heap) (k : ∀ h' e, (∀ b o, s.heap.get? b = some o → h'.get? b = some o) → (∃ o, h'.get? e = some o ∧ o.cls = .type "StopIteration") → E (.ref e) { s with heap := h' }) :
    wpAny (model prog w) A (newExc (.type "StopIteration") [] >>= fun e => (raiseNew e : Sem α)) Q E s := by
  refine wpAny_bind ?_
  simp only [newExc, newTuple]
  refine wpAny_bind (wpAny_newObj_type (wpAny_bind (m := firstArgMember _ _) (wpAny_of_eq (a := Value.none) (by first | rfl | (simp only [firstArgMember]; rfl)) (wpAny_newObj_type ?_ (by size_fits)))) (by size_fits))
  have old : ∀ (o1 o2 : Obj) b o, s.heap.get? b = some o → ((s.heap.push o1).push o2).get? b = some o := fun o1 o2 b o q => Heap.get?_push_of_some _ (Heap.get?_push_of_some _ q)
  refine raise_fresh (hh.keeps fun b o _ q => old _ _ b o q) (Heap.get?_push_size _ rfl) rfl (by simp; omega) (fun C z => by cases z) fun h' sb ⟨o, g, c⟩ => k h' _ (fun b o q => ?_) ⟨o, g, c⟩
  refine (sb.2 b (fun z => ?_)).trans (old _ _ b o q)
  have := Heap.lt_size q
  rw [z, Heap.size_push] at this
  exact absurd (Nat.lt_of_succ_lt this) (Nat.lt_irrefl _)
theorem list_last {it l : Addr} {i : Nat} {items : Array Value} {Q : Value → Shared → Prop} (hh : Hnd A s.heap) (hit : s.heap.IsListIter it l i) (hl : s.heap.IsList l items) (hx : items[i]? = none)
    (k : ∀ h' e, Heap.ExtBut it s.heap h' → (∃ o, h'.get? e = some o ∧ o.cls = .type "StopIteration") → E (.ref e) { s with heap := h' }) : wpAny (model prog w) A (Builtin.SmallTypes.nextOf (.ref it)) Q E s := by
  obtain ⟨o, ho, hc, hd⟩ := id hit
  obtain ⟨ol, hol, _, nl, hdl⟩ := hl
  unfold Builtin.SmallTypes.nextOf
  refine wpAny_bind (wpAny_callSpecial?_slot (name := Str.ofString "__next__") hit.typeIs slot_listiter_next (wpAny_call_entry slot_listiter_next hit.typeIs entry_listiter_next ?_ (args_listiter_next _)))
  refine wpAny_bind (m := field (.ref it) 0) (wpAny_field ho hd (x := .ref l) rfl ?_)
  rw [if_neg (show ¬ ((Value.ref l == Value.none) = true) by simp)]
  refine wpAny_bind (m := field (.ref it) 1) (wpAny_field ho hd (x := .int i 0) rfl (wpAny_bind (m := seqItems? (.ref l)) (wpAny_seqItems hol hdl ?_)))
  simp only [Int.toNat_natCast, hx]
  refine wpAny_bind (wpAny_rule (wpAny_bind (wpAny_setField ho hd (by simp) ?_)))
  refine stop_raised (hh.keeps fun b q hq e => (Heap.get?_update_other _ _ fun z => ?_).trans e) fun h' e up st => k h' e (fun b q hb z => up b q ((Heap.get?_update_other _ _ (Ne.symm hb)).trans z)) st
  obtain ⟨C, hC⟩ := hq
  rw [← z, ho] at e
  cases e
  rw [hc] at hC
  cases hC
theorem tup_last {it t : Addr} {i : Nat} {items : Array Value} {Q : Option Value → Shared → Prop} (hh : Hnd A s.heap) (hit : s.heap.IsTupleIter it t i) (ht : s.heap.IsTuple t items) (hx : items[i]? = none)
    (k : ∀ h', Heap.ExtBut it s.heap h' → Q none { s with heap := h' }) : wpAny (model prog w) A (pyNext (.ref it)) Q E s := by
  obtain ⟨o, ho, hc, hd⟩ := id hit
  obtain ⟨ol, hol, _, nl, hdl⟩ := ht
  unfold pyNext
  refine wpAny_bind (wpAny_attempt (wpAny_callSpecial?_slot (name := Str.ofString "__next__") hit.typeIs F.slot_tuple_iterator_next (wpAny_call_entry F.slot_tuple_iterator_next hit.typeIs F.entry_tuple_iterator_next ?_ (F.args_tuple_iterator_next_1 _))))
  refine wpAny_bind (m := field (.ref it) 0) (wpAny_field ho hd (x := .ref t) rfl ?_)
  rw [if_neg (show ¬ ((Value.ref t == Value.none) = true) by simp)]
  refine wpAny_bind (m := field (.ref it) 1) (wpAny_field ho hd (x := .int i 0) rfl (wpAny_bind (m := seqItems? (.ref t)) (wpAny_seqItems hol hdl ?_)))
  simp only [Int.toNat_natCast, hx]
  refine wpAny_bind (wpAny_rule (wpAny_bind (wpAny_setField ho hd (by simp) ?_)))
  refine stop_raised (hh.keeps fun b q hq e => (Heap.get?_update_other _ _ fun z => ?_).trans e) fun h' e up ⟨o', g', c'⟩ =>
    wpAny_bind (wpAny_isInstance (T := "StopIteration") (b := true) ⟨o', g', c'⟩ isSubtype_stop (wpAny_pure (k h' fun b q hb z => up b q ((Heap.get?_update_other _ _ (Ne.symm hb)).trans z))))
  obtain ⟨C, hC⟩ := hq
  rw [← z, ho] at e
  cases e
  rw [hc] at hC
  cases hC
/-- a, b = t -/
theorem unpack_tup {env : Env} {elts : List Expr} {x1} {pos : Pos} {t : Addr} {items : Array Value} {Q : Unit → Shared → Prop} (hh : Hnd A s.heap) (ht : IsTup s.heap t items) (hn : (assignEach elts env).length = items.size) (hstar : (assignEach elts env).findIdx? (·.1) = none)
    (h : ∀ h', Heap.ExtBut s.heap.objs.size s.heap h' → wpAny (model prog w) A (assignInOrder ((assignEach elts env).map (·.2)) items.toList) Q E { s with heap := h' }) : wpAny (model prog w) A (assign (.Tuple elts x1 pos) env (.ref t)) Q E s := by
  have lt : t ≠ s.heap.objs.size := by obtain ⟨o, ho, _⟩ := ht; exact Nat.ne_of_lt (Heap.lt_size ho)
  have all : List.take items.size (List.drop 0 items.toList) = items.toList := by rw [List.drop_zero]; exact List.take_of_length_le (by simp)
  have core : wpAny (model prog w) A (unpackItems (.ref t) items.size none) (fun vs s' => ∃ h', vs = items.toList ∧ s' = { s with heap := h' } ∧ Heap.ExtBut s.heap.objs.size s.heap h') E s := by
    unfold unpackItems
    refine wpAny_bind ?_
    unfold notIterableAtAll
    refine wpAny_bind (wpAny_specialOf ht.typeIs slot_tuple_iter.lookup (wpAny_pure ?_))
    simp only [Bool.false_eq_true, if_false]
    refine wpAny_bind (wpAny_holding (iter_tuple ht (wpAny_bind (wpAny_holding (draw_tuple lt items.size 0 _ _ ⟨_, Heap.get?_push_size _ rfl, rfl, rfl⟩ (ht.push _) (by omega) fun h1 it1 s1 => ?_)))))
    rw [all, if_neg (by simp)]
    have t1 : IsTup h1 t items := (ht.push _).extBut s1.extBut lt
    have up1 : ∀ b o, b ≠ s.heap.objs.size → s.heap.get? b = some o → h1.get? b = some o := fun b o hb e => s1.extBut b o hb (Heap.get?_push_of_some _ e)
    refine wpAny_bind (wpAny_holding (tup_last (s := { s with heap := h1 }) (hh.keeps fun b o _ e => up1 b o (Nat.ne_of_lt (Heap.lt_size e)) e) it1 t1 (by simp) fun h2 e2 => ?_))
    simp only [Option.isSome_none, Bool.false_eq_true, if_false]
    exact wpAny_pure ⟨h2, rfl, rfl, fun b o hb e => e2 b o hb (up1 b o hb e)⟩
  rw [assign_Tuple]
  refine wpAny_bind (wpAny_standAt ?_)
  unfold unpack
  rw [hstar, hn]
  refine wpAny_bind (wpAny_holding (wpAny_mono core (fun vs s' ⟨h', e1, e2, x⟩ => ?_) fun _ _ z => z))
  subst e1 e2
  exact h h' x
end
end L2
set_option Elab.async false
set_option linter.all false
set_option maxRecDepth 100000
set_option maxHeartbeats 4000000
namespace L2
open PySem PySem.Spec PyProof.Rows

/-! ### a, b = t, in any context -/
theorem pg_tupA {X : Cx} {pos : Pos} {es : List Expr} {k : Nat} {t : TGs} {n : Nat} (h : PGs X es t) (hl : (assignEach es X.env).length = n := by rfl) (hst : (assignEach es X.env).findIdx? (·.1) = none := by rfl) : PG X (.Tuple es k pos) (gTup X.K n t) := by
  intro pins s σ H v u Q I r q
  obtain ⟨a, xs, rfl, hx, hn, q⟩ := q
  obtain rfl : u = Value.ref a := r
  obtain ⟨its, rv, ht, hz⟩ := I.tuple hx
  refine unpack_tup I.hnd ht (by rw [hl, ← hn, rv.length]; simp) hst fun h' ex => ?_
  have I1 : Inv X pins σ H { s with heap := h' } := I.kept (t' := s.toks) fun b o e => ex b o (Nat.ne_of_lt (Heap.lt_size e)) e
  have := h pins { s with heap := h' } σ H xs its Q I1 rv q
  simpa using this

/-! ### zip of two lists of which the first is not the longer one -/
section
variable {prog : Program} {w : World} {A : Around} {E : Value → Shared → Prop} {s : Shared}
theorem zip_last {z TI TO i1 i2 l1 l2 : Addr} {k1 : Nat} {xs : Array Value} {a b : Value} {Q : Option Value → Shared → Prop} (hh : Hnd A s.heap) (D : ZipApart z TI TO i1 i2 l1 l2) (hz : IsZip s.heap z TI TO .none) (hTI : IsPair s.heap TI (.ref i1) (.ref i2)) (hTO : IsPair s.heap TO a b)
    (h1 : s.heap.IsListIter i1 l1 k1) (hl1 : s.heap.IsList l1 xs) (hx : xs[k1]? = none)
    (k : ∀ h', (∀ c o, c ≠ z → c ≠ i1 → s.heap.get? c = some o → h'.get? c = some o) → Q none { s with heap := h' }) : wpAny (model prog w) A (pyNext (.ref z)) Q E s := by
  have hT : s.TypeIs (.ref z) "zip" := ⟨_, hz, rfl⟩
  have core : ∀ (Q' : Fin → Shared → Prop) (E' : Value → Shared → Prop), (∀ h' e, (∀ c o, c ≠ z → c ≠ i1 → s.heap.get? c = some o → h'.get? c = some o) → (∃ o, h'.get? e = some o ∧ o.cls = .type "StopIteration") → E' (.ref e) { s with heap := h' }) →
      wpAny (model prog w) A.in1 (Builtin.«zip.__next__» ⟨[.ref z], []⟩) Q' E' s := by
    intro Q' E' kE
    refine wpAny_bind (m := field (.ref z) 2) (wpAny_field hz rfl (x := .bool false) rfl (wpAny_bind (m := field (.ref z) 3) (wpAny_field hz rfl (x := .ref TI) rfl (wpAny_bind (wpAny_seqItems hTI rfl (wpAny_bind (m := Builtin.SmallTypes.ownedTupleIsFree (.ref z)) ?_))))))
    unfold Builtin.SmallTypes.ownedTupleIsFree
    refine wpAny_bind (wpAny_field hz rfl (x := .none) rfl (wpAny_pure ?_))
    simp only [if_true]
    refine wpAny_bind (wpAny_rule (wpAny_bind (wpAny_field hz rfl (x := .ref TO) rfl (wpAny_bind (wpAny_setField_rec hz (by simp) fun g1 z1 s1 => ?_)))))
    refine wpAny_bind ?_
    simp only [List.zipIdx_cons, List.zipIdx_nil, List.forIn_cons, List.forIn_nil]
    refine wpAny_bind (wpAny_bind (wpAny_onRaise (wpAny_bind (m := Builtin.SmallTypes.nextOf (.ref i1)) ?_)))
    have hh1 : Hnd A.in1 g1 := Hnd.keeps (h := s.heap) hh fun c o ⟨C, hC⟩ e => s1.extBut c o (fun q => by rw [q, hz] at e; cases e; cases hC) e
    refine list_last (s := { s with heap := g1 }) hh1 (h1.extBut s1.extBut D.i1z) (hl1.extBut s1.extBut D.l1z) hx fun g2 e s2 st => ?_
    obtain ⟨oe, ge, ce⟩ := st
    have z2 : IsZip g2 z TI TO .ellipsis := s2 _ _ D.i1z.symm z1
    have ez : e ≠ z := fun q => by rw [q, z2] at ge; cases ge; simp at ce
    exact wpAny_setField_rec z2 (by simp) fun g3 _ s3 => kE g3 e (fun c o c1 c2 q => s3.extBut _ _ c1 (s2 _ _ c2 (s1.extBut _ _ c1 q))) ⟨oe, s3.extBut _ _ ez ge, ce⟩
  unfold pyNext
  refine wpAny_bind (wpAny_attempt (wpAny_callSpecial?_slot (name := Str.ofString "__next__") hT F.slot_zip_next (wpAny_call_entry F.slot_zip_next hT F.entry_zip_next (core _ _ fun h' e up st => ?_) (F.args_zip_next_1 _))))
  obtain ⟨o, g, c⟩ := st
  exact wpAny_bind (wpAny_isInstance (T := "StopIteration") (b := true) ⟨o, g, c⟩ isSubtype_stop (wpAny_pure (k h' up)))
end

/-- the pairs of the lists at a, b -/
def Itz (K : PySem.W.Frag) (a b : Addr) : It :=
  ⟨fun i H => ∃ xs ys x y, SqL K H a xs ∧ SqL K H b ys ∧ xs[i]? = some x ∧ ys[i]? = some y, fun i H v H' => ∃ T x y, H T = none ∧ v = .ref T ∧ H' = upd H T (.tup [x, y]) ∧ (∀ xs, SqL K H a xs → xs[i]? = some x) ∧ ∀ ys, SqL K H b ys → ys[i]? = some y,
    fun i H => ∃ xs ys, SqL K H a xs ∧ SqL K H b ys ∧ xs.length ≤ i⟩
structure ZipSt (z TI TO i1 i2 l1 l2 : Addr) (i : Nat) (h : Heap) : Prop where
  z : IsZip h z TI TO .none
  ti : IsPair h TI (.ref i1) (.ref i2)
  to : ∃ a b, IsPair h TO a b
  a : h.IsListIter i1 l1 i
  b : h.IsListIter i2 l2 i
theorem ZipSt.keep {z TI TO i1 i2 l1 l2 : Addr} {i : Nat} {h h' : Heap} (x : ZipSt z TI TO i1 i2 l1 l2 i h) (k : ∀ b ∈ [z, TI, TO, i1, i2], ∀ o, h.get? b = some o → h'.get? b = some o) : ZipSt z TI TO i1 i2 l1 l2 i h' := by
  obtain ⟨a1, a2, ⟨u, v, a3⟩, a4, a5⟩ := x
  exact ⟨k _ (by simp) _ a1, k _ (by simp) _ a2, ⟨u, v, k _ (by simp) _ a3⟩, a4.at fun o e => k _ (by simp) o e, a5.at fun o e => k _ (by simp) o e⟩
theorem turn_zip {P : Program} {w : World} {K : PySem.W.Frag} {elts : List Expr} {kk : Nat} {tp : Pos} {l1 l2 z TI TO i1 i2 : Addr} (D : ZipApart z TI TO i1 i2 l1 l2) :
    Turn false P w K (.Tuple elts kk tp) (Itz K l1 l2) [z, TI, TO, i1, i2] z (ZipSt z TI TO i1 i2 l1 l2) where
  mem := by simp
  obj := fun i h st b hb => by
    obtain ⟨a1, a2, ⟨u, v, a3⟩, ⟨o4, a4, _, d4⟩, ⟨o5, a5, _, d5⟩⟩ := st
    simp only [List.mem_cons, List.not_mem_nil, or_false] at hb
    rcases hb with rfl | rfl | rfl | rfl | rfl
    · exact ⟨_, a1, fun v q => nomatch q⟩
    · exact ⟨_, a2, fun v q => nomatch q⟩
    · exact ⟨_, a3, fun v q => nomatch q⟩
    · exact ⟨_, a4, fun v q => by rw [d4] at q; cases q⟩
    · exact ⟨_, a5, fun v q => by rw [d5] at q; cases q⟩
  keep := fun i h h' st k => st.keep k
  item := by
    intro X hP hw hK hc i pins s σ H E I hf st hg
    subst hP hw hK
    obtain ⟨xs, ys, x, y, hq1, hq2, hx, hy⟩ := hg
    obtain ⟨is1, rv1, p1, hz1⟩ := I.list hq1
    obtain ⟨is2, rv2, p2, hz2⟩ := I.list hq2
    obtain ⟨u1, hu1, ru1⟩ := rv1.get hx
    obtain ⟨u2, hu2, ru2⟩ := rv2.get hy
    obtain ⟨a1, a2, ⟨u, v, a3⟩, a4, a5⟩ := st
    refine wpAny_pyNext_zip_item D a1 a2 a3 a4 a5 p1.isList p2.isList (x := u1) (y := u2) (by simpa using hu1) (by simpa using hu2) fun h' b1 b2 b3 b4 b5 b6 b7 => ?_
    refine ⟨_, rfl, wpAny_letOwnedTupleGo_zip (s := { s with heap := h' }) b1 fun h2 c1 c2 => ?_⟩
    have zlt : z < s.heap.objs.size := Heap.lt_size a1
    have nz : s.heap.objs.size ≠ z := Nat.ne_of_gt zlt
    have all : ∀ c o, c ≠ z → c ≠ TO → c ≠ i1 → c ≠ i2 → s.heap.get? c = some o → h2.get? c = some o := fun c o n1 n2 n3 n4 e => c2.extBut c o n1 (b7 c o n1 n2 n3 n4 e)
    have tT : h2.get? s.heap.objs.size = some { cls := .type "tuple", data := .seq #[u1, u2] } := c2.extBut _ _ nz b5
    have hfr : H s.heap.objs.size = none := I.hok.fresh (Nat.le_refl _)
    have hok0 : HOk X.prog X.w H h2 := fun b u e => by
      refine (I.hok b u e).stay (fun c v hc q => ?_) (fun _ q => q) fun _ _ q => q
      have hne : ∀ d ∈ [z, TI, TO, i1, i2], c ≠ d := fun d hd w => by
        have fd := (hf d hd).1
        rcases hc with k | k
        · rw [k] at w; rw [w, fd] at e; cases e
        · rw [w, fd] at k; cases k
      exact all c v (hne z (by simp)) (hne TO (by simp)) (hne i1 (by simp)) (hne i2 (by simp)) q
    have lt0 : ∀ b o, s.heap.get? b = some o → b ≠ s.heap.objs.size := fun b o e => Nat.ne_of_lt (Heap.lt_size e)
    have I2 : Inv X pins σ (upd H s.heap.objs.size (.tup [x, y])) { s with heap := h2 } := by
      refine I.step (g' := s.gens) (d' := s.drawn) (t' := s.toks) (ch := [z, TO, i1, i2]) (fun b hb => ?_) (fun b o _ _ hb e _ => ?_) (fun b o _ _ hb e _ => ?_) (fun b o _ e n => ?_) (fun b o hb e => ?_) (fun b ps e => ?_) (fun b o u e => ?_) (fun b ps e => ?_) (fun m hm => ?_) (hok0.add hfr ?_) I.bare
      · have hb' : b ∈ [z, TI, TO, i1, i2] := by simp only [List.mem_cons, List.not_mem_nil, or_false] at hb ⊢; rcases hb with h | h | h | h <;> simp [h]
        obtain ⟨f0, f1, f2, f3, f4, f5⟩ := hf b hb'
        exact ⟨f3, f1, f4, f5⟩
      · simp only [List.mem_cons, List.not_mem_nil, or_false, not_or] at hb
        exact all b o hb.1 hb.2.1 hb.2.2.1 hb.2.2.2 e
      · simp only [List.mem_cons, List.not_mem_nil, or_false, not_or] at hb
        exact ⟨o.slots, all b o hb.1 hb.2.1 hb.2.2.1 hb.2.2.2 e⟩
      · rw [upd_ne (lt0 b o e)]; exact n
      · simp only [List.mem_cons, List.not_mem_nil, or_false, not_or] at hb
        exact ⟨o, all b o hb.1 hb.2.1 hb.2.2.1 hb.2.2.2 e⟩
      · rw [upd_ne (ne_of_none e hfr)]; exact e
      · rw [upd_ne (ne_of_none e hfr)]; exact e
      · exact ⟨#[], by rw [upd_ne (ne_of_none e hfr), e]; simp⟩
      · obtain ⟨o, es, ep, ho, r⟩ := hm
        exact ⟨o, es, ep, all _ o (Ne.symm (hf z (by simp)).2.1) (Ne.symm (hf TO (by simp)).2.1) (Ne.symm (hf i1 (by simp)).2.1) (Ne.symm (hf i2 (by simp)).2.1) ho, r⟩
      · exact ⟨by show 2 ≤ sizeLine; decide, [u1, u2], .cons ru1 (.cons ru2 .nil), ⟨_, tT, rfl, _, rfl⟩⟩
    refine ⟨.ref s.heap.objs.size, _, I2, rfl, ⟨_, x, y, hfr, rfl, rfl, fun zs hz => by rw [I.list_inj hz hq1]; exact hx, fun zs hz => by rw [I.list_inj hz hq2]; exact hy⟩, ?_, fun b hb => ?_⟩
    · exact ⟨c1, c2.extBut _ _ D.TIz (b7 _ _ D.TIz D.TITO D.TIi1 D.TIi2 a2), ⟨u1, u2, c2.extBut _ _ D.TOz b2⟩, b3.extBut c2.extBut D.i1z, b4.extBut c2.extBut D.i2z⟩
    · have ne : b ≠ s.heap.objs.size := fun q => by
        have : b < s.heap.objs.size := by
          simp only [List.mem_cons, List.not_mem_nil, or_false] at hb
          obtain ⟨o4, a4, _⟩ := a4
          obtain ⟨o5, a5, _⟩ := a5
          rcases hb with rfl | rfl | rfl | rfl | rfl
          · exact zlt
          · exact Heap.lt_size a2
          · exact Heap.lt_size a3
          · exact Heap.lt_size a4
          · exact Heap.lt_size a5
        exact absurd (q ▸ this) (Nat.lt_irrefl _)
      rw [upd_ne ne]
      exact (hf b hb).1
  done := by
    intro X hP hw hK hc i pins s σ H E I hf st hg
    subst hP hw hK
    obtain ⟨xs, ys, hq1, hq2, hx⟩ := hg
    obtain ⟨is1, rv1, p1, hz1⟩ := I.list hq1
    have hl := rv1.length
    obtain ⟨a1, a2, ⟨u, v, a3⟩, a4, a5⟩ := st
    refine zip_last I.hnd D a1 a2 a3 a4 p1.isList (by simp; omega) fun h' up => ⟨rfl, ?_⟩
    refine I.step (g' := s.gens) (d' := s.drawn) (t' := s.toks) (ch := [z, i1]) (fun b hb => ?_) (fun b o _ _ hb e _ => ?_) (fun b o _ _ hb e _ => ?_) (fun _ _ _ _ n => n) (fun b o hb e => ?_) (fun _ _ e => e) (fun _ _ _ e => e) (fun b ps e => ⟨#[], by rw [e]; simp⟩) (fun m hm => ?_) (fun b u e => ?_) I.bare
    · have hb' : b ∈ [z, TI, TO, i1, i2] := by simp only [List.mem_cons, List.not_mem_nil, or_false] at hb ⊢; rcases hb with h | h <;> simp [h]
      obtain ⟨f0, f1, f2, f3, f4, f5⟩ := hf b hb'
      exact ⟨f3, f1, f4, f5⟩
    · simp only [List.mem_cons, List.not_mem_nil, or_false, not_or] at hb
      exact up b o hb.1 hb.2 e
    · simp only [List.mem_cons, List.not_mem_nil, or_false, not_or] at hb
      exact ⟨o.slots, up b o hb.1 hb.2 e⟩
    · simp only [List.mem_cons, List.not_mem_nil, or_false, not_or] at hb
      exact ⟨o, up b o hb.1 hb.2 e⟩
    · obtain ⟨o, es, ep, ho, r⟩ := hm
      exact ⟨o, es, ep, up _ o (Ne.symm (hf z (by simp)).2.1) (Ne.symm (hf i1 (by simp)).2.1) ho, r⟩
    · refine (I.hok b u e).stay (fun c v hc q => ?_) (fun _ q => q) fun _ _ q => q
      have hne : ∀ d ∈ [z, TI, TO, i1, i2], c ≠ d := fun d hd w => by
        have fd := (hf d hd).1
        rcases hc with k | k
        · rw [k] at w; rw [w, fd] at e; cases e
        · rw [w, fd] at k; cases k
      exact up c v (hne z (by simp)) (hne i1 (by simp)) q
  self := fun _ _ _ _ _ st h => wpAny_pyIter_zip st.z h
end L2
set_option Elab.async false
set_option linter.all false
set_option maxRecDepth 100000
set_option maxHeartbeats 4000000
namespace L2
open PySem PySem.Spec PyProof.Rows

/-! ### == and != of two lists of flat things -/
def eqL (xs ys : List V) : Bool := xs.length == ys.length && (List.range xs.length).all fun i => eqV (xs.getD i .non) (ys.getD i .non)
theorem eqL_self : ∀ {xs : List V}, xs.all flatV = true → (∀ x ∈ xs, ∀ b, x ≠ .byt b) → eqL xs xs = true := by
  intro xs h _
  unfold eqL
  rw [beq_self_eq_true, Bool.true_and, List.all_eq_true]
  intro i hi
  have hlt := List.mem_range.mp hi
  have hm : xs[i] ∈ xs := List.getElem_mem hlt
  have := List.all_eq_true.mp h _ hm
  rw [List.getD_eq_getElem?_getD, List.getElem?_eq_getElem hlt, Option.getD_some]
  cases e : xs[i] with
  | non => rfl
  | bl b => simp [eqV]
  | int j => simp [eqV]
  | str x => simp [eqV]
  | _ => rw [e] at this; cases this
section
variable {X : Cx}
def rEqL (K : PySem.W.Frag) (neg : Bool) : R2 := fun x y H Q => ∃ a b xs ys, x = .ref a ∧ y = .ref b ∧ SqL K H a xs ∧ SqL K H b ys ∧ xs.all flatV = true ∧ ys.all flatV = true ∧ Q (.bl (if neg then !eqL xs ys else eqL xs ys)) H
theorem lists_at {pins : List (Addr × Obj)} {σ : St} {H : Hp} {s : Shared} {a b : Addr} {xs ys : List V} (I : Inv X pins σ H s) (ha : SqL X.K H a xs) (hb : SqL X.K H b ys) (fx : xs.all flatV = true) (fy : ys.all flatV = true) :
    ∃ is js : List Value, s.heap.IsList a is.toArray ∧ s.heap.IsList b js.toArray ∧ xs.length = is.length ∧ ys.length = js.length ∧ ∀ (A : Around) (j : Nat) (h1 : j < is.toArray.size) (h2 : j < js.toArray.size), SeqAt.EqAt A s is.toArray[j] js.toArray[j] (eqV (xs.getD j .non) (ys.getD j .non)) := by
  obtain ⟨is, r1, p1, _⟩ := I.list ha
  obtain ⟨js, r2, p2, _⟩ := I.list hb
  refine ⟨is, js, p1.isList, p2.isList, r1.length, r2.length, fun A j h1 h2 => ?_⟩
  have l1 := r1.length
  have l2 := r2.length
  simp only [List.size_toArray] at h1 h2
  have e1 : xs[j]? = some (xs.getD j .non) := by rw [List.getD_eq_getElem?_getD, List.getElem?_eq_getElem (by omega)]; rfl
  have e2 : ys[j]? = some (ys.getD j .non) := by rw [List.getD_eq_getElem?_getD, List.getElem?_eq_getElem (by omega)]; rfl
  obtain ⟨u, g1, q1⟩ := r1.get e1
  obtain ⟨v, g2, q2⟩ := r2.get e2
  rw [List.getElem?_eq_getElem h1] at g1
  rw [List.getElem?_eq_getElem h2] at g2
  have f1 := List.all_eq_true.mp fx _ (List.mem_of_getElem? e1)
  have f2 := List.all_eq_true.mp fy _ (List.mem_of_getElem? e2)
  have z := eqAt_V (A := A) (s := s) q1 q2 f1 f2
  have w1 : is.toArray[j] = u := by simpa using Option.some.inj g1
  have w2 : js.toArray[j] = v := by simpa using Option.some.inj g2
  rw [w1, w2]
  exact z
theorem op_eqL (hu : X.A.units < cLine) : OpR X (compareOp .Eq) (rEqL X.K false) := by
  intro pins s σ H x y v u Q I rx ry h
  obtain ⟨a, b, xs, ys, rfl, rfl, ha, hb, fx, fy, q⟩ := h
  cases rx
  cases ry
  obtain ⟨is, js, p1, p2, l1, l2, eq⟩ := lists_at I ha hb fx fy
  by_cases hz : is.toArray.size = js.toArray.size
  · refine SeqAt.eq_listAt p1 p2 hz hu (fun j h1 h2 => eq _ j h1 h2) ⟨.bl _, H, I, rfl, ?_⟩
    have e : eqL xs ys = (List.range is.toArray.size).all fun j => eqV (xs.getD j .non) (ys.getD j .non) := by
      unfold eqL
      simp only [List.size_toArray] at hz ⊢
      rw [l1, l2, hz]
      simp
    rw [← e]
    exact q
  · refine SeqAt.eq_list_lengthsAt p1 p2 (by simpa using hz) hu ⟨.bl false, H, I, rfl, ?_⟩
    have e : eqL xs ys = false := by
      unfold eqL
      have : (xs.length == ys.length) = false := by simp only [List.size_toArray] at hz; rw [l1, l2]; simpa using hz
      rw [this, Bool.false_and]
    have q' : Q (.bl (eqL xs ys)) H := q
    rw [e] at q'
    exact q'
theorem op_neL (hu : X.A.units < cLine) : OpR X (compareOp .NotEq) (rEqL X.K true) := by
  intro pins s σ H x y v u Q I rx ry h
  obtain ⟨a, b, xs, ys, rfl, rfl, ha, hb, fx, fy, q⟩ := h
  cases rx
  cases ry
  obtain ⟨is, js, p1, p2, l1, l2, eq⟩ := lists_at I ha hb fx fy
  have q' : Q (.bl (!eqL xs ys)) H := q
  by_cases hz : is.toArray.size = js.toArray.size
  · refine SeqAt.RcNeAt.lists p1 p2 hz hu (fun j h1 h2 => eq _ j h1 h2) _ _ _ _ ⟨.bl _, H, I, rfl, ?_⟩
    have e : eqL xs ys = (List.range is.toArray.size).all fun j => eqV (xs.getD j .non) (ys.getD j .non) := by
      unfold eqL
      simp only [List.size_toArray] at hz ⊢
      rw [l1, l2, hz]
      simp
    rw [← e]
    exact q'
  · refine SeqAt.RcNeAt.lists_lengths p1 p2 (by simpa using hz) hu _ _ _ _ ⟨.bl true, H, I, rfl, ?_⟩
    have e : eqL xs ys = false := by
      unfold eqL
      have : (xs.length == ys.length) = false := by simp only [List.size_toArray] at hz; rw [l1, l2]; simpa using hz
      rw [this, Bool.false_and]
    rw [e] at q'
    exact q'

/-! ### repr of a display -/
mutual
inductive DatV (H : Hp) : V → PyData → Prop
  | non : DatV H .non .none
  | bl (b : Bool) : DatV H (.bl b) (.bool b)
  | int (i : Int) : DatV H (.int i) (.int i)
  | str (x : Str) : DatV H (.str x) (.str x)
  | lst {a : Addr} {xs : List V} {ds : List PyData} : a ≠ sysModules → H a = some (.lst xs) → DatVs H xs ds → DatV H (.ref a) (.list ds)
  | tup {a : Addr} {xs : List V} {ds : List PyData} : H a = some (.tup xs) → DatVs H xs ds → DatV H (.ref a) (.tuple ds)
  | dic {a : Addr} : H a = some (.dK []) → DatV H (.ref a) (.dict [])
inductive DatVs (H : Hp) : List V → List PyData → Prop
  | nil : DatVs H [] []
  | cons {x : V} {xs : List V} {d : PyData} {ds : List PyData} : DatV H x d → DatVs H xs ds → DatVs H (x :: xs) (d :: ds)
end
mutual
theorem DatV.reads {pins : List (Addr × Obj)} {σ : St} {H : Hp} {s : Shared} (I : Inv X pins σ H s) : ∀ {x : V} {d : PyData} {u : Value}, DatV H x d → RelV x u → ∃ as, Reads s.heap u d as ∧ sysModules ∉ as
  | _, _, u, .non, r => ⟨[], by cases (show u = Value.none from r); exact .none, by simp⟩
  | _, _, u, .bl b, r => ⟨[], by cases (show u = Value.bool b from r); exact .bool b, by simp⟩
  | _, _, u, .int i, r => ⟨[], by obtain ⟨t, rfl⟩ := r; exact .int i t, by simp⟩
  | _, _, u, .str x, r => ⟨[], by obtain ⟨t, rfl⟩ := r; exact .str x t, by simp⟩
  | _, _, u, .lst (a := a) na h ds, r => by
    obtain rfl : u = Value.ref a := r
    obtain ⟨z, its, n, rv, e⟩ := I.hok a _ h
    obtain ⟨as, q, hn⟩ := DatVs.reads I ds rv
    refine ⟨a :: as, .list e rfl rfl q, fun w => ?_⟩
    rcases List.mem_cons.mp w with w | w
    · exact na w.symm
    · exact hn w
  | _, _, u, .tup (a := a) h ds, r => by
    obtain rfl : u = Value.ref a := r
    obtain ⟨z, its, rv, o, e, hc, n, hd⟩ := I.hok a _ h
    obtain ⟨as, q, hn⟩ := DatVs.reads I ds rv
    exact ⟨as, .tuple e hc hd q, hn⟩
  | _, _, u, .dic (a := a) h, r => by
    obtain rfl : u = Value.ref a := r
    obtain ⟨z, hs, vs, kv, o, es, ep, e, ed, ee, er⟩ := I.hok a _ h
    cases kv
    have e0 : es.toList = [] := by
      have w := er.2.1
      generalize es.toList = l at w
      cases w
      rfl
    refine ⟨[a] ++ [], .dict (kvs := []) (as := []) (bs := []) e ed.1 ee (by rw [e0]; exact .nil) (by rw [e0]; exact .nil), fun w => ?_⟩
    have w' : sysModules = a := by simpa using w
    rw [w'] at hs
    simp at hs
theorem DatVs.reads {pins : List (Addr × Obj)} {σ : St} {H : Hp} {s : Shared} (I : Inv X pins σ H s) : ∀ {xs : List V} {ds : List PyData} {us : List Value}, DatVs H xs ds → Vals xs us → ∃ as, ReadsAll s.heap us ds as ∧ sysModules ∉ as
  | _, _, _, .nil, .nil => ⟨[], .nil, by simp⟩
  | _, _, _, .cons d ds, .cons r rs => by
    obtain ⟨as, q, hn⟩ := DatV.reads I d r
    obtain ⟨bs, qs, hm⟩ := DatVs.reads I ds rs
    exact ⟨as ++ bs, .cons q qs, fun w => (List.mem_append.mp w).elim hn hm⟩
end
def rRepr (A : Around) : List V → Hp → VK → Prop := fun xs H Q => ∃ a d, xs = [.ref a] ∧ DatV H (.ref a) d ∧ d.showable = true ∧ A.units + (d.depth + 1) < cLine ∧ d.shown.length ≤ sizeLine ∧ Q (.str d.shown) H
theorem call_repr (hg : X.A.guards = some []) : CallR X (.builtin "repr") (rRepr X.A) := by
  intro pins s σ H xs us Q I r h
  obtain ⟨a, d, rfl, dv, hs, hu, hz, q⟩ := h
  cases r with
  | cons r1 rr =>
    cases rr
    obtain ⟨as, rd, hn⟩ := dv.reads I r1
    rename_i u
    obtain rfl : u = Value.ref a := r1
    exact repr_of_reads' rd hs (fun _ => hn) hg hu (fun _ _ e => e) (fun h' u tk k => ⟨.str d.shown, H, I.kept k, ⟨_, rfl⟩, q⟩) hz
theorem Inv.big {pins : List (Addr × Obj)} {σ : St} {H : Hp} {s : Shared} (I : Inv X pins σ H s) : sysModules < s.heap.objs.size := by
  have h : mainGlobals < s.heap.objs.size := (I.mod.glob.keeps I.bk).lt
  exact Nat.lt_trans (by decide) h
def tDNew : TE := fun _ H Q => ∀ p, H p = none → Q (.ref p) (upd H p (.dK []))
theorem pe_dnew {pos : Pos} : PE X (.Dict [] [] pos) tDNew := fun pins s σ H Q I h =>
  wpAny_Dict_empty ⟨.ref s.heap.objs.size, _, I.laid (a := s.heap.objs.size) (o := .dK []) (t' := s.toks) (fun _ _ q => Heap.get?_push_of_some _ q) (Nat.le_refl _) ⟨Nat.zero_le _, beq_eq_false_iff_ne.mpr (Ne.symm (Nat.ne_of_lt I.big)), [], .nil, Heap.DictOf.new s.heap⟩, rfl, h _ (I.hok.fresh (Nat.le_refl _))⟩
/-! ### a, b = xs (a list), where nothing is handled -/
def gLst (K : PySem.W.Frag) (n : Nat) (t : TGs) : TG := fun v σ H Q => ∃ a xs, v = .ref a ∧ SqL K H a xs ∧ xs.length = n ∧ t xs σ H Q
theorem pg_lst {pos : Pos} {es : List Expr} {k : Nat} {t : TGs} {n : Nat} (hc : X.calm = true) (h : PGs X es t) (hl : (assignEach es X.env).length = n := by rfl) (hst : (assignEach es X.env).findIdx? (·.1) = none := by rfl) : PG X (.Tuple es k pos) (gLst X.K n t) := by
  intro pins s σ H v u Q I r q
  obtain ⟨a, xs, rfl, hx, hn, q⟩ := q
  obtain rfl : u = Value.ref a := r
  obtain ⟨its, rv, hp, hz⟩ := I.list hx
  rw [assign_Tuple]
  refine wpAny_bind (wpAny_standAt ?_)
  unfold unpack
  have hs : n = its.toArray.size := by rw [← hn, rv.length]; simp
  rw [hl, hst, hs]
  refine wpAny_bind (wpAny_holding (PySem.W.kun_itemsOf (I.ok.hd hc) hp.isList fun h' ex => ?_))
  have I1 : Inv X pins σ H { s with heap := h' } := I.kept (t' := s.toks) fun b o e => ex b o (Nat.ne_of_lt (Heap.lt_size e)) e
  have := h pins { s with heap := h' } σ H xs its Q I1 rv q
  simpa using this
/-! ### for a, b in zip(xs, ys) -/
def iZip (K : PySem.W.Frag) (ta : TA) : TI := fun σ H R => ta σ H fun vs H1 => ∃ a b, vs = [.ref a, .ref b] ∧ (∃ xs, SqL K H1 a xs) ∧ (∃ ys, SqL K H1 b ys) ∧ R (Itz K a b) H1
theorem pi_zip {elts : List Expr} {kk : Nat} {tp p pos : Pos} {a b : Expr} {ta : TA} (hg : Gl X "zip") (hm : X.mg "zip" = none) (ha : PA X [a, b] ta) (hs : starEach [a, b] X.env = [(false, eval a X.env), (false, eval b X.env)] := by rfl) (hs2 : starEach [b] X.env = [(false, eval b X.env)] := by rfl) :
    PIc false X (.Tuple elts kk tp) (.Call (.Name "zip" p) [a, b] [] pos) (iZip X.K ta) := by
  intro pins s σ H R I h
  refine Call_ (ld_blt I hg hm boot_zip (PyProof.Rows.callWith_type1 (thn (ha pos pins s σ H _ I h) fun us s1 ⟨vs, H1, I1, r1, q1⟩ => ?_) (by rw [hs, hs2]) (by rw [hs2]; rfl)))
  obtain ⟨l1, l2, e, ⟨xs, h1⟩, ⟨ys, h2⟩, q⟩ := q1
  subst e
  cases r1 with
  | cons r rr =>
    cases rr with
    | cons r' rr =>
      cases rr
      cases (show _ = Value.ref l1 from r)
      cases (show _ = Value.ref l2 from r')
      obtain ⟨is1, rv1, p1, _⟩ := I1.list h1
      obtain ⟨is2, rv2, p2, _⟩ := I1.list h2
      have lt1 : l1 < s1.heap.objs.size := by obtain ⟨o, e, _⟩ := p1.isList; exact Heap.lt_size e
      have lt2 : l2 < s1.heap.objs.size := by obtain ⟨o, e, _⟩ := p2.isList; exact Heap.lt_size e
      refine call_zip_2 p1.isList p2.isList fun h' a1 a2 a3 a4 a5 a6 a7 => wpAny_pyIter_zip (s := { s1 with heap := h' }) a1 ?_
      refine ⟨_, _, _, _, H1, rfl, I1.kept (t' := s1.toks) a7, turn_zip (zipApart_new lt1 lt2), ⟨a1, a2, ⟨_, _, a3⟩, a4, a5⟩, fun b hb => ?_, q⟩
      have le : s1.heap.objs.size ≤ b := by
        simp only [List.mem_cons, List.not_mem_nil, or_false] at hb
        rcases hb with rfl | rfl | rfl | rfl | rfl <;> omega
      exact I1.fpOk le (I1.hok.fresh le)
end
end L2
set_option Elab.async false
set_option linter.all false
set_option maxRecDepth 100000
set_option maxHeartbeats 4000000
namespace L2
open PySem PySem.Spec PyProof.Rows

theorem Room.mark {c : Bool} {k : Nat} {A : Around} {v : Option Value} (r : Room c k A) : Room false k (A.mark v) := ⟨fun h => (nomatch h), r.dp, r.un, r.gd⟩
/-! ### arguments without a star -/
def plainE : Expr → Bool
  | .Starred _ _ => false
  | _ => true
theorem starEach_plain {e : Expr} {es : List Expr} {env : Env} (h : plainE e = true) : starEach (e :: es) env = (false, eval e env) :: starEach es env := by
  cases e <;> first | rfl | (exact absurd (show false = true from h) Bool.false_ne_true)
def plainEs (es : List Expr) : Bool := es.all plainE
theorem starEach_any {env : Env} : ∀ {es : List Expr} (h : plainEs es = true), (starEach es env).any (·.1) = false
  | [], _ => rfl
  | e :: es, h => by
    unfold plainEs at h
    rw [List.all_cons, Bool.and_eq_true] at h
    rw [starEach_plain h.1, List.any_cons, starEach_any h.2]
    rfl
theorem backTo_any {pos : Pos} {env : Env} {es : List Expr} (h : plainEs es = true) : (backTo pos (starEach es env)).any (·.1) = false := by
  have q := starEach_any (env := env) h
  unfold backTo
  rw [List.any_map]
  exact q
theorem star1 {e : Expr} {env : Env} (h : plainE e = true) : starEach [e] env = [(false, eval e env)] := (starEach_plain h).trans rfl
theorem star2 {e e' : Expr} {env : Env} (h : plainE e = true) (h' : plainE e' = true) : starEach [e, e'] env = [(false, eval e env), (false, eval e' env)] := by rw [starEach_plain h, star1 h']
section
variable {X : Cx}
theorem pa_p {e : Expr} {es : List Expr} {te : TE} {t : TA} (ha : PE X e te) (hr : PA X es t) (hp : plainE e = true := by rfl) : PA X (e :: es) (tCons te t) := pa_cons ha hr (starEach_plain hp)
theorem pe_callBp {id : String} {r : List V → Hp → VK → Prop} {x : Str} {e : Expr} {es : List Expr} {t : TA} {p pos : Pos} (hc : CallR X (.builtin id) r) (hg : Gl X x) (hm : X.mg x = none) (hv : bootBuiltins x = some (.builtin id)) (ha : PA X (e :: es) t) (hp : plainE e = true := by rfl) (hps : plainEs es = true := by rfl) (hn : x ≠ "__name__" := by decide) (hdb : (x == ("__debug__" : Str)) = false := by decide) : PE X (.Call (.Name x p) (e :: es) [] pos) (tCB r t) :=
  pe_callB hc hg hm hv ha hn hdb (starEach_plain hp) (backTo_any hps)
theorem pe_callTyp {T : String} {r : List V → Hp → VK → Prop} {x : Str} {e : Expr} {es : List Expr} {t : TA} {p pos : Pos} (hc : CallR X (.type T) r) (hg : Gl X x) (hm : X.mg x = none) (hv : bootBuiltins x = some (.type T)) (ha : PA X (e :: es) t) (hp : plainE e = true := by rfl) (hps : plainEs es = true := by rfl) (hn : x ≠ "__name__" := by decide) (hdb : (x == ("__debug__" : Str)) = false := by decide) : PE X (.Call (.Name x p) (e :: es) [] pos) (tCB r t) :=
  pe_callTy hc hg hm hv ha hn hdb (starEach_plain hp) (backTo_any hps)
theorem pi_range1p {tg a : Expr} {ta : TA} {p pos : Pos} (hg : Gl X "range") (hm : X.mg "range" = none) (ha : PA X [a] ta) (hp : plainE a = true := by rfl) : PIc true X tg (.Call (.Name "range" p) [a] [] pos) (iRng1 ta) := pi_range1 hg hm ha (star1 hp)
theorem pi_zipp {elts : List Expr} {kk : Nat} {tp p pos : Pos} {a b : Expr} {ta : TA} (hg : Gl X "zip") (hm : X.mg "zip" = none) (ha : PA X [a, b] ta) (hp : plainE a = true := by rfl) (hp' : plainE b = true := by rfl) : PIc false X (.Tuple elts kk tp) (.Call (.Name "zip" p) [a, b] [] pos) (iZip X.K ta) := pi_zip hg hm ha (star2 hp hp') (star1 hp')
theorem ps_raisep {Ex : Addr → St → Hp → Prop} {C : Addr} {x : Str} {np cpos pos : Pos} {e : Expr} {es : List Expr} {t : TA} (hc : X.calm = true) (T : Throws X Ex) (O : ErrK X.K C) (hg : Gl X x) (hm : X.mg x = some (.ref C)) (ha : PA X (e :: es) t) (hp : plainE e = true := by rfl) (hps : plainEs es = true := by rfl)
    (hdb : (x == ("__debug__" : Str)) = false := by decide) : PS X (.Raise (some (.Call (.Name x np) (e :: es) [] cpos)) none pos) (tRaise C Ex t) := ps_raise hc T O hg hm ha hdb (starEach_plain hp) (backTo_any hps)
end
/-! ### a new object -/
structure New (H : Hp) (p : Addr) (o : HO) (H' : Hp) : Prop where
  no : H p = none
  at_ : H' p = some o
  same : Same H H'
theorem New.mk' {H : Hp} {p : Addr} {o : HO} (h : H p = none) : New H p o (upd H p o) := ⟨h, upd_same, fun b u e => by rw [upd_ne (ne_of_none e h)]; exact e⟩
section
variable {X : Cx}
def tLstA (t : TA) : TE := fun σ H Q => t σ H fun xs H1 => xs.length ≤ sizeLine ∧ ∀ p H2, New H1 p (.lst xs) H2 → p ≠ sysModules → Q (.ref p) H2
theorem pe_lstA {es : List Expr} {t : TA} {pos : Pos} (h : PA X es t) : PE X (.List es pos) (tLstA t) := by
  intro pins s σ H Q I hq
  refine wpAny_List_spliced (thn (h pos pins s σ H _ I hq) fun us s1 ⟨xs, H1, I1, r, z, q⟩ => ⟨by rw [← r.length]; exact z, ?_⟩)
  have hf : H1 s1.heap.objs.size = none := I1.hok.fresh (Nat.le_refl _)
  refine ⟨.ref s1.heap.objs.size, upd H1 s1.heap.objs.size (.lst xs), I1.laid (t' := s1.toks) (fun b u e => Heap.get?_push_of_some _ e) (Nat.le_refl _) ?_, rfl, q _ _ (.mk' hf) (Nat.ne_of_gt I1.big)⟩
  exact ⟨z, us, 0, r, Heap.get?_push_size _ rfl⟩
def tTupA (t : TA) : TE := fun σ H Q => t σ H fun xs H1 => xs.length ≤ sizeLine ∧ ∀ p H2, New H1 p (.tup xs) H2 → Q (.ref p) H2
theorem thenA {es : List Expr} {t : TA} {R R' : List V → Hp → Prop} (hw : ∀ xs H, R xs H → R' xs H) (h : PA X es t) (pos : Pos) (pins : List (Addr × Obj)) (s : Shared) (σ : St) (H : Hp) (I : Inv X pins σ H s) (q : t σ H R) :
    wpAny (model X.prog X.w) X.A (spliced (backTo pos (starEach es X.env))) (AP X pins σ R') X.xe s :=
  thn (h pos pins s σ H R I q) fun _ _ ⟨vs, H', a, b, c⟩ => ⟨vs, H', a, b, hw _ _ c⟩
theorem pe_tupA {es : List Expr} {t : TA} {x1} {pos : Pos} (h : PA X es t) : PE X (.Tuple es x1 pos) (tTupA t) := by
  have h' : PA X es (fun σ H Q => ∃ R : List V → Hp → Prop, t σ H R ∧ ∀ xs H, R xs H → Q xs H) := fun pos pins s σ H Q I ⟨R, q, hw⟩ => thenA hw h pos pins s σ H I q
  intro pins s σ H Q I hq
  exact pe_tup h' pins s σ H Q I ⟨_, hq, fun xs H1 ⟨z, q⟩ => ⟨z, fun p hp => q p _ (.mk' hp)⟩⟩
def tDNewA : TE := fun _ H Q => ∀ p H2, New H p (.dK []) H2 → Q (.ref p) H2
theorem pe_dnewA {pos : Pos} : PE X (.Dict [] [] pos) tDNewA := fun pins s σ H Q I h => pe_dnew pins s σ H Q I fun p hp => h p _ (.mk' hp)
end
/-! ### rules that take whatever kind comes: read by simp -/
/-- a value that is an address -/
def uR (v : V) (q : Addr → Prop) : Prop := ∃ a, v = .ref a ∧ q a
/-- xs.append(e) -/
def uApp (to te : TE) : TE := fun σ H Q => to σ H fun x H1 => uR x fun l => (∃ xs, H1 l = some (.lst xs)) ∧ te σ H1 fun y H2 => ∃ xs, H2 l = some (.lst xs) ∧ xs.length < sizeLine ∧ Q .non (upd H2 l (.lst (xs ++ [y])))
section
variable {X : Cx}
theorem OpR.weak {f : Value → Value → Sem Value} {r r' : R2} (h : OpR X f r) (hw : ∀ x y H Q, r' x y H Q → r x y H Q) : OpR X f r' :=
  fun pins s σ H x y v u Q I rx ry q => h pins s σ H x y v u Q I rx ry (hw x y H Q q)
theorem CallR.weak {f : Value} {r r' : List V → Hp → VK → Prop} (h : CallR X f r) (hw : ∀ xs H Q, r' xs H Q → r xs H Q) : CallR X f r' :=
  fun pins s σ H xs us Q I rs q => h pins s σ H xs us Q I rs (hw xs H Q q)
theorem IxR.weak {r r' : R2} (h : IxR X r) (hw : ∀ x y H Q, r' x y H Q → r x y H Q) : IxR X r' :=
  fun value slice pins s σ H x y v u Q I rx ry q hs => h value slice pins s σ H x y v u Q I rx ry (hw x y H Q q) hs

def uAdd : R2 := fun x y H Q => (∃ i j, x = .int i ∧ y = .int j ∧ Q (.int (i + j)) H) ∨ (∃ i j, x = .str i ∧ y = .str j ∧ i.length + j.length ≤ sizeLine ∧ Q (.str (i ++ j)) H) ∨
  (∃ l b xs zs, x = .ref l ∧ y = .ref b ∧ H l = some (.lst xs) ∧ H b = some (.lst zs) ∧ xs.length + zs.length ≤ sizeLine ∧ ∀ p H2, New H p (.lst (xs ++ zs)) H2 → Q (.ref p) H2)
theorem op_addU : OpR X (binaryOp .Add) uAdd := op_add.or (op_add_str.or (op_cat.weak fun x y H Q h => by
  obtain ⟨l, b, xs, zs, e1, e2, h1, h2, h3, h4⟩ := h
  exact ⟨l, b, xs, zs, e1, e2, h1, h2, h3, fun p hp => h4 p _ (.mk' hp)⟩))
def uMul : R2 := fun x y H Q => (∃ i j, x = .int i ∧ y = .int j ∧ CMul i j ∧ Q (.int (i * j)) H) ∨
  (∃ l k xs, x = .ref l ∧ y = .int k ∧ H l = some (.lst xs) ∧ -(2 ^ 63) ≤ k ∧ k < 2 ^ 63 ∧ xs.length * k.toNat ≤ sizeLine ∧ ∀ p H2, New H p (.lst (List.replicate k.toNat xs).flatten) H2 → Q (.ref p) H2)
theorem op_mulU : OpR X (binaryOp .Mult) uMul := op_mul.or (op_rep.weak fun x y H Q h => by
  obtain ⟨l, k, xs, e1, e2, h1, h2, h3, h5, h4⟩ := h
  exact ⟨l, k, xs, e1, e2, h1, h2, h3, h5, fun p hp => h4 p _ (.mk' hp)⟩)
/-- xs[i] -/
def uIx : R2 := fun x y H Q => (∃ p xs i v, x = .ref p ∧ y = .int i ∧ H p = some (.lst xs) ∧ atI xs i = some v ∧ Q v H) ∨
  (∃ p xs i v, x = .ref p ∧ y = .int i ∧ H p = some (.tup xs) ∧ atI xs i = some v ∧ Q v H) ∨ (∃ z i c, x = .str z ∧ y = .int i ∧ z.length ≤ sizeLine ∧ atI z.cps.toList i = some c ∧ Q (.str ⟨#[c]⟩) H)
theorem ix_U : IxR X uIx := ix_seq.weak fun x y H Q h => by
  rcases h with ⟨p, xs, i, v, e1, e2, h, r⟩ | ⟨p, xs, i, v, e1, e2, h, r⟩ | h
  · exact .inl ⟨p, xs, i, v, e1, e2, SqL.of h, r⟩
  · exact .inr (.inl ⟨p, xs, i, v, e1, e2, SqT.of h, r⟩)
  · exact .inr (.inr h)
/-- len -/
def uLen : List V → Hp → VK → Prop := fun xs H Q => (∃ p ys, xs = [.ref p] ∧ H p = some (.lst ys) ∧ Q (.int ys.length) H) ∨ (∃ p ys, xs = [.ref p] ∧ H p = some (.tup ys) ∧ Q (.int ys.length) H) ∨
  (∃ z, xs = [.str z] ∧ z.length ≤ sizeLine ∧ Q (.int z.length) H)
theorem call_lenU : CallR X (.builtin "len") uLen := (call_len_seq.or call_len_str).weak fun xs H Q h => by
  rcases h with ⟨p, ys, e, h, q⟩ | ⟨p, ys, e, h, q⟩ | h
  · exact .inl ⟨p, ys, e, .inl (SqL.of h), q⟩
  · exact .inl ⟨p, ys, e, .inr (SqT.of h), q⟩
  · exact .inr h
def uEq (neg : Bool) : R2 := fun x y H Q => (scal x y = true ∧ Q (.bl (if neg then !decide (x = y) else decide (x = y))) H) ∨
  (∃ a b xs ys, x = .ref a ∧ y = .ref b ∧ H a = some (.lst xs) ∧ H b = some (.lst ys) ∧ xs.all flatV = true ∧ ys.all flatV = true ∧ Q (.bl (if neg then !eqL xs ys else eqL xs ys)) H)
theorem op_eqU (hu : X.A.units < cLine) : OpR X (compareOp .Eq) (uEq false) := (op_eq.or (op_eqL hu)).weak fun x y H Q h => by
  rcases h with h | ⟨a, b, xs, ys, e1, e2, h1, h2, r⟩
  · exact .inl ⟨h.1, by simpa using h.2⟩
  · exact .inr ⟨a, b, xs, ys, e1, e2, SqL.of h1, SqL.of h2, r⟩
theorem op_neU (hu : X.A.units < cLine) : OpR X (compareOp .NotEq) (uEq true) := (op_ne.or (op_neL hu)).weak fun x y H Q h => by
  rcases h with h | ⟨a, b, xs, ys, e1, e2, h1, h2, r⟩
  · exact .inl ⟨h.1, by simpa using h.2⟩
  · exact .inr ⟨a, b, xs, ys, e1, e2, SqL.of h1, SqL.of h2, r⟩
/-- the truth of a value -/
def tTru (K : PySem.W.Frag) (ta : TE) : TT := fun σ H Q => ta σ H fun x H' => ∃ k, TruV K x H' k ∧ Q k H'
theorem pt_tru {a : Expr} {ta : TE} (ha : PE X a ta) (he : ∀ whole, isTrue a X.env whole = (do let v ← whole; standAt a.pos; holding [v] (truthy v)) := by intro _; rfl) : PT X a (tTru X.K ta) := pt_truth ha he
/-- o.f where the class is known -/
def uFld (C : Addr) (ta : TE) (f : Str) : TE := fun σ H Q => ta σ H fun x H1 => ∃ a dx fs v, x = .ref a ∧ H1 a = some (.ins C dx fs) ∧ fs.lookup f = some v ∧ Q v H1
theorem pe_fldU {C : Addr} {e : Expr} {ta : TE} {f : Str} {pos : Pos} (c : Cls X.K C) (n : NoAttr X.K C f) (he : PE X e ta) (hb : attributeBase e f X.env (eval e X.env) = eval e X.env := by rfl) : PE X (.Attribute e f pos) (uFld C ta f) := by
  intro pins s σ H Q I h
  refine attr_of hb (thn (he pins s σ H _ I h) fun u s1 ⟨x, H1, I1, rx, a, dx, fs, v, ex, ea, l, q⟩ => ?_)
  subst ex
  obtain rfl : u = Value.ref a := rx
  exact getattr_ok I1 ea c n l fun u' s2 I2 ru => ⟨v, H1, I2, ru, q⟩
def uSetF (C : Addr) (ta tv : TE) (f : Str) : TS := fun D σ H => tv σ H fun y H1 => ta σ H1 fun x H2 => ∃ a dx fs, x = .ref a ∧ H2 a = some (.ins C dx fs) ∧ fs.length < 1000 ∧ D.nx σ (upd H2 a (.ins C dx (putF f y fs)))
theorem ps_fldU {C : Addr} {o value : Expr} {ta tv : TE} {f : Str} {pos pos' : Pos} (c : Cls X.K C) (n : NoAttr X.K C f) (ha : PE X o ta) (hv : PE X value tv) (hs : swapsWith value (some (.Attribute o f pos')) pos.line X.env = pure false := by rfl) : PS X (.Assign [.Attribute o f pos'] value pos) (uSetF C ta tv f) := by
  intro pins s σ H D I h
  refine plainObj_wpAny_Assign_Attribute (thn (hv pins s σ H _ I h) fun u s1 ⟨y, H1, I1, ry, q⟩ => thn (ha pins s1 σ H1 _ I1 q) fun ov s2 ⟨x, H2, I2, rx, a, dx, fs, ex, ea, l, q2⟩ => ?_) hs
  subst ex
  obtain rfl : ov = Value.ref a := rx
  exact setattr_ok I2 ea c n l ry fun s3 I3 => ⟨σ, _, I3, q2⟩
/-- f(..) of the text's own -/
structure GF (P : Program) (w : World) (K : PySem.W.Frag) (mg : Str → Option Value) (base : Heap) (cm : Bool) (k : Nat) (x : Str) (ps : List Str) (sp : Sp) : Prop where
  ex : ∃ (f : Addr) (fd : FuncData), FnOk P w K mg base CX0 cm k f fd ps sp ∧ mg x = some (.ref f) ∧ PySem.W.keepIn K (.ref f) = true ∧ Binds K fd ps []
/-- a method of the class at C -/
structure GM (P : Program) (w : World) (K : PySem.W.Frag) (mg : Str → Option Value) (base : Heap) (cm : Bool) (k : Nat) (C : Addr) (m : Str) (ps : List Str) (sp : Sp) : Prop where
  ex : ∃ (f : Addr) (fd : FuncData), FnOk P w K mg base CX0 cm k f fd ps sp ∧ Meth K C m f ∧ Binds K fd ps []
structure GCX (P : Program) (w : World) (K : PySem.W.Frag) (mg : Str → Option Value) (base : Heap) (cm : Bool) (k : Nat) (x : Str) (C : Addr) (ps : List Str) (sp : Sp) : Prop where
  ex : ∃ (f : Addr) (fd : FuncData), FnOk P w K mg base (CXW P w) cm k f fd ps sp ∧ mg x = some (.ref C) ∧ Mk K C f ∧ Binds K fd ps []
variable {cm : Bool} {k j : Nat} {x m : Str} {C : Addr} {ps : List Str} {sp : Sp} {e o : Expr} {es : List Expr} {t : TA} {ta : TE} {p pos apos : Pos} {Ex : Addr → St → Hp → Prop}
theorem pe_g (G : GF X.prog X.w X.K X.mg X.base cm j x ps sp) (hr : Room cm k X.A) (hg : Gl X x) (ha : PA X (e :: es) t) (hj : j ≤ k := by decide) (hdb : (x == ("__debug__" : Str)) = false := by decide) (hp : plainE e = true := by rfl) (hps : plainEs es = true := by rfl) :
    PE X (.Call (.Name x p) (e :: es) [] pos) (tCall sp [] E0 t) := by
  obtain ⟨f, fd, F, hm, hk, hb⟩ := G.ex
  exact pe_call F (hr.mono hj) hg hm hk hb .nil pass0 ha hdb (starEach_plain hp) (backTo_any hps)
theorem pe_m {pl : Sem Bool} (he : PE X o ta) (c : Cls X.K C) (G : GM X.prog X.w X.K X.mg X.base cm j C m ps sp) (hr : Room cm k X.A) (ha : PA X (e :: es) t) (hj : j ≤ k := by decide)
    (hp : plainE e = true := by rfl) (hps : plainEs es = true := by rfl)
    (ht : eval (.Call (.Attribute o m apos) (e :: es) [] pos) X.env = (do
      let ov ← eval o X.env
      standAt apos.atName
      let (f, first) ← holding [ov] (getMethod ov m pl)
      callWith pos f first (backTo pos (starEach (e :: es) X.env)) (backToKw pos (keywordEach [] X.env))) := by rfl) :
    PE X (.Call (.Attribute o m apos) (e :: es) [] pos) (tMeth C m sp [] E0 ta t) := by
  obtain ⟨f, fd, F, hm, hb⟩ := G.ex
  exact pe_meth he c hm F (hr.mono hj) hb .nil pass0 ha (starEach_plain hp) (backTo_any hps) ht
theorem pe_m0 {pl : Sem Bool} (he : PE X o ta) (c : Cls X.K C) (G : GM X.prog X.w X.K X.mg X.base cm j C m ps sp) (hr : Room cm k X.A) (hj : j ≤ k := by decide)
    (ht : eval (.Call (.Attribute o m apos) [] [] pos) X.env = (do
      let ov ← eval o X.env
      standAt apos.atName
      let (f, first) ← holding [ov] (getMethod ov m pl)
      callWith pos f first (backTo pos (starEach [] X.env)) (backToKw pos (keywordEach [] X.env))) := by rfl) :
    PE X (.Call (.Attribute o m apos) [] [] pos) (tMeth C m sp [] E0 ta tNil) := by
  obtain ⟨f, fd, F, hm, hb⟩ := G.ex
  exact pe_meth0 he c hm F (hr.mono hj) hb .nil pass0 ht
/-- a new instance, its dict -/
structure NewI (H : Hp) (C x dx : Addr) (H' : Hp) : Prop where
  no : H x = none
  nod : H dx = none
  ne : dx ≠ x
  at_ : H' x = some (.ins C dx [])
  own : H' dx = some (.own x)
  same : Same H H'
theorem NewI.mk' {H : Hp} {C x dx : Addr} (h : H x = none) (hd : H dx = none) (ne : dx ≠ x) : NewI H C x dx (upd (upd H dx (.own x)) x (.ins C dx [])) :=
  ⟨h, hd, ne, upd_same, by rw [upd_ne ne, upd_same], fun b u e => by rw [upd_ne (ne_of_none e h), upd_ne (ne_of_none e hd)]; exact e⟩
def tMakeA (C : Addr) (sp : Sp) (t : TA) : TE := fun σ H Q => t σ H fun vs H1 => ∀ x dx H2, NewI H1 C x dx H2 → sp (.ref x :: vs) H2 (fun v H3 => v = .non ∧ Q (.ref x) H3) E0
def tMakeXA (C : Addr) (sp : Sp) (Ex : Addr → St → Hp → Prop) (t : TA) : TE := fun σ H Q => t σ H fun vs H1 => ∀ x dx H2, NewI H1 C x dx H2 → sp (.ref x :: vs) H2 (fun v H3 => v = .non ∧ Q (.ref x) H3) (XE Ex σ)
theorem PA.any {es : List Expr} {t : TA} (h : PA X es t) : PA X es (fun σ H Q => ∃ R : List V → Hp → Prop, t σ H R ∧ ∀ xs H, R xs H → Q xs H) := fun pos pins s σ H Q I ⟨R, q, hw⟩ => thenA hw h pos pins s σ H I q
theorem pe_cX (T : Throws X Ex) (G : GCX X.prog X.w X.K X.mg X.base cm j x C ps sp) (hr : Room cm k X.A) (hg : Gl X x) (ha : PA X (e :: es) t) (hj : j + 1 ≤ k := by decide) (hdb : (x == ("__debug__" : Str)) = false := by decide) (hp : plainE e = true := by rfl) (hps : plainEs es = true := by rfl) :
    PE X (.Call (.Name x p) (e :: es) [] pos) (tMakeXA C sp Ex t) := by
  obtain ⟨f, fd, F, hm, M, hb⟩ := G.ex
  intro pins s σ H Q I h
  exact pe_makeX M T F (hr.mono hj) hg hm hb .nil ha.any hdb (starEach_plain hp) (backTo_any hps) pins s σ H Q I ⟨_, h, fun vs H1 q x dx hx hd ne => by rw [List.append_nil]; exact q x dx _ (.mk' hx hd ne)⟩
/-- a name of the module: a constant, a class -/
theorem pe_gv {v : V} {pos : Pos} (hg : Gl X x) (hm : ∃ u, X.mg x = some u ∧ RelV v u) (hd : (x == ("__debug__" : Str)) = false := by decide) : PE X (.Name x pos) (tC v) := by
  obtain ⟨u, hm, r⟩ := hm
  exact pe_glob hg hm r hd
/-- xs.append(e), whatever xs is -/
theorem pe_append {o e : Expr} {to te : TE} {apos cpos : Pos} (ho : PE X o to) (he : PE X e te)
    (hbase : attributeBase o "append" X.env (eval o X.env) = eval o X.env := by rfl)
    (hline : (apos.endLine == cpos.line) = true := by rfl) (hp : plainE e = true := by rfl) : PE X (.Call (.Attribute o "append" apos) [e] [] cpos) (uApp to te) := by
  intro pins s σ H Q I h
  have hs : starEach [e] X.env = [(false, eval e X.env)] := star1 hp
  refine wpAny_Call_method_late hbase (by rw [hs]; rfl) hline rfl (thn (ho pins s σ H _ I h) fun v s1 ⟨x, H1, I1, r1, l, ex, ⟨xs, hx⟩, q1⟩ => ?_)
  subst ex
  obtain ⟨h1, h2⟩ := tyV_is (T := "list") I1 r1 (.inl ⟨rfl, xs, SqL.of hx⟩)
  refine ⟨"list", "list.append", PySem.F.plainAttrs_list, PySem.F.slot_list_append, PySem.F.type_list_append, h1, h2, ?_⟩
  rw [hs]
  refine Calls.callWith_builtin rfl (Calls.evalArgs_plain ?_)
  have hA := pa_cons he pa_nil (hs := hs) cpos pins s1 σ H1 (fun ys H2 => match ys with | [y] => ∃ xs, H2 l = some (.lst xs) ∧ xs.length < sizeLine ∧ Q .non (upd H2 l (.lst (xs ++ [y]))) | _ => False) I1 q1
  rw [hs] at hA
  refine thn hA fun us s2 ⟨vs, H2, I2, r2, q2⟩ => ?_
  match vs, q2, r2 with
  | [y], ⟨xs2, hx2, hl2, q2⟩, r2 => exact mt_append pins s2 σ H2 (.ref l) [y] v us Q I2 r1 r2 ⟨l, xs2, y, rfl, rfl, hx2, hl2, q2⟩
end
section
variable {X : Cx}
def uInt : List V → Hp → VK → Prop := fun xs H Q => (∃ i, xs = [.int i] ∧ Q (.int i) H) ∨ ∃ k, xs = [.bl k] ∧ Q (.int (if k then 1 else 0)) H
theorem call_intU : CallR X (.type "int") uInt := call_int1
def uStr : List V → Hp → VK → Prop := fun xs H Q => ∃ i, xs = [.int i] ∧ i.natAbs.log2 < 1920 ∧ Q (.str (toString i)) H
theorem call_strU : CallR X (.type "str") uStr := call_str_int
theorem uInt_i {i : Int} {H : Hp} {Q : VK} : uInt [.int i] H Q = Q (.int i) H := by simp [uInt]
theorem uInt_b {k : Bool} {H : Hp} {Q : VK} : uInt [.bl k] H Q = Q (.int (if k then 1 else 0)) H := by simp [uInt]
theorem uStr_i {i : Int} {H : Hp} {Q : VK} : uStr [.int i] H Q = (i.natAbs.log2 < 1920 ∧ Q (.str (toString i)) H) := by simp [uStr]
/-- max, min of two ints -/
def uMax : List V → Hp → VK → Prop := fun xs H Q => ∃ i j, xs = [.int i, .int j] ∧ Q (.int (if j > i then j else i)) H
def uMin : List V → Hp → VK → Prop := fun xs H Q => ∃ i j, xs = [.int i, .int j] ∧ Q (.int (if j < i then j else i)) H
theorem call_maxU (hc : X.calm = true) : CallR X (.builtin "max") uMax := call_max2 hc
theorem call_minU (hc : X.calm = true) : CallR X (.builtin "min") uMin := call_min2 hc
theorem uMax_ii {i j : Int} {H : Hp} {Q : VK} : uMax [.int i, .int j] H Q = Q (.int (if j > i then j else i)) H := by
  apply propext; constructor
  · rintro ⟨a, b, e, q⟩; cases e; exact q
  · exact fun q => ⟨i, j, rfl, q⟩
theorem uMin_ii {i j : Int} {H : Hp} {Q : VK} : uMin [.int i, .int j] H Q = Q (.int (if j < i then j else i)) H := by
  apply propext; constructor
  · rintro ⟨a, b, e, q⟩; cases e; exact q
  · exact fun q => ⟨i, j, rfl, q⟩
end
/-! ### within a comprehension's block -/
section
variable {Y : Cx} {sc : Scope} {N' : List Str} {pins : List (Addr × Obj)} {D : Addr} {fp : List Addr} {s : Shared} {H : Hp}
theorem pt_truL {a : Expr} {ta : TE} (ha : PE (cxLC Y sc N' pins D fp s H) a ta) (he : ∀ whole, isTrue a (cxLC Y sc N' pins D fp s H).env whole = (do let v ← whole; standAt a.pos; holding [v] (truthy v)) := by intro _; rfl) : PT (cxLC Y sc N' pins D fp s H) a (tTru Y.K ta) := pt_tru ha he
theorem pg_tupL {pos : Pos} {es : List Expr} {k : Nat} {t : TGs} {n : Nat} (h : PGs (cxLC Y sc N' pins D fp s H) es t) (hl : (assignEach es (cxLC Y sc N' pins D fp s H).env).length = n := by rfl) (hst : (assignEach es (cxLC Y sc N' pins D fp s H).env).findIdx? (·.1) = none := by rfl) : PG (cxLC Y sc N' pins D fp s H) (.Tuple es k pos) (gTup Y.K n t) := pg_tupA h hl hst
end
theorem gCons_c {t : TG} {u : TGs} {v : V} {r : List V} {σ : St} {H : Hp} {Q : St → Hp → Prop} : gCons t u (v :: r) σ H Q = t v σ H fun σ' H' => u r σ' H' Q := by
  apply propext; constructor
  · rintro ⟨v, r, e, h⟩; cases e; exact h
  · exact fun h => ⟨v, r, rfl, h⟩
theorem gNil_n {σ : St} {H : Hp} {Q : St → Hp → Prop} : gNil [] σ H Q = Q σ H := by
  apply propext; constructor
  · exact fun h => h.2
  · exact fun h => ⟨rfl, h⟩
/-! ### the readings, by what comes -/
section
variable {H : Hp} {Q : VK} {i j : Int} {x y : Str} {a b : Addr} {K : PySem.W.Frag} {g : Int → Int → V} {C : Int → Int → Prop} {k c : Bool} {QB : Bool → Hp → Prop}
theorem uAdd_ii : uAdd (.int i) (.int j) H Q = Q (.int (i + j)) H := by simp [uAdd]
theorem uAdd_ss : uAdd (.str x) (.str y) H Q = (x.length + y.length ≤ sizeLine ∧ Q (.str (x ++ y)) H) := by simp [uAdd]
theorem uAdd_rr : uAdd (.ref a) (.ref b) H Q = ∃ xs zs, H a = some (.lst xs) ∧ H b = some (.lst zs) ∧ xs.length + zs.length ≤ sizeLine ∧ ∀ p H2, New H p (.lst (xs ++ zs)) H2 → Q (.ref p) H2 := by simp [uAdd]
theorem uMul_ii : uMul (.int i) (.int j) H Q = (CMul i j ∧ Q (.int (i * j)) H) := by simp [uMul]
theorem uMul_ri : uMul (.ref a) (.int i) H Q = ∃ xs, H a = some (.lst xs) ∧ -(2 ^ 63) ≤ i ∧ i < 2 ^ 63 ∧ xs.length * i.toNat ≤ sizeLine ∧ ∀ p H2, New H p (.lst (List.replicate i.toNat xs).flatten) H2 → Q (.ref p) H2 := by simp [uMul]
theorem uIx_r : uIx (.ref a) (.int i) H Q = ∃ xs, (H a = some (.lst xs) ∨ H a = some (.tup xs)) ∧ ∃ v, atI xs i = some v ∧ Q v H := by
  apply propext; constructor
  · rintro (⟨p, xs, i, v, e1, e2, h, r⟩ | ⟨p, xs, i, v, e1, e2, h, r⟩ | ⟨z, i, c, e, _⟩)
    · cases e1; cases e2; exact ⟨xs, .inl h, v, r⟩
    · cases e1; cases e2; exact ⟨xs, .inr h, v, r⟩
    · cases e
  · rintro ⟨xs, h | h, v, r⟩
    · exact .inl ⟨_, xs, _, v, rfl, rfl, h, r⟩
    · exact .inr (.inl ⟨_, xs, _, v, rfl, rfl, h, r⟩)
theorem uIx_s : uIx (.str x) (.int i) H Q = (x.length ≤ sizeLine ∧ ∃ c, atI x.cps.toList i = some c ∧ Q (.str ⟨#[c]⟩) H) := by simp [uIx]
theorem uLen_r : uLen [.ref a] H Q = ∃ ys, (H a = some (.lst ys) ∨ H a = some (.tup ys)) ∧ Q (.int ys.length) H := by
  apply propext; constructor
  · rintro (⟨p, xs, e1, h, r⟩ | ⟨p, xs, e1, h, r⟩ | ⟨z, e, _⟩)
    · cases e1; exact ⟨xs, .inl h, r⟩
    · cases e1; exact ⟨xs, .inr h, r⟩
    · cases e
  · rintro ⟨xs, h | h, r⟩
    · exact .inl ⟨_, xs, rfl, h, r⟩
    · exact .inr (.inl ⟨_, xs, rfl, h, r⟩)
theorem uLen_s : uLen [.str x] H Q = (x.length ≤ sizeLine ∧ Q (.int x.length) H) := by simp [uLen]
theorem rI_ii : rI C g (.int i) (.int j) H Q = (C i j ∧ Q (g i j) H) := by simp [rI]
theorem rI0_ii : rI0 g (.int i) (.int j) H Q = Q (g i j) H := by simp [rI0]
theorem rU_i {g : Int → V} : rU g (.int i) H Q = Q (g i) H := by simp [rU]
theorem uEq_ii : uEq c (.int i) (.int j) H Q = Q (.bl (if c then !decide (i = j) else decide (i = j))) H := by simp [uEq, scal]
theorem uEq_ss : uEq c (.str x) (.str y) H Q = Q (.bl (if c then !decide (x = y) else decide (x = y))) H := by simp [uEq, scal]
theorem uEq_bb : uEq c (.bl k) (.bl k') H Q = Q (.bl (if c then !decide (k = k') else decide (k = k'))) H := by simp [uEq, scal]
theorem uEq_rr : uEq c (.ref a) (.ref b) H Q = ∃ xs ys, H a = some (.lst xs) ∧ H b = some (.lst ys) ∧ xs.all flatV = true ∧ ys.all flatV = true ∧ Q (.bl (if c then !eqL xs ys else eqL xs ys)) H := by simp [uEq, scal]
/-- the truth of a value, as a reading -/
def uTru (K : PySem.W.Frag) (v : V) (H : Hp) (Q : Bool → Hp → Prop) : Prop := ∃ k, TruV K v H k ∧ Q k H
theorem uTru_b : uTru K (.bl k) H QB = QB k H := by simp [uTru, TruV]
theorem uTru_n : uTru K .non H QB = QB false H := by simp [uTru, TruV]
theorem uTru_i : uTru K (.int i) H QB = QB (i != 0) H := by simp [uTru, TruV]
theorem tTru_eq {ta : TE} {σ : St} : tTru K ta σ H QB = ta σ H fun x H' => uTru K x H' QB := rfl
/-- a value that is a truth -/
def uB (v : V) (q : Bool → Prop) : Prop := ∃ c, v = .bl c ∧ q c
theorem uB_b {q : Bool → Prop} : uB (.bl k) q = q k := by simp [uB]
theorem tB_eq {t : TE} {σ : St} : tB t σ H QB = t σ H fun x H1 => uB x fun c => QB c H1 := rfl
theorem tTest_eq {t : TE} {σ : St} : tTest t σ H QB = t σ H fun x H1 => uB x fun c => QB c H1 := rfl
theorem tAndV_eq {t u : TE} {σ : St} : tAndV t u σ H Q = t σ H fun x H1 => uB x fun c => if c = true then u σ H1 Q else Q (.bl false) H1 := rfl
theorem tOrV_eq {t u : TE} {σ : St} : tOrV t u σ H Q = t σ H fun x H1 => uB x fun c => if c = true then Q (.bl true) H1 else u σ H1 Q := rfl
theorem tNotV_eq {t : TE} {σ : St} : tNotV t σ H Q = t σ H fun x H1 => uB x fun c => Q (.bl (!c)) H1 := rfl
theorem tChain_eq {r r' : R2} {ta tb tc : TE} {σ : St} : tChain r r' ta tb tc σ H Q = ta σ H fun x H1 => tb σ H1 fun y H2 => r x y H2 fun z H3 => uB z fun k => if k = true then tc σ H3 fun w' H4 => r' y w' H4 Q else Q (.bl false) H3 := rfl
theorem uR_r {q : Addr → Prop} : uR (.ref a) q = q a := by simp [uR]
theorem uFld_eq {C : Addr} {ta : TE} {f : Str} {σ : St} : uFld C ta f σ H Q = ta σ H fun x H1 => uR x fun a => ∃ dx fs v, H1 a = some (.ins C dx fs) ∧ fs.lookup f = some v ∧ Q v H1 := by
  unfold uFld uR
  congr; funext x H1
  apply propext
  constructor
  · rintro ⟨a, dx, fs, v, h1, h2, h3, h4⟩; exact ⟨a, h1, dx, fs, v, h2, h3, h4⟩
  · rintro ⟨a, h1, dx, fs, v, h2, h3, h4⟩; exact ⟨a, dx, fs, v, h1, h2, h3, h4⟩
theorem uSetF_eq {C : Addr} {ta tv : TE} {f : Str} {σ : St} {D : Ends} : uSetF C ta tv f D σ H = tv σ H fun y H1 => ta σ H1 fun x H2 => uR x fun a => ∃ dx fs, H2 a = some (.ins C dx fs) ∧ fs.length < 1000 ∧ D.nx σ (upd H2 a (.ins C dx (putF f y fs))) := by
  unfold uSetF uR
  congr; funext x H1; congr; funext x2 H2
  apply propext
  constructor
  · rintro ⟨a, dx, fs, h1, h2, h3, h4⟩; exact ⟨a, h1, dx, fs, h2, h3, h4⟩
  · rintro ⟨a, h1, dx, fs, h2, h3, h4⟩; exact ⟨a, dx, fs, h1, h2, h3, h4⟩
theorem tMeth_eq {C : Addr} {m : Str} {sp : Sp} {dvs : List V} {E : XK} {ta : TE} {t : TA} {σ : St} : tMeth C m sp dvs E ta t σ H Q = ta σ H fun x H1 => uR x fun a => ∃ dx fs, H1 a = some (.ins C dx fs) ∧ fs.lookup m = none ∧ t σ H1 fun vs H2 => sp (.ref a :: (vs ++ dvs)) H2 Q E := by
  unfold tMeth uR
  congr; funext x H1
  apply propext
  constructor
  · rintro ⟨a, dx, fs, rfl, h2, h3, h4⟩; exact ⟨a, rfl, dx, fs, h2, h3, h4⟩
  · rintro ⟨a, rfl, dx, fs, h2, h3, h4⟩; exact ⟨a, dx, fs, rfl, h2, h3, h4⟩
theorem tMethX_eq {C : Addr} {m : Str} {sp : Sp} {dvs : List V} {Ex : Addr → St → Hp → Prop} {ta : TE} {t : TA} {σ : St} : tMethX C m sp dvs Ex ta t σ H Q = ta σ H fun x H1 => uR x fun a => ∃ dx fs, H1 a = some (.ins C dx fs) ∧ fs.lookup m = none ∧ t σ H1 fun vs H2 => sp (.ref a :: (vs ++ dvs)) H2 Q (XE Ex σ) := by
  unfold tMethX uR
  congr; funext x H1
  apply propext
  constructor
  · rintro ⟨a, dx, fs, rfl, h2, h3, h4⟩; exact ⟨a, rfl, dx, fs, h2, h3, h4⟩
  · rintro ⟨a, rfl, dx, fs, h2, h3, h4⟩; exact ⟨a, dx, fs, rfl, h2, h3, h4⟩
end
/-! ### loops, comprehensions: by what is walked -/
section
variable {K : PySem.W.Frag} {g : TG} {tb : TS} {D : Ends} {σ : St} {H : Hp} {ta : TA} {tl : TE} {wi : TI} {R : It → Hp → Prop} {j : Int} {tt : TT} {te : TE} {ix : List (Option Nat)} {Q : VK}
def ForJ (J : It) (g : TG) (tb : TS) (D : Ends) (σ : St) (H : Hp) : Prop := ∃ W : Nat → Nat → St → Hp → Prop, (∃ m, W 0 m σ H) ∧ ∀ i m σ H, W i m σ H →
  (J.stop i H ∧ D.nx σ H) ∨ (J.go i H ∧ ∃ N : St → Hp → Prop, (∀ σ' H', N σ' H' → ∃ m', m' < m ∧ W (i + 1) m' σ' H') ∧ ∀ x H', J.yld i H x H' → g x σ H' fun σ2 H2 => tb { D with nx := N, ct := N, bk := D.nx } σ2 H2)
theorem tFor_eq : tFor wi g tb D σ H = wi σ H fun J H1 => ForJ J g tb D σ H1 := rfl
def uI1 (vs : List V) (q : Int → Prop) : Prop := ∃ j, vs = [.int j] ∧ q j
theorem uI1_i {q : Int → Prop} : uI1 [.int j] q = q j := by simp [uI1]
theorem iRng1_eq : iRng1 ta σ H R = ta σ H fun vs H1 => uI1 vs fun j => -(2 ^ 62) ≤ j ∧ j < 2 ^ 62 ∧ R (Itr 0 j.toNat) H1 := rfl
theorem iList_eq : iList K tl σ H R = tl σ H fun x H1 => uR x fun a => (∃ xs, SqL K H1 a xs) ∧ R (Itl K a) H1 := rfl
theorem iTup_eq : iTup K tl σ H R = tl σ H fun x H1 => uR x fun a => (∃ xs, SqT K H1 a xs) ∧ R (Itt K a) H1 := rfl
def uR2 (vs : List V) (q : Addr → Addr → Prop) : Prop := ∃ a b, vs = [.ref a, .ref b] ∧ q a b
theorem uR2_r {q : Addr → Addr → Prop} {a b : Addr} : uR2 [.ref a, .ref b] q = q a b := by
  apply propext
  constructor
  · rintro ⟨c, d, e, h⟩; cases e; exact h
  · exact fun h => ⟨a, b, rfl, h⟩
theorem iZip_eq : iZip K ta σ H R = ta σ H fun vs H1 => uR2 vs fun a b => (∃ xs, SqL K H1 a xs) ∧ (∃ ys, SqL K H1 b ys) ∧ R (Itz K a b) H1 := by
  unfold iZip uR2
  rfl
def CompJ (J : It) (g : TG) (tt : TT) (te : TE) (τ : St) (H : Hp) (Q : VK) : Prop := ∃ W : Nat → Nat → St → List V → Hp → Prop, (∃ m, W 0 m τ [] H) ∧ ∀ i m τ ys H2, W i m τ ys H2 → ys.length < sizeLine ∧
  ((J.stop i H2 ∧ ∀ D, H2 D = none → Q (.ref D) (upd H2 D (.lst ys))) ∨
   (J.go i H2 ∧ ∀ x H3, J.yld i H2 x H3 → g x τ H3 fun τ1 H4 => tt τ1 H4 fun ok H5 => if ok = true then te τ1 H5 fun y H6 => ∃ m', m' < m ∧ W (i + 1) m' τ1 (ys ++ [y]) H6 else ∃ m', m' < m ∧ W (i + 1) m' τ1 ys H5))
theorem tLC_eq : tLC ix wi g tt te σ H Q = wi σ H fun J H1 => CompJ J g tt te (pick ix σ) H1 Q := rfl
theorem ForJ.rng {lo : Int} {n : Nat} (Pv : Nat → St → Hp → Prop) (h0 : Pv 0 σ H)
    (hs : ∀ i σ H, i < n → Pv i σ H → g (.int (lo + i)) σ H fun σ2 H2 => tb { D with nx := Pv (i + 1), ct := Pv (i + 1), bk := D.nx } σ2 H2) (hd : ∀ σ H, Pv n σ H → D.nx σ H) : ForJ (Itr lo n) g tb D σ H := for_range Pv h0 hs hd
theorem ForJ.lst {a : Addr} {xs : List V} (Pv : Nat → St → Hp → Prop) (h0 : Pv 0 σ H) (hl : ∀ i σ H, i ≤ xs.length → Pv i σ H → SqL K H a xs)
    (hs : ∀ i x σ H, xs[i]? = some x → Pv i σ H → g x σ H fun σ2 H2 => tb { D with nx := Pv (i + 1), ct := Pv (i + 1), bk := D.nx } σ2 H2) (hd : ∀ σ H, Pv xs.length σ H → D.nx σ H) : ForJ (Itl K a) g tb D σ H := for_list Pv h0 hl hs hd
/-- what a turn of a comprehension is to reach -/
def CompN (N : St → List V → Hp → Prop) (ys : List V) (τ1 : St) (te : TE) (ok : Bool) (H5 : Hp) : Prop := if ok = true then te τ1 H5 fun y H6 => N τ1 (ys ++ [y]) H6 else N τ1 ys H5
theorem CompN_t {N : St → List V → Hp → Prop} {ys : List V} {τ : St} : CompN N ys τ te true H = te τ H fun y H6 => N τ (ys ++ [y]) H6 := rfl
theorem CompN_f {N : St → List V → Hp → Prop} {ys : List V} {τ : St} : CompN N ys τ te false H = N τ ys H := rfl
theorem CompJ.rng {lo : Int} {n : Nat} {τ : St} (Pv : Nat → St → List V → Hp → Prop) (hz : ∀ i τ ys H, Pv i τ ys H → ys.length < sizeLine) (h0 : Pv 0 τ [] H)
    (hs : ∀ (N : St → List V → Hp → Prop) i τ ys H, i < n → Pv i τ ys H → (∀ τ ys H, Pv (i + 1) τ ys H → N τ ys H) → g (.int (lo + i)) τ H fun τ1 H4 => tt τ1 H4 fun ok H5 => CompN N ys τ1 te ok H5) (hd : ∀ τ ys H, Pv n τ ys H → ∀ D H', New H D (.lst ys) H' → Q (.ref D) H') : CompJ (Itr lo n) g tt te τ H Q := by
  refine ⟨fun i m τ ys H => m = n - i ∧ i ≤ n ∧ Pv i τ ys H, ⟨n, by simp, Nat.zero_le _, h0⟩, ?_⟩
  rintro i m τ ys H2 ⟨rfl, hi, p⟩
  refine ⟨hz i τ ys H2 p, ?_⟩
  by_cases hlt : i < n
  · refine .inr ⟨hlt, fun x H' y => ?_⟩
    obtain ⟨e, y⟩ := y
    subst e y
    exact hs (fun τ1 ys H => ∃ m', m' < n - i ∧ m' = n - (i + 1) ∧ i + 1 ≤ n ∧ Pv (i + 1) τ1 ys H) i τ ys _ hlt p fun τ1 zs H q => ⟨n - (i + 1), by omega, rfl, hlt, q⟩
  · have e : i = n := by omega
    subst e
    exact .inl ⟨Nat.le_refl _, fun D hD => hd τ ys H2 p D _ (.mk' hD)⟩
/-- a comprehension over two lists -/
theorem CompJ.zip {a b : Addr} {xs ys : List V} {τ : St} (hlen : xs.length = ys.length) (Pv : Nat → St → List V → Hp → Prop) (hz : ∀ i τ zs H, Pv i τ zs H → zs.length < sizeLine) (ha : ∀ i τ zs H, Pv i τ zs H → SqL K H a xs ∧ SqL K H b ys) (h0 : Pv 0 τ [] H)
    (hs : ∀ (N : St → List V → Hp → Prop) i x y p τ zs H, xs[i]? = some x → ys[i]? = some y → Pv i τ zs H → H p = none → (∀ τ zs H, Pv (i + 1) τ zs H → N τ zs H) → g (.ref p) τ (upd H p (.tup [x, y])) fun τ1 H4 => tt τ1 H4 fun ok H5 => CompN N zs τ1 te ok H5) (hd : ∀ τ zs H, Pv xs.length τ zs H → ∀ D H', New H D (.lst zs) H' → Q (.ref D) H') : CompJ (Itz K a b) g tt te τ H Q := by
  refine ⟨fun i m τ zs H => m = xs.length - i ∧ i ≤ xs.length ∧ Pv i τ zs H, ⟨xs.length, by simp, Nat.zero_le _, h0⟩, ?_⟩
  rintro i m τ zs H2 ⟨rfl, hi, p⟩
  refine ⟨hz i τ zs H2 p, ?_⟩
  obtain ⟨qa, qb⟩ := ha i τ zs H2 p
  by_cases hlt : i < xs.length
  · refine .inr ⟨⟨xs, ys, xs[i], ys[i]'(by omega), qa, qb, List.getElem?_eq_getElem hlt, List.getElem?_eq_getElem _⟩, fun v H' y => ?_⟩
    obtain ⟨T, x, y, hT, rfl, rfl, hx, hy⟩ := y
    exact hs (fun τ1 ys H => ∃ m', m' < xs.length - i ∧ m' = xs.length - (i + 1) ∧ i + 1 ≤ xs.length ∧ Pv (i + 1) τ1 ys H) i x y T τ zs _ (hx _ qa) (hy _ qb) p hT fun τ1 zs H q => ⟨xs.length - (i + 1), by omega, rfl, hlt, q⟩
  · have e : i = xs.length := by omega
    subst e
    exact .inl ⟨⟨xs, ys, qa, qb, Nat.le_refl _⟩, fun D hD => hd τ zs H2 p D _ (.mk' hD)⟩
end
end L2
set_option Elab.async false
set_option linter.all false
set_option maxRecDepth 100000
set_option maxHeartbeats 4000000
namespace L2
open PySem PySem.Spec PyProof.Rows
section
variable {X : Cx}
/-! ### texts: slices, join, repeated -/
def rSlS : V → Option Int → Option Int → Hp → VK → Prop := fun x lo hi H Q => ∃ z, x = .str z ∧ z.length ≤ sizeLine ∧ Q (.str (Txt.slice z lo hi)) H
def uSl : V → Option Int → Option Int → Hp → VK → Prop := fun x lo hi H Q => (∃ a xs, x = .ref a ∧ H a = some (.lst xs) ∧ ∀ p H2, New H p (.lst (cutV xs lo hi)) H2 → Q (.ref p) H2) ∨ rSlS x lo hi H Q
theorem SlR.weak {r r' : V → Option Int → Option Int → Hp → VK → Prop} (h : SlR X r) (hw : ∀ x l u H Q, r' x l u H Q → r x l u H Q) : SlR X r' :=
  fun pins s σ H x v vl vu lo hi sl Q I rx hs pl pu q => h pins s σ H x v vl vu lo hi sl Q I rx hs pl pu (hw _ _ _ _ _ q)
/-- a slice's part as a reading -/
def uPart (v : V) (q : Int → Prop) : Prop := ∃ i, v = .int i ∧ q i
theorem uPart_i {i : Int} {q : Int → Prop} : uPart (.int i) q = q i := by simp [uPart]
theorem tPart_eq {t : TE} {σ : St} {H : Hp} {Q : Option Int → Hp → Prop} : tPart t σ H Q = t σ H fun x H1 => uPart x fun i => Q (some i) H1 := rfl
theorem uSl_s {z : Str} {lo hi : Option Int} {H : Hp} {Q : VK} : uSl (.str z) lo hi H Q = (z.length ≤ sizeLine ∧ Q (.str (Txt.slice z lo hi)) H) := by simp [uSl, rSlS]
theorem uSl_r {a : Addr} {lo hi : Option Int} {H : Hp} {Q : VK} : uSl (.ref a) lo hi H Q = ∃ xs, H a = some (.lst xs) ∧ ∀ p H2, New H p (.lst (cutV xs lo hi)) H2 → Q (.ref p) H2 := by simp [uSl, rSlS]
def rJoin : V → List V → Hp → VK → Prop := fun x vs H Q => ∃ z p ys, x = .str z ∧ vs = [.ref p] ∧ H p = some (.lst (ys.map V.str)) ∧ (ys.map (·.length)).sum + ys.length * z.length ≤ 16777216 ∧ Q (.str (Txt.join z ys)) H
/-- text * n -/
def repS (z : Str) (n : Nat) : Str := ⟨((List.replicate n z.cps.toList).flatten).toArray⟩
theorem foldl_repN {α : Type} (l : List α) : ∀ (n : Nat) (acc : List α), List.foldl (fun x1 x2 : Array α => x1 ++ x2) acc.toArray (List.replicate n l.toArray) = (acc ++ (List.replicate n l).flatten).toArray
  | 0, acc => by simp
  | n + 1, acc => by
    rw [List.replicate_succ, List.foldl_cons, List.append_toArray, foldl_repN l n (acc ++ l)]
    simp [List.replicate_succ]
theorem repS_eq (z : Str) (n : Nat) : (⟨(List.replicate n z.cps).foldl (· ++ ·) #[]⟩ : Str) = repS z n := by
  have h := foldl_repN z.cps.toList n []
  unfold repS
  congr 1
theorem flat_len {α : Type} (l : List α) : ∀ n : Nat, ((List.replicate n l).flatten).length = l.length * n
  | 0 => by simp
  | n + 1 => by rw [List.replicate_succ, List.flatten_cons, List.length_append, flat_len l n, Nat.mul_succ]; omega
theorem repS_len (z : Str) (n : Nat) : (repS z n).length = z.length * n := by
  show (((List.replicate n z.cps.toList).flatten).toArray).size = _
  rw [List.size_toArray, flat_len]
  rfl
def rRepS : R2 := fun x y H Q => ∃ z n, x = .str z ∧ y = .int n ∧ 1 < n ∧ n < 2 ^ 31 ∧ z.length ≠ 0 ∧ z.length * n.toNat ≤ sizeLine ∧ Q (.str (repS z n.toNat)) H
theorem op_repS : OpR X (binaryOp .Mult) rRepS := by
  intro pins s σ H x y v u Q I rx ry h
  obtain ⟨z, n, rfl, rfl, h1, h2, h3, h4, q⟩ := h
  obtain ⟨t, rfl⟩ := rx
  obtain ⟨t', rfl⟩ := ry
  have hs : sizeLine = 16777216 := sizeLine_eq
  have hc : (n == 1 || z.length == 0) = false := by
    rw [Bool.or_eq_false_iff]
    exact ⟨beq_eq_false_iff_ne.mpr (by omega), beq_eq_false_iff_ne.mpr h3⟩
  have hz : z.length ≤ 16777216 := by
    have : z.length * 1 ≤ z.length * n.toNat := Nat.mul_le_mul_left _ (by omega)
    omega
  refine PySem.P.mul_str ?_ ?_ ?_ ?_
  · rw [decide_eq_false (show ¬ n < -(2 ^ 63 : Int) by omega), decide_eq_false (show ¬ n ≥ 2 ^ 63 by omega)]; rfl
  · intro _ _ hgt
    have : (16777216 : Int) ≤ (2 ^ 63 - 1) / n := Int.le_ediv_of_mul_le (by omega) (by omega)
    omega
  · intro _ _
    exact decide_eq_false (by omega)
  · rw [if_neg (show ¬ n < 1 by omega), if_neg (by rw [hc]; exact Bool.false_ne_true), repS_eq]
    exact ⟨by rw [repS_len]; omega, ⟨.str _, H, I.tok _, ⟨_, rfl⟩, q⟩⟩
/-! ### lists: clear, list(..), items set -/
theorem rSetL_r {p : Addr} {k : Int} {v : V} {H : Hp} {Q : Hp → Prop} : rSetL (.ref p) (.int k) v H Q = ∃ xs j, H p = some (.lst xs) ∧ ixN xs.length k = some j ∧ Q (upd H p (.lst (xs.set j v))) := by
  apply propext; constructor
  · rintro ⟨p', xs, k', j, e1, e2, h⟩; cases e1; cases e2; exact ⟨xs, j, h⟩
  · rintro ⟨xs, j, h⟩; exact ⟨p, xs, k, j, rfl, rfl, h⟩
def uListOf : List V → Hp → VK → Prop := fun xs H Q => ∃ p ys, xs = [.ref p] ∧ (H p = some (.lst ys) ∨ H p = some (.tup ys)) ∧ ∀ l H2, New H l (.lst ys) H2 → Q (.ref l) H2
theorem uListOf_r {a : Addr} {H : Hp} {Q : VK} : uListOf [.ref a] H Q = ∃ ys, (H a = some (.lst ys) ∨ H a = some (.tup ys)) ∧ ∀ l H2, New H l (.lst ys) H2 → Q (.ref l) H2 := by
  apply propext; constructor
  · rintro ⟨p, ys, e, h⟩; cases e; exact ⟨ys, h⟩
  · rintro ⟨ys, h⟩; exact ⟨a, ys, rfl, h⟩
/-- xs.clear() -/
def uClear (to : TE) : TE := fun σ H Q => to σ H fun x H1 => uR x fun l => ∃ xs, H1 l = some (.lst xs) ∧ Q .non (upd H1 l (.lst []))
theorem rJoin_sr {z : Str} {p : Addr} {H : Hp} {Q : VK} : rJoin (.str z) [.ref p] H Q = ∃ ys : List Str, H p = some (.lst (ys.map V.str)) ∧ (ys.map (·.length)).sum + ys.length * z.length ≤ 16777216 ∧ Q (.str (Txt.join z ys)) H := by
  apply propext; constructor
  · rintro ⟨z', p', ys, e1, e2, h⟩; cases e1; cases e2; exact ⟨ys, h⟩
  · rintro ⟨ys, h⟩; exact ⟨z, p, ys, rfl, rfl, h⟩
end
end L2
set_option Elab.async false
set_option linter.all false
set_option maxRecDepth 100000
set_option maxHeartbeats 4000000
namespace L2
open PySem PySem.Spec PyProof.Rows
/-! ### for i, x in enumerate(list) -/
def Ite (K : PySem.W.Frag) (a : Addr) : It :=
  ⟨fun i H => ∃ xs x, SqL K H a xs ∧ xs[i]? = some x, fun i H v H' => ∃ T x, H T = none ∧ v = .ref T ∧ H' = upd H T (.tup [.int i, x]) ∧ ∀ xs, SqL K H a xs → xs[i]? = some x, fun i H => ∃ xs, SqL K H a xs ∧ xs.length ≤ i⟩
section
variable {X : Cx}
def iEnum (K : PySem.W.Frag) (ta : TA) : TI := fun σ H R => ta σ H fun vs H1 => ∃ a, vs = [.ref a] ∧ (∃ xs, SqL K H1 a xs) ∧ R (Ite K a) H1
end
section
variable {K : PySem.W.Frag} {g : TG} {tb : TS} {D : Ends} {σ : St} {H : Hp} {ta : TA} {R : It → Hp → Prop}
def uR1 (vs : List V) (q : Addr → Prop) : Prop := ∃ a, vs = [.ref a] ∧ q a
theorem uR1_r {q : Addr → Prop} {a : Addr} : uR1 [.ref a] q = q a := by
  apply propext; constructor
  · rintro ⟨c, e, h⟩; cases e; exact h
  · exact fun h => ⟨a, rfl, h⟩
theorem iEnum_eq : iEnum K ta σ H R = ta σ H fun vs H1 => uR1 vs fun a => (∃ xs, SqL K H1 a xs) ∧ R (Ite K a) H1 := rfl
end
end L2
set_option Elab.async false
set_option linter.all false
set_option maxRecDepth 100000
set_option maxHeartbeats 4000000
namespace L2
open PySem PySem.Spec PyProof.Rows
section
variable {X : Cx}
/-- o.f op= value where the class is known -/
def uAugF (C : Addr) (ta tv : TE) (rd : V → V → Hp → VK → Prop) (f : Str) : TS := fun D σ H => ta σ H fun x H1 => uR x fun a => ∃ dx fs v, H1 a = some (.ins C dx fs) ∧ fs.lookup f = some v ∧
  tv σ H1 fun y H2 => rd v y H2 fun z H3 => ∃ dx' fs', H3 a = some (.ins C dx' fs') ∧ fs'.length < 1000 ∧ D.nx σ (upd H3 a (.ins C dx' (putF f z fs')))
theorem rAdd_ii {i j : Int} {H : Hp} {Q : VK} : rAdd (.int i) (.int j) H Q = Q (.int (i + j)) H := by simp [rAdd]
theorem rSub_ii {i j : Int} {H : Hp} {Q : VK} : rSub (.int i) (.int j) H Q = Q (.int (i - j)) H := by simp [rSub]
/-- is, is not None -/
def uIsN (neg : Bool) : R2 := fun x y H Q => y = .non ∧ Q (.bl (if neg then !decide (x = .non) else decide (x = .non))) H
theorem uIsN_n {c : Bool} {H : Hp} {Q : VK} : uIsN c .non .non H Q = Q (.bl (if c then false else true)) H := by simp [uIsN]
theorem uIsN_i {c : Bool} {i : Int} {H : Hp} {Q : VK} : uIsN c (.int i) .non H Q = Q (.bl (if c then true else false)) H := by simp [uIsN]
/-- text * n beside the rest -/
def uMulS : R2 := fun x y H Q => uMul x y H Q ∨ rRepS x y H Q
theorem op_mulS : OpR X (binaryOp .Mult) uMulS := op_mulU.or op_repS
theorem uMulS_ii {i j : Int} {H : Hp} {Q : VK} : uMulS (.int i) (.int j) H Q = (CMul i j ∧ Q (.int (i * j)) H) := by simp [uMulS, uMul_ii, rRepS]
theorem uMulS_ri {a : Addr} {i : Int} {H : Hp} {Q : VK} : uMulS (.ref a) (.int i) H Q = uMul (.ref a) (.int i) H Q := by simp [uMulS, rRepS]
theorem uMulS_si {z : Str} {i : Int} {H : Hp} {Q : VK} : uMulS (.str z) (.int i) H Q = (1 < i ∧ i < 2 ^ 31 ∧ z.length ≠ 0 ∧ z.length * i.toNat ≤ sizeLine ∧ Q (.str (repS z i.toNat)) H) := by
  simp [uMulS, uMul, rRepS]
/-- x.join(e) -/
def uS (v : V) (q : Str → Prop) : Prop := ∃ z, v = .str z ∧ q z
theorem uS_s {z : Str} {q : Str → Prop} : uS (.str z) q = q z := by simp [uS]
def uJoinE (to te : TE) : TE := fun σ H Q => to σ H fun x H1 => uS x fun z => te σ H1 fun y H2 => rJoin (.str z) [y] H2 Q
/-- xs[::-1]: some list of items of xs -/
def uRev (te : TE) : TE := fun σ H Q => te σ H fun x H1 => uR x fun a => ∃ xs, H1 a = some (.lst xs) ∧ ∀ ys : List V, (∀ y ∈ ys, y ∈ xs) → ys.length ≤ xs.length → ∀ p H2, New H1 p (.lst ys) H2 → Q (.ref p) H2
end
section
variable {K : PySem.W.Frag} {g : TG} {tb : TS} {D : Ends} {σ : St} {H : Hp} {ta : TA} {tl : TE} {wi : TI} {R : It → Hp → Prop} {j : Int} {tt : TT} {te : TE} {ix : List (Option Nat)} {Q : VK}
def uI2 (vs : List V) (q : Int → Int → Prop) : Prop := ∃ i j, vs = [.int i, .int j] ∧ q i j
theorem uI2_i {i : Int} {q : Int → Int → Prop} : uI2 [.int i, .int j] q = q i j := by
  apply propext; constructor
  · rintro ⟨a, b, e, h⟩; cases e; exact h
  · exact fun h => ⟨i, j, rfl, h⟩
theorem iRng2_eq : iRng2 ta σ H R = ta σ H fun vs H1 => uI2 vs fun i j => (-(2 ^ 62) ≤ i ∧ i < 2 ^ 62 ∧ -(2 ^ 62) ≤ j ∧ j < 2 ^ 62) ∧ R (Itr i (j - i).toNat) H1 := rfl
theorem ForJ.tup {a : Addr} {xs : List V} (Pv : Nat → St → Hp → Prop) (h0 : Pv 0 σ H) (hl : ∀ i σ H, i ≤ xs.length → Pv i σ H → SqT K H a xs)
    (hs : ∀ i x σ H, xs[i]? = some x → Pv i σ H → g x σ H fun σ2 H2 => tb { D with nx := Pv (i + 1), ct := Pv (i + 1), bk := D.nx } σ2 H2) (hd : ∀ σ H, Pv xs.length σ H → D.nx σ H) : ForJ (Itt K a) g tb D σ H := for_tup Pv h0 hl hs hd
/-- a comprehension over a list -/
theorem CompJ.lst {a : Addr} {xs : List V} {τ : St} (Pv : Nat → St → List V → Hp → Prop) (hz : ∀ i τ ys H, Pv i τ ys H → ys.length < sizeLine) (ha : ∀ i τ ys H, Pv i τ ys H → SqL K H a xs) (h0 : Pv 0 τ [] H)
    (hs : ∀ (N : St → List V → Hp → Prop) i x τ ys H, xs[i]? = some x → Pv i τ ys H → (∀ τ ys H, Pv (i + 1) τ ys H → N τ ys H) → g x τ H fun τ1 H4 => tt τ1 H4 fun ok H5 => CompN N ys τ1 te ok H5) (hd : ∀ τ ys H, Pv xs.length τ ys H → ∀ D H', New H D (.lst ys) H' → Q (.ref D) H') : CompJ (Itl K a) g tt te τ H Q := by
  refine ⟨fun i m τ ys H => m = xs.length - i ∧ i ≤ xs.length ∧ Pv i τ ys H, ⟨xs.length, by simp, Nat.zero_le _, h0⟩, ?_⟩
  rintro i m τ ys H2 ⟨rfl, hi, p⟩
  refine ⟨hz i τ ys H2 p, ?_⟩
  have q := ha i τ ys H2 p
  by_cases hlt : i < xs.length
  · refine .inr ⟨⟨xs, xs[i], q, by simp [hlt]⟩, fun x H' y => ?_⟩
    obtain ⟨e, y⟩ := y
    subst e
    exact hs (fun τ1 ys H => ∃ m', m' < xs.length - i ∧ m' = xs.length - (i + 1) ∧ i + 1 ≤ xs.length ∧ Pv (i + 1) τ1 ys H) i x τ ys _ (y xs q) p fun τ1 zs H q => ⟨xs.length - (i + 1), by omega, rfl, hlt, q⟩
  · have e : i = xs.length := by omega
    subst e
    exact .inl ⟨⟨xs, q, Nat.le_refl _⟩, fun D hD => hd τ ys H2 p D _ (.mk' hD)⟩
end
end L2
set_option Elab.async false
set_option linter.all false
set_option maxRecDepth 100000
set_option maxHeartbeats 4000000
namespace L2
open PySem PySem.Spec PyProof.Rows
/-- a judgement as one thing (a term of rules is elaborated once, not twice a level) -/
structure W (p : Prop) : Prop where
  h : p
section
variable {X : Cx}
theorem w_pss_nil  : W (PSs X [] tNext) := ⟨pss_nil ⟩
theorem w_pss_cons {st : Stmt} {rest : List Stmt} {t : TS} {u : TS} (h1 : W (PS X st t)) (h2 : W (PSs X rest u)) : W (PSs X (st :: rest) (tSeq t u)) := ⟨pss_cons (h1 := h1.h) (h2 := h2.h)⟩
theorem w_pss_one {st : Stmt} {t : TS} (h1 : W (PS X st t)) : W (PSs X [st] t) := ⟨pss_one (h1 := h1.h)⟩
theorem w_ps_ret {e : Expr} {te : TE} {pos : Pos} (he : W (PE X e te)) : W (PS X (.Return (some e) pos) (tRet te)) := ⟨ps_ret (he := he.h)⟩
theorem w_ps_expr {e : Expr} {te : TE} {pos : Pos} (he : W (PE X e te)) (hs : swapsWith e none pos.line X.env = pure false := by rfl) : W (PS X (.Expr e pos) (tDrop te)) := ⟨ps_expr (he := he.h) (hs := hs)⟩
theorem w_ps_set {pos : Pos} {i : Nat} {x : Str} {e : Expr} {te : TE} {pos' : Pos} (hN : X.N.Nodup) (hi : X.N[i]? = some x) (hx : Loc X.env.scope x) (he : W (PE X e te)) (hs : swapsWith e (some (.Name x pos')) pos.line X.env = pure false := by rfl) (hf : X.fn x = true ∨ X.env.scope.names.lookup x = some .local := by first | exact .inl rfl | exact .inr rfl | assumption) : W (PS X (.Assign [.Name x pos'] e pos) (tAsg te (gName i))) := ⟨ps_set (hN := hN) (hi := hi) (hx := hx) (he := he.h) (hs := hs) (hf := hf)⟩
theorem w_ps_fldU {C : Addr} {o value : Expr} {ta tv : TE} {f : Str} {pos pos' : Pos} (c : Cls X.K C) (n : NoAttr X.K C f) (ha : W (PE X o ta)) (hv : W (PE X value tv)) (hs : swapsWith value (some (.Attribute o f pos')) pos.line X.env = pure false := by rfl) : W (PS X (.Assign [.Attribute o f pos'] value pos) (uSetF C ta tv f)) := ⟨ps_fldU (c := c) (n := n) (ha := ha.h) (hv := hv.h) (hs := hs)⟩
theorem w_ps_asg {pos : Pos} {tg e : Expr} {te : TE} {g : TG} (he : W (PE X e te)) (hg : W (PG X tg g)) (hs : swapsWithSole [tg] e pos.line X.env = pure false := by rfl) (hw : swappedStores [tg] e X.env = pure none := by rfl) (h1 : (assignEach [tg] X.env).map (·.2) = [assign tg X.env] := by rfl) : W (PS X (.Assign [tg] e pos) (tAsg te g)) := ⟨ps_asg (he := he.h) (hg := hg.h) (hs := hs) (hw := hw) (h1 := h1)⟩
theorem w_ps_if {t : TS} {u : TS} {pos : Pos} {c : Expr} {a b : List Stmt} {tc : TT} (hc : W (PT X c tc)) (ha : W (PSs X a t)) (hb : W (PSs X b u)) : W (PS X (.If c a b pos) (tIfS tc t u)) := ⟨ps_if (hc := hc.h) (ha := ha.h) (hb := hb.h)⟩
theorem w_ps_for {tg : Expr} {c : Bool} {iter : Expr} {body : List Stmt} {wi : TI} {g : TG} {tb : TS} {pos : Pos} (hp : PassesOwn (model X.prog X.w) X.A X.env X.xe) (hc : c = true → X.calm = true) (hi : W (PIc c X tg iter wi)) (hg : W (PG X tg g)) (hb : W (PSs X body tb)) (hs : ∀ x, foldedSetIterable iter X.env x = pure x := by intro _; rfl) : W (PS X (.For tg iter body [] pos) (tFor wi g tb)) := ⟨ps_for (hp := hp) (hc := hc) (hi := hi.h) (hg := hg.h) (hb := hb.h) (hs := hs)⟩
theorem w_ps_raisep {Ex : Addr → St → Hp → Prop} {C : Addr} {x : Str} {np cpos pos : Pos} {e : Expr} {es : List Expr} {t : TA} (hc : X.calm = true) (T : Throws X Ex) (O : ErrK X.K C) (hg : Gl X x) (hm : X.mg x = some (.ref C)) (ha : W (PA X (e :: es) t)) (hp : plainE e = true := by rfl) (hps : plainEs es = true := by rfl) (hdb : (x == ("__debug__" : Str)) = false := by decide) : W (PS X (.Raise (some (.Call (.Name x np) (e :: es) [] cpos)) none pos) (tRaise C Ex t)) := ⟨ps_raisep (hc := hc) (T := T) (O := O) (hg := hg) (hm := hm) (ha := ha.h) (hp := hp) (hps := hps) (hdb := hdb)⟩
theorem w_pi_range1p {tg a : Expr} {ta : TA} {p pos : Pos} (hg : Gl X "range") (hm : X.mg "range" = none) (ha : W (PA X [a] ta)) (hp : plainE a = true := by rfl) : W (PIc true X tg (.Call (.Name "range" p) [a] [] pos) (iRng1 ta)) := ⟨pi_range1p (hg := hg) (hm := hm) (ha := ha.h) (hp := hp)⟩
theorem w_pi_zipp {elts : List Expr} {kk : Nat} {tp p pos : Pos} {a b : Expr} {ta : TA} (hg : Gl X "zip") (hm : X.mg "zip" = none) (ha : W (PA X [a, b] ta)) (hp : plainE a = true := by rfl) (hp' : plainE b = true := by rfl) : W (PIc false X (.Tuple elts kk tp) (.Call (.Name "zip" p) [a, b] [] pos) (iZip X.K ta)) := ⟨pi_zipp (hg := hg) (hm := hm) (ha := ha.h) (hp := hp) (hp' := hp')⟩
theorem w_pa_nil  : W (PA X [] tNil) := ⟨pa_nil ⟩
theorem w_pa_p {e : Expr} {es : List Expr} {te : TE} {t : TA} (ha : W (PE X e te)) (hr : W (PA X es t)) (hp : plainE e = true := by rfl) : W (PA X (e :: es) (tCons te t)) := ⟨pa_p (ha := ha.h) (hr := hr.h) (hp := hp)⟩
theorem w_pt_not {a : Expr} {pos : Pos} {tA : TT} (ha : W (PT X a tA)) : W (PT X (.UnaryOp .Not a pos) (tNot tA)) := ⟨pt_not (ha := ha.h)⟩
theorem w_pw_and1 {a : Expr} {pos : Pos} {tA : TT} (ha : W (PT X a tA)) : W (PW X (.BoolOp .And [a] pos) tA) := ⟨pw_and1 (ha := ha.h)⟩
theorem w_pw_or1 {a : Expr} {pos : Pos} {tA : TT} (ha : W (PT X a tA)) : W (PW X (.BoolOp .Or [a] pos) tA) := ⟨pw_or1 (ha := ha.h)⟩
theorem w_pw_and {a : Expr} {b : Expr} {pos : Pos} {tA : TT} {tB' : TT} {rest : List Expr} (ha : W (PT X a tA)) (hb : W (PW X (.BoolOp .And (b :: rest) pos) tB')) : W (PW X (.BoolOp .And (a :: b :: rest) pos) (tAnd tA tB')) := ⟨pw_and (ha := ha.h) (hb := hb.h)⟩
theorem w_pw_or {a : Expr} {b : Expr} {pos : Pos} {tA : TT} {tB' : TT} {rest : List Expr} (ha : W (PT X a tA)) (hb : W (PW X (.BoolOp .Or (b :: rest) pos) tB')) : W (PW X (.BoolOp .Or (a :: b :: rest) pos) (tOr tA tB')) := ⟨pw_or (ha := ha.h) (hb := hb.h)⟩
theorem w_pt_cmpR {a : Expr} {b : Expr} {ta : TE} {tb : TE} {pos : Pos} {op : CmpOp} {r : R2} (ho : OpR X (compareOp op) r) (ha : W (PE X a ta)) (hb : W (PE X b tb)) (hm : behindInMarks op b = false) : W (PT X (.Compare a [op] [b] pos) (tTest (tOp r ta tb))) := ⟨pt_cmpR (ho := ho) (ha := ha.h) (hb := hb.h) (hm := hm)⟩
theorem w_pt_tru {a : Expr} {ta : TE} (ha : W (PE X a ta)) (he : ∀ whole, isTrue a X.env whole = (do let v ← whole; standAt a.pos; holding [v] (truthy v)) := by intro _; rfl) : W (PT X a (tTru X.K ta)) := ⟨pt_tru (ha := ha.h) (he := he)⟩
theorem w_pv (i : Nat) {x : Str} {pos : Pos} (hN : X.N[i]? = some x := by rfl) (hv : Vis X.env.scope x := by first | exact Or.inl rfl | exact Or.inr (Or.inl rfl) | exact Or.inr (Or.inr rfl)) (hd : (x == ("__debug__" : Str)) = false := by decide) (hcd : (x == ("__classdict__" : Str)) = false := by decide) : W (PE X (.Name x pos) (tVar i)) := ⟨pv (i := i) (hN := hN) (hv := hv) (hd := hd) (hcd := hcd)⟩
theorem w_pe_gv {x : Str} {v : V} {pos : Pos} (hg : Gl X x) (hm : ∃ u, X.mg x = some u ∧ RelV v u) (hd : (x == ("__debug__" : Str)) = false := by decide) : W (PE X (.Name x pos) (tC v)) := ⟨pe_gv (hg := hg) (hm := hm) (hd := hd)⟩
theorem w_pe_bltn {x : Str} {v : V} {u : Value} {pos : Pos} (hg : Gl X x) (hm : X.mg x = none) (hv : bootBuiltins x = some u) (r : RelV v u) (hn : x ≠ "__name__" := by decide) (hd : (x == ("__debug__" : Str)) = false := by decide) : W (PE X (.Name x pos) (tC v)) := ⟨pe_bltn (hg := hg) (hm := hm) (hv := hv) (r := r) (hn := hn) (hd := hd)⟩
theorem w_pe_non {j pos} : W (PE X (.Constant .none j pos) (tC .non)) := ⟨pe_non ⟩
theorem w_pe_bl {b j pos} : W (PE X (.Constant (.bool b) j pos) (tC (.bl b))) := ⟨pe_bl ⟩
theorem w_pe_int {i j pos} : W (PE X (.Constant (.int i) j pos) (tC (.int i))) := ⟨pe_int ⟩
theorem w_pe_str {x j pos} : W (PE X (.Constant (.str x) j pos) (tC (.str x))) := ⟨pe_str ⟩
theorem w_pe_op {a : Expr} {b : Expr} {ta : TE} {tb : TE} {pos : Pos} {op : Operator} {r : R2} (ho : OpR X (binaryOp op) r) (ha : W (PE X a ta)) (hb : W (PE X b tb)) : W (PE X (.BinOp a op b pos) (tOp r ta tb)) := ⟨pe_op (ho := ho) (ha := ha.h) (hb := hb.h)⟩
theorem w_pe_not {a : Expr} {ta : TE} {pos : Pos} (ha : W (PE X a ta)) : W (PE X (.UnaryOp .Not a pos) (tNotV ta)) := ⟨pe_not (ha := ha.h)⟩
theorem w_pe_un {a : Expr} {ta : TE} {pos : Pos} {op : UnaryOp} {r : V → Hp → VK → Prop} (ho : UnR X (unaryOp op) r) (ha : W (PE X a ta)) : W (PE X (.UnaryOp op a pos) (tUn r ta)) := ⟨pe_un (ho := ho) (ha := ha.h)⟩
theorem w_pe_one {a : Expr} {pos : Pos} {op} {t : TE} (h : W (PE X a t)) : W (PE X (.BoolOp op [a] pos) t) := ⟨pe_one (h := h.h)⟩
theorem w_pe_and {a : Expr} {b : Expr} {ta : TE} {tb : TE} {pos : Pos} {rest : List Expr} (ha : W (PE X a ta)) (hb : W (PE X (.BoolOp .And (b :: rest) pos) tb)) : W (PE X (.BoolOp .And (a :: b :: rest) pos) (tAndV ta tb)) := ⟨pe_and (ha := ha.h) (hb := hb.h)⟩
theorem w_pe_cmpR {a : Expr} {b : Expr} {ta : TE} {tb : TE} {pos : Pos} {op : CmpOp} {r : R2} (ho : OpR X (compareOp op) r) (ha : W (PE X a ta)) (hb : W (PE X b tb)) (hm : behindInMarks op b = false) : W (PE X (.Compare a [op] [b] pos) (tOp r ta tb)) := ⟨pe_cmpR (ho := ho) (ha := ha.h) (hb := hb.h) (hm := hm)⟩
theorem w_pe_chain {a : Expr} {b : Expr} {c : Expr} {ta : TE} {tb : TE} {tc : TE} {pos : Pos} {op op' : CmpOp} {r r' : R2} (ho : OpR X (compareOp op) r) (ho' : OpR X (compareOp op') r') (ha : W (PE X a ta)) (hb : W (PE X b tb)) (hc : W (PE X c tc)) (hm : lastMarks [op, op'] [b, c] = false := by with_unfolding_all rfl) : W (PE X (.Compare a [op, op'] [b, c] pos) (tChain r r' ta tb tc)) := ⟨pe_chain (ho := ho) (ho' := ho') (ha := ha.h) (hb := hb.h) (hc := hc.h) (hm := hm)⟩
theorem w_pe_ifExp {a : Expr} {b : Expr} {ta : TE} {tb : TE} {pos : Pos} {tA : TT} {c : Expr} (hc : W (PT X c tA)) (ha : W (PE X a ta)) (hb : W (PE X b tb)) : W (PE X (.IfExp c a b pos) (tIf tA ta tb)) := ⟨pe_ifExp (hc := hc.h) (ha := ha.h) (hb := hb.h)⟩
theorem w_pe_lstA {es : List Expr} {t : TA} {pos : Pos} (h : W (PA X es t)) : W (PE X (.List es pos) (tLstA t)) := ⟨pe_lstA (h := h.h)⟩
theorem w_pe_tupA {es : List Expr} {t : TA} {x1} {pos : Pos} (h : W (PA X es t)) : W (PE X (.Tuple es x1 pos) (tTupA t)) := ⟨pe_tupA (h := h.h)⟩
theorem w_pe_dnewA {pos : Pos} : W (PE X (.Dict [] [] pos) tDNewA) := ⟨pe_dnewA ⟩
theorem w_pe_fldU {C : Addr} {e : Expr} {ta : TE} {f : Str} {pos : Pos} (c : Cls X.K C) (n : NoAttr X.K C f) (he : W (PE X e ta)) (hb : attributeBase e f X.env (eval e X.env) = eval e X.env := by rfl) : W (PE X (.Attribute e f pos) (uFld C ta f)) := ⟨pe_fldU (c := c) (n := n) (he := he.h) (hb := hb)⟩
theorem w_pe_ix {a : Expr} {b : Expr} {ta : TE} {tb : TE} {pos : Pos} {r : R2} (hr : IxR X r) (ha : W (PE X a ta)) (hb : W (PE X b tb)) (hs : PlainIx b) : W (PE X (.Subscript a b pos) (tOp r ta tb)) := ⟨pe_ix (hr := hr) (ha := ha.h) (hb := hb.h) (hs := hs)⟩
theorem w_pe_g {cm : Bool} {k : Nat} {j : Nat} {x : Str} {ps : List Str} {sp : Sp} {e : Expr} {es : List Expr} {t : TA} {p : Pos} {pos : Pos} (G : GF X.prog X.w X.K X.mg X.base cm j x ps sp) (hr : Room cm k X.A) (hg : Gl X x) (ha : W (PA X (e :: es) t)) (hj : j ≤ k := by decide) (hdb : (x == ("__debug__" : Str)) = false := by decide) (hp : plainE e = true := by rfl) (hps : plainEs es = true := by rfl) : W (PE X (.Call (.Name x p) (e :: es) [] pos) (tCall sp [] E0 t)) := ⟨pe_g (G := G) (hr := hr) (hg := hg) (ha := ha.h) (hj := hj) (hdb := hdb) (hp := hp) (hps := hps)⟩
theorem w_pe_cX {cm : Bool} {k : Nat} {j : Nat} {x : Str} {C : Addr} {ps : List Str} {sp : Sp} {e : Expr} {es : List Expr} {t : TA} {p : Pos} {pos : Pos} {Ex : Addr → St → Hp → Prop} (T : Throws X Ex) (G : GCX X.prog X.w X.K X.mg X.base cm j x C ps sp) (hr : Room cm k X.A) (hg : Gl X x) (ha : W (PA X (e :: es) t)) (hj : j + 1 ≤ k := by decide) (hdb : (x == ("__debug__" : Str)) = false := by decide) (hp : plainE e = true := by rfl) (hps : plainEs es = true := by rfl) : W (PE X (.Call (.Name x p) (e :: es) [] pos) (tMakeXA C sp Ex t)) := ⟨pe_cX (T := T) (G := G) (hr := hr) (hg := hg) (ha := ha.h) (hj := hj) (hdb := hdb) (hp := hp) (hps := hps)⟩
theorem w_pe_callBp {id : String} {r : List V → Hp → VK → Prop} {x : Str} {e : Expr} {es : List Expr} {t : TA} {p pos : Pos} (hc : CallR X (.builtin id) r) (hg : Gl X x) (hm : X.mg x = none) (hv : bootBuiltins x = some (.builtin id)) (ha : W (PA X (e :: es) t)) (hp : plainE e = true := by rfl) (hps : plainEs es = true := by rfl) (hn : x ≠ "__name__" := by decide) (hdb : (x == ("__debug__" : Str)) = false := by decide) : W (PE X (.Call (.Name x p) (e :: es) [] pos) (tCB r t)) := ⟨pe_callBp (hc := hc) (hg := hg) (hm := hm) (hv := hv) (ha := ha.h) (hp := hp) (hps := hps) (hn := hn) (hdb := hdb)⟩
theorem w_pe_callTyp {T : String} {r : List V → Hp → VK → Prop} {x : Str} {e : Expr} {es : List Expr} {t : TA} {p pos : Pos} (hc : CallR X (.type T) r) (hg : Gl X x) (hm : X.mg x = none) (hv : bootBuiltins x = some (.type T)) (ha : W (PA X (e :: es) t)) (hp : plainE e = true := by rfl) (hps : plainEs es = true := by rfl) (hn : x ≠ "__name__" := by decide) (hdb : (x == ("__debug__" : Str)) = false := by decide) : W (PE X (.Call (.Name x p) (e :: es) [] pos) (tCB r t)) := ⟨pe_callTyp (hc := hc) (hg := hg) (hm := hm) (hv := hv) (ha := ha.h) (hp := hp) (hps := hps) (hn := hn) (hdb := hdb)⟩
theorem w_pe_m {cm : Bool} {k : Nat} {j : Nat} {m : Str} {C : Addr} {ps : List Str} {sp : Sp} {e : Expr} {o : Expr} {es : List Expr} {t : TA} {ta : TE} {pos : Pos} {apos : Pos} {pl : Sem Bool} (he : W (PE X o ta)) (c : Cls X.K C) (G : GM X.prog X.w X.K X.mg X.base cm j C m ps sp) (hr : Room cm k X.A) (ha : W (PA X (e :: es) t)) (hj : j ≤ k := by decide) (hp : plainE e = true := by rfl) (hps : plainEs es = true := by rfl) (ht : eval (.Call (.Attribute o m apos) (e :: es) [] pos) X.env = (do
      let ov ← eval o X.env
      standAt apos.atName
      let (f, first) ← holding [ov] (getMethod ov m pl)
      callWith pos f first (backTo pos (starEach (e :: es) X.env)) (backToKw pos (keywordEach [] X.env))) := by rfl) : W (PE X (.Call (.Attribute o m apos) (e :: es) [] pos) (tMeth C m sp [] E0 ta t)) := ⟨pe_m (he := he.h) (c := c) (G := G) (hr := hr) (ha := ha.h) (hj := hj) (hp := hp) (hps := hps) (ht := ht)⟩
theorem w_pe_m0 {cm : Bool} {k : Nat} {j : Nat} {m : Str} {C : Addr} {ps : List Str} {sp : Sp} {o : Expr} {ta : TE} {pos : Pos} {apos : Pos} {pl : Sem Bool} (he : W (PE X o ta)) (c : Cls X.K C) (G : GM X.prog X.w X.K X.mg X.base cm j C m ps sp) (hr : Room cm k X.A) (hj : j ≤ k := by decide) (ht : eval (.Call (.Attribute o m apos) [] [] pos) X.env = (do
      let ov ← eval o X.env
      standAt apos.atName
      let (f, first) ← holding [ov] (getMethod ov m pl)
      callWith pos f first (backTo pos (starEach [] X.env)) (backToKw pos (keywordEach [] X.env))) := by rfl) : W (PE X (.Call (.Attribute o m apos) [] [] pos) (tMeth C m sp [] E0 ta tNil)) := ⟨pe_m0 (he := he.h) (c := c) (G := G) (hr := hr) (hj := hj) (ht := ht)⟩
theorem w_pe_append {o e : Expr} {to te : TE} {apos cpos : Pos} (ho : W (PE X o to)) (he : W (PE X e te)) (hbase : attributeBase o "append" X.env (eval o X.env) = eval o X.env := by rfl) (hline : (apos.endLine == cpos.line) = true := by rfl) (hp : plainE e = true := by rfl) : W (PE X (.Call (.Attribute o "append" apos) [e] [] cpos) (uApp to te)) := ⟨pe_append (ho := ho.h) (he := he.h) (hbase := hbase) (hline := hline) (hp := hp)⟩
theorem w_pe_lc {c : Bool} {X : Cx} {elt tg iter : Expr} {ifs : List Expr} {sc : Scope} {pos : Pos} {N' : List Str} {ix : List (Option Nat)} {wi : TI} {g : TG} {tt : TT} {te : TE} (hc : c = true → X.calm = true) (L : LcOk X sc N' ix) (hi : W (PIc c X tg iter wi)) (hg : ∀ pins C fp s H, W (PG (cxLC X sc N' pins C fp s H) tg g)) (ht : ∀ pins C fp s H, W (PTs (cxLC X sc N' pins C fp s H) ifs tt)) (he : ∀ pins C fp s H, W (PE (cxLC X sc N' pins C fp s H) elt te)) (hs : ∀ x, foldedSetIterable iter X.env x = pure x := by intro _; rfl) : W (PE X (.ListComp elt [⟨tg, iter, ifs, 0⟩] sc pos) (tLC ix wi g tt te)) := ⟨pe_lc (hc := hc) (L := L) (hi := hi.h) (hg := fun z0 z1 z2 z3 z4 => (hg z0 z1 z2 z3 z4).h) (ht := fun z0 z1 z2 z3 z4 => (ht z0 z1 z2 z3 z4).h) (he := fun z0 z1 z2 z3 z4 => (he z0 z1 z2 z3 z4).h) (hs := hs)⟩
theorem w_pg_name {pos : Pos} {i : Nat} {x : Str} (hN : X.N.Nodup) (hi : X.N[i]? = some x) (hx : Loc X.env.scope x) (hf : X.fn x = true ∨ X.env.scope.names.lookup x = some .local := by first | exact .inl rfl | exact .inr rfl | assumption) : W (PG X (.Name x pos) (gName i)) := ⟨pg_name (hN := hN) (hi := hi) (hx := hx) (hf := hf)⟩
theorem w_pg_tupA {X : Cx} {pos : Pos} {es : List Expr} {k : Nat} {t : TGs} {n : Nat} (h : W (PGs X es t)) (hl : (assignEach es X.env).length = n := by rfl) (hst : (assignEach es X.env).findIdx? (·.1) = none := by rfl) : W (PG X (.Tuple es k pos) (gTup X.K n t)) := ⟨pg_tupA (h := h.h) (hl := hl) (hst := hst)⟩
theorem w_pg_lst {pos : Pos} {es : List Expr} {k : Nat} {t : TGs} {n : Nat} (hc : X.calm = true) (h : W (PGs X es t)) (hl : (assignEach es X.env).length = n := by rfl) (hst : (assignEach es X.env).findIdx? (·.1) = none := by rfl) : W (PG X (.Tuple es k pos) (gLst X.K n t)) := ⟨pg_lst (hc := hc) (h := h.h) (hl := hl) (hst := hst)⟩
theorem w_pgs_nil  : W (PGs X [] gNil) := ⟨pgs_nil ⟩
theorem w_pgs_cons {e : Expr} {es : List Expr} {t : TG} {u : TGs} (h1 : W (PG X e t)) (h2 : W (PGs X es u)) (hs : (assignEach (e :: es) X.env).map (·.2) = assign e X.env :: (assignEach es X.env).map (·.2) := by rfl) : W (PGs X (e :: es) (gCons t u)) := ⟨pgs_cons (h1 := h1.h) (h2 := h2.h) (hs := hs)⟩
theorem w_pts_nil {X : Cx} : W (PTs X [] tAll) := ⟨pts_nil ⟩
theorem w_pts_one {X : Cx} {c : Expr} {t : TT} (h : W (PT X c t)) : W (PTs X [c] t) := ⟨pts_one (h := h.h)⟩
theorem w_ps_try {X : Cx} {i : Nat} {D : Addr} {x n : Str} {np hpos pos : Pos} {body : List Stmt} {b₀ : Stmt} {suite : List Stmt} {tb : (Addr → St → Hp → Prop) → TS} {ts : TS} (hc : X.calm = true) (hex : X.ex = []) (hstk : X.stack = X.env :: X.outer ∧ X.env.frame = some X.env.locals) (hN : X.N.Nodup) (hi : X.N[i]? = some n) (hlo : X.env.scope.names.lookup n = some .local) (OD : ErrK X.K D) (hg : Gl X x) (hm : X.mg x = some (.ref D)) (hb : ∀ pins Ex, W (PSs (cxTry X pins Ex) body (tb Ex))) (hs : ∀ pins ea, W (PSs (cxSuite X pins ea) (b₀ :: suite) ts)) (hdb : (x == ("__debug__" : Str)) = false := by decide) : W (PS X (.Try body [.ExceptHandler (some (.Name x np)) (some n) (b₀ :: suite) hpos] [] [] pos) (tTry X.K i D tb ts)) := ⟨ps_try (hc := hc) (hex := hex) (hstk := hstk) (hN := hN) (hi := hi) (hlo := hlo) (OD := OD) (hg := hg) (hm := hm) (hb := fun z0 z1 => (hb z0 z1).h) (hs := fun z0 z1 => (hs z0 z1).h) (hdb := hdb)⟩
theorem w_pt_truL {Y : Cx} {sc : Scope} {N' : List Str} {pins : List (Addr × Obj)} {D : Addr} {fp : List Addr} {s : Shared} {H : Hp} {a : Expr} {ta : TE} (ha : W (PE (cxLC Y sc N' pins D fp s H) a ta)) (he : ∀ whole, isTrue a (cxLC Y sc N' pins D fp s H).env whole = (do let v ← whole; standAt a.pos; holding [v] (truthy v)) := by intro _; rfl) : W (PT (cxLC Y sc N' pins D fp s H) a (tTru Y.K ta)) := ⟨pt_truL (ha := ha.h) (he := he)⟩
theorem w_pg_tupL {Y : Cx} {sc : Scope} {N' : List Str} {pins : List (Addr × Obj)} {D : Addr} {fp : List Addr} {s : Shared} {H : Hp} {pos : Pos} {es : List Expr} {k : Nat} {t : TGs} {n : Nat} (h : W (PGs (cxLC Y sc N' pins D fp s H) es t)) (hl : (assignEach es (cxLC Y sc N' pins D fp s H).env).length = n := by rfl) (hst : (assignEach es (cxLC Y sc N' pins D fp s H).env).findIdx? (·.1) = none := by rfl) : W (PG (cxLC Y sc N' pins D fp s H) (.Tuple es k pos) (gTup Y.K n t)) := ⟨pg_tupL (h := h.h) (hl := hl) (hst := hst)⟩
theorem w_pt {e : Expr} {t : TT} (h : W (PW X e t)) : W (PT X e t) := ⟨PW.pt h.h⟩
end
end L2
set_option Elab.async false
set_option linter.all false
set_option maxRecDepth 100000
set_option maxHeartbeats 4000000
namespace K16
open PySem PySem.Spec PyProof.Rows L2
local macro_rules | `(tactic| simp_all only [$ls,*]) => `(tactic| simp only [tVar, tC, tAnd, tOr, tNot, tIf, tNext, tSeq, tBreak, tCont, tDrop, tRet, tRetN, tIfS, gName, gNil_n, gCons_c, tAsg, tAug, ipI, tOp, tUn, tNil, tCons, tTupA, tLstA, tDNewA, tCall, tMakeA, tCallX, tMakeXA, tCB, tRaise, uAdd_ii, uAdd_ss, uAdd_rr, uMul_ii, uMul_ri, uIx_r, uIx_s, uLen_r, uLen_s, rI_ii, rI0_ii, rU_i, uEq_ii, uEq_ss, uEq_bb, uEq_rr, uInt_i, uInt_b, uStr_i, uMax_ii, uMin_ii, uTru_b, uTru_n, uTru_i, tTru_eq, uB_b, tB_eq, tTest_eq, tAndV_eq, tOrV_eq, tNotV_eq, tChain_eq, uR_r, uFld_eq, uSetF_eq, tMeth_eq, tMethX_eq, uApp, tFor_eq, uI1_i, iRng1_eq, iList_eq, iTup_eq, uR2_r, iZip_eq, tLC_eq, CompN_t, CompN_f, pick, Option.bind_some, Option.bind_none, Option.join_some, tAll, and_assoc, exists_and_left, exists_and_right, exists_eq_left', exists_eq_left, exists_eq, exists_eq', exists_eq_right, exists_eq_right', and_true, true_and, and_false, false_and, or_false, false_or, exists_false, exists_const, Option.some.injEq, V.int.injEq, V.str.injEq, V.ref.injEq, V.bl.injEq, V.ty.injEq, HO.lst.injEq, HO.tup.injEq, HO.ins.injEq, List.cons.injEq, reduceCtorEq, reduceIte, Bool.false_eq_true, List.getElem?_cons_zero, List.getElem?_cons_succ, List.set_cons_zero, List.set_cons_succ, List.nil_append, List.cons_append, List.append_nil, List.length_cons, List.length_nil, L2.start, List.map_cons, List.map_nil, List.replicate, Nat.reduceSub, Nat.reduceAdd, Bool.not_true, Bool.not_false, uAugF, rAdd_ii, rSub_ii, uIsN_n, uIsN_i, uMulS_ii, uMulS_ri, uMulS_si, uSl_s, uSl_r, tSl, tNoPart, tPart_eq, uPart_i, rSetL_r, gSub, uListOf_r, uClear, uJoinE, uS_s, rJoin_sr, uRev, iEnum_eq, uR1_r, iRng2_eq, uI2_i, $ls,*])
def top (i : Nat) : Stmt := PySem.Challenge.pw_cleanrows_k16_no_disks.main.body.getD i (.Pass ⟨0, 0, 0, 0⟩)
abbrev s_is_whole : Stmt := top 20
abbrev s_is_within : Stmt := top 21
abbrev s__law_at : Stmt := top 29
abbrev s__law_mixed : Stmt := top 30
abbrev s__law_row : Stmt := top 31
structure ClsA where
  CleanError : Addr
  NoRow : Addr
  NoDisk : Addr
  Full : Addr
  Stopped : Addr
  NoFile : Addr
  NoPlace : Addr
  HeldAlready : Addr
  NotHeld : Addr
  NoFiles : Addr
  NoMark : Addr
  NoRoom : Addr
  Gone : Addr
  NotClosed : Addr
  NotBlank : Addr
  NoDeed : Addr
  NoHouse : Addr
  Disk : Addr
structure Txt (K : PySem.W.Frag) (mg : Str → Option Value) (A : ClsA) : Prop where
  n_ValueError : mg "ValueError" = none
  n_bool : mg "bool" = none
  n_int : mg "int" = none
  n_isinstance : mg "isinstance" = none
  n_len : mg "len" = none
  n_max : mg "max" = none
  n_min : mg "min" = none
  n_range : mg "range" = none
  n_repr : mg "repr" = none
  n_str : mg "str" = none
  n_zip : mg "zip" = none
  c_LEAST_STRETCHES : ∃ u, mg "LEAST_STRETCHES" = some u ∧ RelV (.int 3) u
  c_MOST_STRETCHES : ∃ u, mg "MOST_STRETCHES" = some u ∧ RelV (.int 16) u
  c_LEAST_PLACES : ∃ u, mg "LEAST_PLACES" = some u ∧ RelV (.int 2) u
  c_MOST_PLACES : ∃ u, mg "MOST_PLACES" = some u ∧ RelV (.int 32) u
  mg_CleanError : mg "CleanError" = some (.ref A.CleanError)
  mg_NoRow : mg "NoRow" = some (.ref A.NoRow)
  mg_NoDisk : mg "NoDisk" = some (.ref A.NoDisk)
  mg_Full : mg "Full" = some (.ref A.Full)
  mg_Stopped : mg "Stopped" = some (.ref A.Stopped)
  mg_NoFile : mg "NoFile" = some (.ref A.NoFile)
  mg_NoPlace : mg "NoPlace" = some (.ref A.NoPlace)
  mg_HeldAlready : mg "HeldAlready" = some (.ref A.HeldAlready)
  mg_NotHeld : mg "NotHeld" = some (.ref A.NotHeld)
  mg_NoFiles : mg "NoFiles" = some (.ref A.NoFiles)
  mg_NoMark : mg "NoMark" = some (.ref A.NoMark)
  mg_NoRoom : mg "NoRoom" = some (.ref A.NoRoom)
  mg_Gone : mg "Gone" = some (.ref A.Gone)
  mg_NotClosed : mg "NotClosed" = some (.ref A.NotClosed)
  mg_NotBlank : mg "NotBlank" = some (.ref A.NotBlank)
  mg_NoDeed : mg "NoDeed" = some (.ref A.NoDeed)
  mg_NoHouse : mg "NoHouse" = some (.ref A.NoHouse)
  mg_Disk : mg "Disk" = some (.ref A.Disk)
  ek_CleanError : ErrK K A.CleanError
  ek_NoDisk : ErrK K A.NoDisk
  ec_NoDisk : ErrC K A.NoDisk
  mro_NoDisk : PySem.W.mroIn K A.NoDisk (.ref A.CleanError) = some true
  k_NoDisk_ValueError : PySem.W.kitOne K (.ref A.NoDisk) (.type "ValueError") = some true
  k_NoDisk_NoRow : PySem.W.kitOne K (.ref A.NoDisk) (.ref A.NoRow) = some false
  k_NoDisk_NoDisk : PySem.W.kitOne K (.ref A.NoDisk) (.ref A.NoDisk) = some true
  k_NoDisk_Full : PySem.W.kitOne K (.ref A.NoDisk) (.ref A.Full) = some false
  k_NoDisk_Stopped : PySem.W.kitOne K (.ref A.NoDisk) (.ref A.Stopped) = some false
  k_NoDisk_NoFile : PySem.W.kitOne K (.ref A.NoDisk) (.ref A.NoFile) = some false
  k_NoDisk_NoPlace : PySem.W.kitOne K (.ref A.NoDisk) (.ref A.NoPlace) = some false
  k_NoDisk_HeldAlready : PySem.W.kitOne K (.ref A.NoDisk) (.ref A.HeldAlready) = some false
  k_NoDisk_NotHeld : PySem.W.kitOne K (.ref A.NoDisk) (.ref A.NotHeld) = some false
  k_NoDisk_NoFiles : PySem.W.kitOne K (.ref A.NoDisk) (.ref A.NoFiles) = some false
  k_NoDisk_NoMark : PySem.W.kitOne K (.ref A.NoDisk) (.ref A.NoMark) = some false
  k_NoDisk_NoRoom : PySem.W.kitOne K (.ref A.NoDisk) (.ref A.NoRoom) = some false
  k_NoDisk_Gone : PySem.W.kitOne K (.ref A.NoDisk) (.ref A.Gone) = some false
  k_NoDisk_NotClosed : PySem.W.kitOne K (.ref A.NoDisk) (.ref A.NotClosed) = some false
  k_NoDisk_NotBlank : PySem.W.kitOne K (.ref A.NoDisk) (.ref A.NotBlank) = some false
  k_NoDisk_NoDeed : PySem.W.kitOne K (.ref A.NoDisk) (.ref A.NoDeed) = some false
  k_NoDisk_NoHouse : PySem.W.kitOne K (.ref A.NoDisk) (.ref A.NoHouse) = some false
  cl_Disk : Cls K A.Disk
  na_Disk_at_sides : NoAttr K A.Disk "at_sides"
  na_Disk_counted : NoAttr K A.Disk "counted"
  na_Disk_has_stopped : NoAttr K A.Disk "has_stopped"
  na_Disk_left : NoAttr K A.Disk "left"
  na_Disk_width : NoAttr K A.Disk "width"
  na_Disk_written : NoAttr K A.Disk "written"
theorem Txt.c_NoRow {K : PySem.W.Frag} {mg : Str → Option Value} {A : ClsA} (T : Txt K mg A) : ∃ u, mg "NoRow" = some u ∧ RelV (.ref A.NoRow) u := ⟨_, T.mg_NoRow, rfl⟩
theorem Txt.c_NoDisk {K : PySem.W.Frag} {mg : Str → Option Value} {A : ClsA} (T : Txt K mg A) : ∃ u, mg "NoDisk" = some u ∧ RelV (.ref A.NoDisk) u := ⟨_, T.mg_NoDisk, rfl⟩
theorem Txt.c_Full {K : PySem.W.Frag} {mg : Str → Option Value} {A : ClsA} (T : Txt K mg A) : ∃ u, mg "Full" = some u ∧ RelV (.ref A.Full) u := ⟨_, T.mg_Full, rfl⟩
theorem Txt.c_Stopped {K : PySem.W.Frag} {mg : Str → Option Value} {A : ClsA} (T : Txt K mg A) : ∃ u, mg "Stopped" = some u ∧ RelV (.ref A.Stopped) u := ⟨_, T.mg_Stopped, rfl⟩
theorem Txt.c_NoFile {K : PySem.W.Frag} {mg : Str → Option Value} {A : ClsA} (T : Txt K mg A) : ∃ u, mg "NoFile" = some u ∧ RelV (.ref A.NoFile) u := ⟨_, T.mg_NoFile, rfl⟩
theorem Txt.c_NoPlace {K : PySem.W.Frag} {mg : Str → Option Value} {A : ClsA} (T : Txt K mg A) : ∃ u, mg "NoPlace" = some u ∧ RelV (.ref A.NoPlace) u := ⟨_, T.mg_NoPlace, rfl⟩
theorem Txt.c_HeldAlready {K : PySem.W.Frag} {mg : Str → Option Value} {A : ClsA} (T : Txt K mg A) : ∃ u, mg "HeldAlready" = some u ∧ RelV (.ref A.HeldAlready) u := ⟨_, T.mg_HeldAlready, rfl⟩
theorem Txt.c_NotHeld {K : PySem.W.Frag} {mg : Str → Option Value} {A : ClsA} (T : Txt K mg A) : ∃ u, mg "NotHeld" = some u ∧ RelV (.ref A.NotHeld) u := ⟨_, T.mg_NotHeld, rfl⟩
theorem Txt.c_NoFiles {K : PySem.W.Frag} {mg : Str → Option Value} {A : ClsA} (T : Txt K mg A) : ∃ u, mg "NoFiles" = some u ∧ RelV (.ref A.NoFiles) u := ⟨_, T.mg_NoFiles, rfl⟩
theorem Txt.c_NoMark {K : PySem.W.Frag} {mg : Str → Option Value} {A : ClsA} (T : Txt K mg A) : ∃ u, mg "NoMark" = some u ∧ RelV (.ref A.NoMark) u := ⟨_, T.mg_NoMark, rfl⟩
theorem Txt.c_NoRoom {K : PySem.W.Frag} {mg : Str → Option Value} {A : ClsA} (T : Txt K mg A) : ∃ u, mg "NoRoom" = some u ∧ RelV (.ref A.NoRoom) u := ⟨_, T.mg_NoRoom, rfl⟩
theorem Txt.c_Gone {K : PySem.W.Frag} {mg : Str → Option Value} {A : ClsA} (T : Txt K mg A) : ∃ u, mg "Gone" = some u ∧ RelV (.ref A.Gone) u := ⟨_, T.mg_Gone, rfl⟩
theorem Txt.c_NotClosed {K : PySem.W.Frag} {mg : Str → Option Value} {A : ClsA} (T : Txt K mg A) : ∃ u, mg "NotClosed" = some u ∧ RelV (.ref A.NotClosed) u := ⟨_, T.mg_NotClosed, rfl⟩
theorem Txt.c_NotBlank {K : PySem.W.Frag} {mg : Str → Option Value} {A : ClsA} (T : Txt K mg A) : ∃ u, mg "NotBlank" = some u ∧ RelV (.ref A.NotBlank) u := ⟨_, T.mg_NotBlank, rfl⟩
theorem Txt.c_NoDeed {K : PySem.W.Frag} {mg : Str → Option Value} {A : ClsA} (T : Txt K mg A) : ∃ u, mg "NoDeed" = some u ∧ RelV (.ref A.NoDeed) u := ⟨_, T.mg_NoDeed, rfl⟩
theorem Txt.c_NoHouse {K : PySem.W.Frag} {mg : Str → Option Value} {A : ClsA} (T : Txt K mg A) : ∃ u, mg "NoHouse" = some u ∧ RelV (.ref A.NoHouse) u := ⟨_, T.mg_NoHouse, rfl⟩
theorem nb_at_sides_counted : (("at_sides" : Str) == "counted") = false := by decide +kernel
theorem nb_at_sides_has_stopped : (("at_sides" : Str) == "has_stopped") = false := by decide +kernel
theorem nb_at_sides_left : (("at_sides" : Str) == "left") = false := by decide +kernel
theorem nb_at_sides_width : (("at_sides" : Str) == "width") = false := by decide +kernel
theorem nb_at_sides_written : (("at_sides" : Str) == "written") = false := by decide +kernel
theorem nb_counted_at_sides : (("counted" : Str) == "at_sides") = false := by decide +kernel
theorem nb_counted_has_stopped : (("counted" : Str) == "has_stopped") = false := by decide +kernel
theorem nb_counted_left : (("counted" : Str) == "left") = false := by decide +kernel
theorem nb_counted_width : (("counted" : Str) == "width") = false := by decide +kernel
theorem nb_counted_written : (("counted" : Str) == "written") = false := by decide +kernel
theorem nb_left_has_stopped : (("left" : Str) == "has_stopped") = false := by decide +kernel
theorem nb_width_at_sides : (("width" : Str) == "at_sides") = false := by decide +kernel
theorem nb_width_counted : (("width" : Str) == "counted") = false := by decide +kernel
theorem nb_width_has_stopped : (("width" : Str) == "has_stopped") = false := by decide +kernel
theorem nb_width_left : (("width" : Str) == "left") = false := by decide +kernel
theorem nb_width_written : (("width" : Str) == "written") = false := by decide +kernel
theorem nb_written_at_sides : (("written" : Str) == "at_sides") = false := by decide +kernel
theorem nb_written_counted : (("written" : Str) == "counted") = false := by decide +kernel
theorem nb_written_has_stopped : (("written" : Str) == "has_stopped") = false := by decide +kernel
theorem nb_written_left : (("written" : Str) == "left") = false := by decide +kernel
theorem nb_written_width : (("written" : Str) == "width") = false := by decide +kernel
theorem nb_stretches_at_sides : (("stretches" : Str) == "at_sides") = false := by decide +kernel
theorem nb_stretches_counted : (("stretches" : Str) == "counted") = false := by decide +kernel
theorem nb_stretches_has_stopped : (("stretches" : Str) == "has_stopped") = false := by decide +kernel
theorem nb_stretches_left : (("stretches" : Str) == "left") = false := by decide +kernel
theorem nb_stretches_width : (("stretches" : Str) == "width") = false := by decide +kernel
theorem nb_stretches_written : (("stretches" : Str) == "written") = false := by decide +kernel
theorem nb_places_at_sides : (("places" : Str) == "at_sides") = false := by decide +kernel
theorem nb_places_counted : (("places" : Str) == "counted") = false := by decide +kernel
theorem nb_places_has_stopped : (("places" : Str) == "has_stopped") = false := by decide +kernel
theorem nb_places_left : (("places" : Str) == "left") = false := by decide +kernel
theorem nb_places_width : (("places" : Str) == "width") = false := by decide +kernel
theorem nb_places_written : (("places" : Str) == "written") = false := by decide +kernel
theorem nb_told_at_sides : (("told" : Str) == "at_sides") = false := by decide +kernel
theorem nb_told_counted : (("told" : Str) == "counted") = false := by decide +kernel
theorem nb_told_has_stopped : (("told" : Str) == "has_stopped") = false := by decide +kernel
theorem nb_told_left : (("told" : Str) == "left") = false := by decide +kernel
theorem nb_told_width : (("told" : Str) == "width") = false := by decide +kernel
theorem nb_told_written : (("told" : Str) == "written") = false := by decide +kernel
theorem nb_side_at_sides : (("side" : Str) == "at_sides") = false := by decide +kernel
theorem nb_side_counted : (("side" : Str) == "counted") = false := by decide +kernel
theorem nb_side_has_stopped : (("side" : Str) == "has_stopped") = false := by decide +kernel
theorem nb_side_left : (("side" : Str) == "left") = false := by decide +kernel
theorem nb_side_width : (("side" : Str) == "width") = false := by decide +kernel
theorem nb_side_written : (("side" : Str) == "written") = false := by decide +kernel
theorem nb_signs_at_sides : (("signs" : Str) == "at_sides") = false := by decide +kernel
theorem nb_signs_counted : (("signs" : Str) == "counted") = false := by decide +kernel
theorem nb_signs_has_stopped : (("signs" : Str) == "has_stopped") = false := by decide +kernel
theorem nb_signs_left : (("signs" : Str) == "left") = false := by decide +kernel
theorem nb_signs_width : (("signs" : Str) == "width") = false := by decide +kernel
theorem nb_signs_written : (("signs" : Str) == "written") = false := by decide +kernel
theorem np_at_sides_counted : (("at_sides" : Str) = "counted") = False := by simpa using nb_at_sides_counted
theorem np_at_sides_has_stopped : (("at_sides" : Str) = "has_stopped") = False := by simpa using nb_at_sides_has_stopped
theorem np_at_sides_left : (("at_sides" : Str) = "left") = False := by simpa using nb_at_sides_left
theorem np_counted_has_stopped : (("counted" : Str) = "has_stopped") = False := by simpa using nb_counted_has_stopped
theorem np_counted_left : (("counted" : Str) = "left") = False := by simpa using nb_counted_left
theorem np_left_has_stopped : (("left" : Str) = "has_stopped") = False := by simpa using nb_left_has_stopped
theorem np_width_at_sides : (("width" : Str) = "at_sides") = False := by simpa using nb_width_at_sides
theorem np_width_counted : (("width" : Str) = "counted") = False := by simpa using nb_width_counted
theorem np_width_has_stopped : (("width" : Str) = "has_stopped") = False := by simpa using nb_width_has_stopped
theorem np_width_left : (("width" : Str) = "left") = False := by simpa using nb_width_left
theorem np_width_written : (("width" : Str) = "written") = False := by simpa using nb_width_written
theorem np_written_at_sides : (("written" : Str) = "at_sides") = False := by simpa using nb_written_at_sides
theorem np_written_counted : (("written" : Str) = "counted") = False := by simpa using nb_written_counted
theorem np_written_has_stopped : (("written" : Str) = "has_stopped") = False := by simpa using nb_written_has_stopped
theorem np_written_left : (("written" : Str) = "left") = False := by simpa using nb_written_left
/-- the things that a size may be -/
inductive Thing (H : Hp) : V → Prop
  | non : Thing H .non
  | bl (b : Bool) : Thing H (.bl b)
  | int (i : Int) : Thing H (.int i)
  | str (x : Str) : Thing H (.str x)
  | lst {a : Addr} {xs : List V} : H a = some (.lst xs) → Thing H (.ref a)
  | tup {a : Addr} {xs : List V} : H a = some (.tup xs) → Thing H (.ref a)
  | dic {a : Addr} {kvs : List (Key × V)} : H a = some (.dK kvs) → Thing H (.ref a)
theorem Thing.same {H H' : Hp} {v : V} (t : Thing H v) (s : Same H H') : Thing H' v := by
  cases t with
  | non => exact .non
  | bl b => exact .bl b
  | int i => exact .int i
  | str x => exact .str x
  | lst h => exact .lst (s _ _ h)
  | tup h => exact .tup (s _ _ h)
  | dic h => exact .dic (s _ _ h)
def wholeV : V → Bool | .int _ => true | _ => false
def withinV (v : V) (a b : Int) : Bool := match v with | .int i => decide (a ≤ i) && decide (i ≤ b) | _ => false
def spWhole : Sp := fun vs H Q _ => ∃ v, vs = [v] ∧ Thing H v ∧ Q (.bl (wholeV v)) H
def spWithin : Sp := fun vs H Q _ => ∃ v a b, vs = [v, .int a, .int b] ∧ Thing H v ∧ Q (.bl (withinV v a b)) H
section
variable {P : Program} {w : World} {K : PySem.W.Frag} {mg : Str → Option Value} {base : Heap} {A : ClsA}
theorem isi_int {X : Cx} {H : Hp} {v : V} {Q : VK} (t : Thing H v) (q : Q (.bl (match v with | .int _ => true | .bl _ => true | _ => false)) H) : rIsi X.K [v, .ty "int"] H Q := by
  cases t with
  | non => exact ⟨_, _, _, _, _, rfl, rfl, .of .non, rfl, q⟩
  | bl b => exact ⟨_, _, _, _, _, rfl, rfl, .of (.bl b), rfl, q⟩
  | int i => exact ⟨_, _, _, _, _, rfl, rfl, .of (.int i), rfl, q⟩
  | str x => exact ⟨_, _, _, _, _, rfl, rfl, .of (.str x), rfl, q⟩
  | lst h => exact ⟨_, _, _, _, _, rfl, rfl, .of (.lst h), rfl, q⟩
  | tup h => exact ⟨_, _, _, _, _, rfl, rfl, .of (.tup h), rfl, q⟩
  | dic h => exact ⟨_, _, _, _, _, rfl, rfl, .of (.dK h), rfl, q⟩
theorem isi_bool {X : Cx} {H : Hp} {v : V} {Q : VK} (t : Thing H v) (q : Q (.bl (match v with | .bl _ => true | _ => false)) H) : rIsi X.K [v, .ty "bool"] H Q := by
  cases t with
  | non => exact ⟨_, _, _, _, _, rfl, rfl, .of .non, rfl, q⟩
  | bl b => exact ⟨_, _, _, _, _, rfl, rfl, .of (.bl b), rfl, q⟩
  | int i => exact ⟨_, _, _, _, _, rfl, rfl, .of (.int i), rfl, q⟩
  | str x => exact ⟨_, _, _, _, _, rfl, rfl, .of (.str x), rfl, q⟩
  | lst h => exact ⟨_, _, _, _, _, rfl, rfl, .of (.lst h), rfl, q⟩
  | tup h => exact ⟨_, _, _, _, _, rfl, rfl, .of (.tup h), rfl, q⟩
  | dic h => exact ⟨_, _, _, _, _, rfl, rfl, .of (.dK h), rfl, q⟩
theorem sc_is_whole : FnScope ["value"] ["value"] (defScope s_is_whole) := ⟨rfl, rfl, rfl, by decide +kernel, rfl, by decide +kernel, by decide +kernel⟩
theorem ok_is_whole {f : Addr} {fd : FuncData} {cm : Bool} (F : Fun K "is_whole" "is_whole" s_is_whole f fd) (T : Txt K mg A) : FnOk P w K mg base CX0 cm 1 f fd ["value"] spWhole := by
  refine F.ok sc_is_whole (fun vs H Q E h => ?_) (fun cdv Ar outer s H vs Q E hr h => ?_)
  · obtain ⟨v, rfl, _⟩ := h; rfl
  · obtain ⟨v, rfl, th, q⟩ := h
    refine ⟨_, (W.h (w_pss_one (w_ps_ret (w_pe_and (w_pe_callBp call_isi rfl T.n_isinstance boot_isinstance (w_pa_p (w_pv 0) (w_pa_p (w_pe_bltn rfl T.n_int boot_int (v := .ty "int") rfl) w_pa_nil))) (w_pe_one (w_pe_not (w_pe_callBp call_isi rfl T.n_isinstance boot_isinstance (w_pa_p (w_pv 0) (w_pa_p (w_pe_bltn rfl T.n_bool boot_bool (v := .ty "bool") rfl) w_pa_nil))))))))), ?_⟩
    simp_all only []
    refine isi_int th ?_
    cases th with
    | int i => exact ⟨true, rfl, iteT (isi_bool (.int i) ⟨false, rfl, q⟩)⟩
    | bl i => exact ⟨true, rfl, iteT (isi_bool (.bl i) ⟨true, rfl, q⟩)⟩
    | _ => exact ⟨false, rfl, iteF q⟩
theorem sc_is_within : FnScope ["value", "least", "most"] ["value", "least", "most"] (defScope s_is_within) := ⟨rfl, rfl, rfl, by decide +kernel, rfl, by decide +kernel, by decide +kernel⟩
theorem ok_is_within {f : Addr} {fd : FuncData} {cm : Bool} (F : Fun K "is_within" "is_within" s_is_within f fd) (T : Txt K mg A) (G_is_whole : GF P w K mg base cm 1 "is_whole" ["value"] spWhole) : FnOk P w K mg base CX0 cm 2 f fd ["value", "least", "most"] spWithin := by
  refine F.ok sc_is_within (fun vs H Q E h => ?_) (fun cdv Ar outer s H vs Q E hr h => ?_)
  · obtain ⟨v, a, b, rfl, _⟩ := h; rfl
  · obtain ⟨v, a, b, rfl, th, q⟩ := h
    refine ⟨_, (W.h (w_pss_one (w_ps_ret (w_pe_and (w_pe_g G_is_whole hr rfl (w_pa_p (w_pv 0) w_pa_nil)) (w_pe_one (w_pe_chain op_le op_le (w_pv 1) (w_pv 0) (w_pv 2))))))), ?_⟩
    simp_all only []
    refine ⟨_, rfl, th, ?_⟩
    cases th with
    | int i =>
      refine ⟨true, rfl, iteT ?_⟩
      simp_all only []
      refine ite2 (fun h => ?_) (fun h => ?_)
      · have e : withinV (.int i) a b = decide (i ≤ b) := by show (decide (a ≤ i) && _) = _; rw [h]; rfl
        rw [← e]; exact q
      · have e : withinV (.int i) a b = false := by show (decide (a ≤ i) && _) = _; rw [Bool.eq_false_iff.mpr h]; rfl
        rw [← e]; exact q
    | _ => exact ⟨false, rfl, iteF q⟩
/-! ### the law's own readers -/
def atD (ns : List Int) (k : Int) : Int := if k < ns.length then ns.getD k.toNat 0 else 0
def spAt (K : PySem.W.Frag) : Sp := fun vs H Q _ => ∃ (a : Addr) (ns : List Int) (k : Int), vs = [.ref a, .int k] ∧ SqL K H a (ns.map V.int) ∧ 0 ≤ k ∧ Q (.int (atD ns k)) H
def spMixed : Sp := fun vs H Q _ => ∃ (n k : Int), vs = [.int n, .int k] ∧ ∀ r : Int, 1 ≤ r → r ≤ 2147483629 → Q (.int r) H
def spRow (K : PySem.W.Frag) : Sp := fun vs H Q _ => ∃ (a : Addr) (ns : List Int) (k m b : Int), vs = [.ref a, .int k, .int m, .int b] ∧ SqL K H a (ns.map V.int) ∧ 0 ≤ k ∧ 0 ≤ m ∧ m ≤ 1000 ∧ 0 < b ∧ b < 1073741824 ∧
  ∀ (l : Addr) (ds : List Int) (H' : Hp), Same H H' → H l = none → H' l = some (.lst (ds.map V.int)) → ds.length = m.toNat → (∀ d ∈ ds, 0 ≤ d ∧ d < b) → Q (.ref l) H'
theorem sc__law_at : FnScope ["_law_script", "_law_k"] ["_law_script", "_law_k"] (defScope s__law_at) := ⟨rfl, rfl, rfl, by decide +kernel, rfl, by decide +kernel, by decide +kernel⟩
theorem ok__law_at {f : Addr} {fd : FuncData} {cm : Bool} (F : Fun K "_law_at" "_law_at" s__law_at f fd) (T : Txt K mg A) : FnOk P w K mg base CX0 cm 1 f fd ["_law_script", "_law_k"] (spAt K) := by
  refine F.ok sc__law_at (fun vs H Q E h => ?_) (fun cdv Ar outer s H vs Q E hr h => ?_)
  · obtain ⟨a, ns, k, rfl, _⟩ := h; rfl
  · obtain ⟨a, ns, k, rfl, hS, hk, q⟩ := h
    refine ⟨_, pss_cons (ps_if (pt_cmpR op_lt (pv 1) (pe_callB call_len_seq rfl T.n_len PySem.boot_len (pa_cons (pv 0) pa_nil)) (nomark _))
      (pss_one (ps_ret (pe_ix ix_list (pv 0) (pv 1) (fun _ _ => rfl)))) pss_nil) (pss_one (ps_ret pe_int)), ?_⟩
    simp_all only []
    refine ⟨_, .inl hS, ?_⟩
    rw [List.length_map]
    refine ite2 (fun h => ?_) (fun h => ?_)
    · have h' : k < (ns.length : Int) := of_decide_eq_true h
      have hn : k.toNat < ns.length := by omega
      have e : atD ns k = ns[k.toNat] := by unfold atD; rw [if_pos h', List.getD_eq_getElem?_getD, List.getElem?_eq_getElem hn]; rfl
      refine ⟨a, ns.map V.int, k, .int (ns[k.toNat]), rfl, rfl, hS, ?_, by rw [← e]; exact q⟩
      have z : atI (ns.map V.int) ((k.toNat : Nat) : Int) = some (.int (ns[k.toNat])) := atI_nat (by rw [List.getElem?_map, List.getElem?_eq_getElem hn]; rfl)
      have kz : ((k.toNat : Nat) : Int) = k := by omega
      rw [kz] at z; exact z
    · have h' : ¬ k < (ns.length : Int) := fun z => h (decide_eq_true z)
      have e : atD ns k = 0 := by unfold atD; rw [if_neg h']
      rw [← e]; exact q
theorem sc__law_mixed : FnScope ["_law_number", "_law_k"] ["_law_number", "_law_k"] (defScope s__law_mixed) := ⟨rfl, rfl, rfl, by decide +kernel, rfl, by decide +kernel, by decide +kernel⟩
theorem ok__law_mixed {f : Addr} {fd : FuncData} {cm : Bool} (F : Fun K "_law_mixed" "_law_mixed" s__law_mixed f fd) (T : Txt K mg A) : FnOk P w K mg base CX0 cm 1 f fd ["_law_number", "_law_k"] spMixed := by
  refine F.ok sc__law_mixed (fun vs H Q E h => ?_) (fun cdv Ar outer s H vs Q E hr h => ?_)
  · obtain ⟨n, k, rfl, _⟩ := h; rfl
  · obtain ⟨n, k, rfl, q⟩ := h
    refine ⟨_, (W.h (w_pss_cons (w_ps_set (i := 0) sc__law_mixed.nd rfl (Or.inl rfl) (w_pe_op op_mod (w_pe_op op_addU (w_pe_op op_mod (w_pv 0) w_pe_int) (w_pe_op op_mulS w_pe_int (w_pe_op op_addU (w_pv 1) w_pe_int))) w_pe_int))
      (w_pss_one (w_ps_ret (w_pe_op op_addU w_pe_int (w_pe_op op_mod (w_pe_op op_addU (w_pe_op op_addU (w_pe_op op_mulS (w_pv 0) (w_pv 0)) (w_pe_op op_mulS w_pe_int (w_pv 0))) (w_pe_op op_mulS w_pe_int (w_pv 1))) w_pe_int)))))), ?_⟩
    simp_all only []
    generalize hm : (n % 2147483629 + 48271 * (k + 1)) % 2147483629 = m
    have m0 : 0 ≤ m := by omega
    have m1 : m < 2147483629 := by omega
    refine ⟨by decide, .inl ⟨by decide, by decide⟩, by decide, .inl ⟨by omega, by omega⟩, .inl ⟨by decide, by decide⟩, .inl ⟨by decide, by decide⟩, by decide, q _ ?_ ?_⟩ <;> omega
theorem sc__law_row : FnScope ["_law_script", "_law_k", "_law_many", "_law_base", "_law_left", "_law_found", "_law_turn"] ["_law_script", "_law_k", "_law_many", "_law_base"] (defScope s__law_row) := ⟨rfl, rfl, rfl, by decide +kernel, rfl, by decide +kernel, by decide +kernel⟩
structure RowInv (H : Hp) (l a : Addr) (k m b : Int) (i : Nat) (σ : L2.St) (H' : Hp) : Prop where
  ex : ∃ (left : Int) (ds : List Int) (tn : Option V), σ = [some (V.ref a), some (.int k), some (.int m), some (.int b), some (.int left), some (.ref l), tn] ∧
      Same H H' ∧ H' l = some (.lst (ds.map V.int)) ∧ ds.length = i ∧ ∀ d ∈ ds, 0 ≤ d ∧ d < b
theorem ok__law_row {f : Addr} {fd : FuncData} {cm : Bool} (F : Fun K "_law_row" "_law_row" s__law_row f fd) (T : Txt K mg A) (G__law_at : GF P w K mg base true 1 "_law_at" ["_law_script", "_law_k"] (spAt K)) (G__law_mixed : GF P w K mg base true 1 "_law_mixed" ["_law_number", "_law_k"] spMixed) : FnOk P w K mg base CX0 true 2 f fd ["_law_script", "_law_k", "_law_many", "_law_base"] (spRow K) := by
  refine F.ok sc__law_row (fun vs H Q E h => ?_) (fun cdv Ar outer s H vs Q E hr h => ?_)
  · obtain ⟨a, ns, k, m, b, rfl, _⟩ := h; rfl
  · obtain ⟨a, ns, k, m, b, rfl, hS, hk, hm, hm2, hb, hb2, q⟩ := h
    refine ⟨_, (W.h (w_pss_cons (w_ps_set (i := 4) sc__law_row.nd rfl (Or.inl rfl) (w_pe_op op_sub (w_pe_g G__law_at hr rfl (w_pa_p (w_pv 0) (w_pa_p (w_pv 1) w_pa_nil))) (w_pe_op op_pow w_pe_int w_pe_int)))
      (w_pss_cons (w_ps_set (i := 5) sc__law_row.nd rfl (Or.inl rfl) (w_pe_lstA w_pa_nil))
      (w_pss_cons (w_ps_for PassesOwn.never (fun _ => rfl) (w_pi_range1p rfl T.n_range (w_pa_p (w_pv 2) w_pa_nil)) (w_pg_name (i := 6) sc__law_row.nd rfl (Or.inl rfl))
      (w_pss_cons (w_ps_if (w_pt_cmpR op_lt (w_pv 4) w_pe_int (nomark _))
      (w_pss_one (w_ps_set (i := 4) sc__law_row.nd rfl (Or.inl rfl) (w_pe_g G__law_mixed hr rfl (w_pa_p (w_pe_op op_addU (w_pe_g G__law_at hr rfl (w_pa_p (w_pv 0) (w_pa_p (w_pv 1) w_pa_nil))) (w_pe_op op_mulS w_pe_int (w_pe_g G__law_at hr rfl (w_pa_p (w_pv 0) (w_pa_p (w_pe_op op_addU (w_pv 1) (w_pe_op op_mod (w_pv 6) w_pe_int)) w_pa_nil))))) (w_pa_p (w_pe_op op_addU (w_pe_op op_mulS w_pe_int (w_pv 1)) (w_pv 6)) w_pa_nil)))))
      w_pss_nil)
      (w_pss_cons (w_ps_expr (w_pe_append (w_pv 5) (w_pe_op op_mod (w_pv 4) (w_pv 3))))
      (w_pss_one (w_ps_set (i := 4) sc__law_row.nd rfl (Or.inl rfl) (w_pe_op op_fdiv (w_pv 4) (w_pv 3)))))))
      (w_pss_one (w_ps_ret (w_pv 5))))))), ?_⟩
    simp_all only []
    refine ⟨a, ns, k, rfl, hS, hk, ?_⟩
    simp_all only []
    refine ⟨⟨by decide, by decide, by decide⟩, by decide, fun l H1 nl _ => ?_⟩
    have hl := nl.no
    refine ⟨by omega, by omega, ?_⟩
    have fin : ∀ (i : Nat) (H' : Hp) (x : Int) (ds : List Int), i < m.toNat → Same H H' → H' l = some (.lst (ds.map V.int)) → ds.length = i → (∀ d ∈ ds, 0 ≤ d ∧ d < b) →
        (List.map V.int ds).length < sizeLine ∧ CDiv x b ∧ RowInv H l a k m b (i + 1) [some (V.ref a), some (.int k), some (.int m), some (.int b), some (.int (x / b)), some (.ref l), some (.int (0 + i))] (upd H' l (.lst (ds.map V.int ++ [.int (x % b)]))) := by
      intro i H' x ds hi sm hl' hlen hds
      refine ⟨by rw [List.length_map]; exact small1000 (by omega), ⟨hb, hb2⟩, ⟨x / b, ds ++ [x % b], _, rfl, fun c o e => by rw [upd_ne (ne_of_none e hl)]; exact sm c o e, by rw [upd_same, List.map_append]; rfl, by simp [hlen], fun d hd => ?_⟩⟩
      rcases List.mem_append.mp hd with hd | hd
      · exact hds d hd
      · rw [List.mem_singleton] at hd
        subst hd
        exact ⟨Int.emod_nonneg _ (by omega), Int.emod_lt_of_pos _ hb⟩
    refine ForJ.rng (RowInv H l a k m b) ⟨⟨_, [], _, rfl, nl.same, nl.at_, rfl, by simp⟩⟩ ?_ ?_
    · rintro i σ H' hi ⟨⟨left, ds, tn, rfl, sm, hl', hlen, hds⟩⟩
      simp_all only [hl', hb, hb2]
      refine ite2 (fun _ => ?_) (fun _ => ?_)
      · refine ⟨a, ns, k, rfl, sm.seq hS, hk, ?_⟩
        simp_all only [hl', hb, hb2]
        refine ⟨by decide, a, ns, _, rfl, sm.seq hS, by omega, ?_⟩
        simp_all only [hl', hb, hb2]
        refine ⟨.inl ⟨by decide, by decide⟩, .inl ⟨by decide, by decide⟩, _, _, rfl, fun r _ _ => ?_⟩
        simp_all only [hl', hb, hb2]
        exact fin i H' r ds hi sm hl' hlen hds
      · exact fin i H' left ds hi sm hl' hlen hds
    · rintro σ H' ⟨⟨left, ds, tn, rfl, sm, hl', hlen, hds⟩⟩
      simp_all only []
      exact q l ds H' sm hl hl' hlen hds
end
abbrev s__law_size : Stmt := top 32
section
variable {P : Program} {w : World} {K : PySem.W.Frag} {mg : Str → Option Value} {base : Heap} {A : ClsA}
/-- what can be shown -/
structure Shows (H : Hp) (v : V) : Prop where
  ex : ∃ d, DatV H v d ∧ d.showable = true ∧ d.depth ≤ 2 ∧ d.shown.length ≤ 5000
theorem shows_int {H : Hp} {i : Int} (h1 : -(2 ^ 200) < i) (h2 : i < 2 ^ 200) : Shows H (.int i) := by
  have hl : i.natAbs.log2 < 1920 := log2_small (Nat.lt_of_lt_of_le (show i.natAbs < 2 ^ 200 by omega) (Nat.pow_le_pow_right (by decide) (by decide)))
  refine ⟨.int i, .int i, ?_, ?_, ?_⟩
  · simp only [PyData.showable]; exact decide_eq_true hl
  · simp only [PyData.depth]; decide
  · simp only [PyData.shown]; exact Nat.le_trans (int_text_len_1921 hl) (by decide)
mutual
theorem DatV.same {H H' : Hp} (s : Same H H') : ∀ {v : V} {d : PyData}, DatV H v d → DatV H' v d
  | _, _, .non => .non
  | _, _, .bl b => .bl b
  | _, _, .int i => .int i
  | _, _, .str x => .str x
  | _, _, .lst n h ds => .lst n (s _ _ h) (DatVs.same s ds)
  | _, _, .tup h ds => .tup (s _ _ h) (DatVs.same s ds)
  | _, _, .dic h => .dic (s _ _ h)
theorem DatVs.same {H H' : Hp} (s : Same H H') : ∀ {vs : List V} {ds : List PyData}, DatVs H vs ds → DatVs H' vs ds
  | _, _, .nil => .nil
  | _, _, .cons d ds => .cons (DatV.same s d) (DatVs.same s ds)
end
theorem Shows.same {H H' : Hp} {v : V} (t : Shows H v) (s : Same H H') : Shows H' v := by
  obtain ⟨d, h1, h2⟩ := t.ex
  exact ⟨d, DatV.same s h1, h2⟩
theorem atI_mem {α : Type} {xs : List α} {i : Int} (h0 : 0 ≤ i) (h1 : i < xs.length) : ∃ v, atI xs i = some v ∧ v ∈ xs := by
  have hn : i.toNat < xs.length := by omega
  have z : atI xs ((i.toNat : Nat) : Int) = some xs[i.toNat] := atI_nat (List.getElem?_eq_getElem hn)
  rw [show ((i.toNat : Nat) : Int) = i by omega] at z
  exact ⟨_, z, List.getElem_mem hn⟩
theorem sizeBig : 1000 ≤ sizeLine := by decide
def spSize : Sp := fun vs H Q _ => ∃ (d f m : Int), vs = [.int d, .int f, .int m] ∧ 0 ≤ d ∧ d < 1000000 ∧ ((f = 3 ∧ m = 16) ∨ (f = 2 ∧ m = 32)) ∧
  ∀ (t : Addr) (v : V) (H' : Hp), Same H H' → H t = none → H' t = some (.tup [v, .bl (withinV v f m)]) → Thing H' v → Shows H' v → Q (.ref t) H'
theorem sc__law_size : FnScope ["_law_digit", "_law_fewest", "_law_most", "_law_far", "_law_some", "_law_thing"] ["_law_digit", "_law_fewest", "_law_most"] (defScope s__law_size) := ⟨rfl, rfl, rfl, by decide +kernel, rfl, by decide +kernel, by decide +kernel⟩
theorem ok__law_size {f : Addr} {fd : FuncData} {cm : Bool} (F : Fun K "_law_size" "_law_size" s__law_size f fd) (T : Txt K mg A) : FnOk P w K mg base CX0 cm 1 f fd ["_law_digit", "_law_fewest", "_law_most"] spSize := by
  refine F.ok sc__law_size (fun vs H Q E h => ?_) (fun cdv Ar outer s H vs Q E hr h => ?_)
  · obtain ⟨d, f, m, rfl, _⟩ := h; rfl
  · obtain ⟨d, f, m, rfl, hd, hd2, hfm, q⟩ := h
    have hf : -(2 ^ 64) < f ∧ f < 2 ^ 64 := by omega
    refine ⟨_, (W.h (w_pss_cons (w_ps_set (i := 3) sc__law_size.nd rfl (Or.inl rfl) (w_pe_op op_fdiv (w_pv 0) w_pe_int))
      (w_pss_cons (w_ps_set (i := 4) sc__law_size.nd rfl (Or.inl rfl) (w_pe_lstA (w_pa_p w_pe_int (w_pa_p w_pe_int (w_pa_p (w_pe_op op_sub (w_pv 1) w_pe_int) (w_pa_p (w_pe_op op_addU (w_pv 2) w_pe_int) (w_pa_p (w_pe_un un_neg (w_pv 1)) (w_pa_p (w_pe_op op_addU (w_pe_op op_addU (w_pv 2) w_pe_int) (w_pe_op op_mulS (w_pv 3) (w_pe_op op_pow w_pe_int w_pe_int))) (w_pa_p (w_pe_op op_sub (w_pe_un un_neg w_pe_int) (w_pv 3)) (w_pa_p w_pe_bl (w_pa_p w_pe_bl (w_pa_p w_pe_non w_pa_nil))))))))))))
      (w_pss_cons (w_ps_set (i := 4) sc__law_size.nd rfl (Or.inl rfl) (w_pe_op op_addU (w_pv 4) (w_pe_lstA (w_pa_p w_pe_str (w_pa_p (w_pe_callTyp call_strU rfl T.n_str boot_str (w_pa_p (w_pv 1) w_pa_nil)) (w_pa_p (w_pe_lstA (w_pa_p (w_pv 1) w_pa_nil)) (w_pa_p (w_pe_tupA w_pa_nil) (w_pa_p w_pe_dnewA (w_pa_p (w_pe_lstA w_pa_nil) (w_pa_p (w_pe_tupA (w_pa_p (w_pv 1) (w_pa_p (w_pv 2) w_pa_nil))) w_pa_nil))))))))))
      (w_pss_cons (w_ps_if (w_pt_cmpR op_lt (w_pe_op op_mod (w_pv 0) w_pe_int) (w_pe_callBp call_lenU rfl T.n_len PySem.boot_len (w_pa_p (w_pv 4) w_pa_nil)) (nomark _))
      (w_pss_cons (w_ps_set (i := 5) sc__law_size.nd rfl (Or.inl rfl) (w_pe_ix ix_U (w_pv 4) (w_pe_op op_mod (w_pv 0) w_pe_int) (fun _ _ => rfl)))
      (w_pss_one (w_ps_ret (w_pe_tupA (w_pa_p (w_pv 5) (w_pa_p (w_pe_and (w_pe_callBp call_isi rfl T.n_isinstance boot_isinstance (w_pa_p (w_pv 5) (w_pa_p (w_pe_bltn rfl T.n_int boot_int (v := .ty "int") rfl) w_pa_nil))) (w_pe_and (w_pe_not (w_pe_callBp call_isi rfl T.n_isinstance boot_isinstance (w_pa_p (w_pv 5) (w_pa_p (w_pe_bltn rfl T.n_bool boot_bool (v := .ty "bool") rfl) w_pa_nil)))) (w_pe_one (w_pe_chain op_le op_le (w_pv 1) (w_pv 5) (w_pv 2))))) w_pa_nil))))))
      w_pss_nil)
      (w_pss_one (w_ps_ret (w_pe_tupA (w_pa_p (w_pe_op op_addU (w_pv 1) (w_pe_op op_mod (w_pv 3) (w_pe_op op_addU (w_pe_op op_sub (w_pv 2) (w_pv 1)) w_pe_int))) (w_pa_p w_pe_bl w_pa_nil)))))))))), ?_⟩
    simp_all only []
    have lg : f.natAbs.log2 < 1920 := log2_small (Nat.lt_of_lt_of_le (show f.natAbs < 2 ^ 200 by omega) (Nat.pow_le_pow_right (by decide) (by decide)))
    refine ⟨⟨by decide, by decide⟩, ⟨by decide, by decide, by decide⟩, .inr ⟨by decide, by decide⟩, by decide, fun p1 H1 n1 z1 => ⟨lg, by decide, fun p2 H2 n2 z2 => ⟨by decide, fun p3 H3 n3 p4 H4 n4 => ⟨by decide, fun p5 H5 n5 z5 => ⟨by decide, fun p6 H6 n6 => ⟨by decide, fun p7 H7 n7 z7 => ?_⟩⟩⟩⟩⟩⟩
    have e1 := n7.same _ _ (n6.same _ _ (n5.same _ _ (n4.same _ _ (n3.same _ _ (n2.same _ _ n1.at_)))))
    refine ⟨_, e1, _, n7.at_, Nat.le_trans (show 17 ≤ 1000 by decide) sizeBig, fun p8 H8 n8 => ⟨by decide, _, .inl n8.at_, ?_⟩⟩
    have e2 := n8.same _ _ (n7.same _ _ (n6.same _ _ (n5.same _ _ (n4.same _ _ (n3.same _ _ n2.at_)))))
    have e3 := n8.same _ _ (n7.same _ _ (n6.same _ _ (n5.same _ _ (n4.same _ _ n3.at_))))
    have e4 := n8.same _ _ (n7.same _ _ (n6.same _ _ (n5.same _ _ n4.at_)))
    have e5 := n8.same _ _ (n7.same _ _ (n6.same _ _ n5.at_))
    have e6 := n8.same _ _ (n7.same _ _ n6.at_)
    have s8 : Same H H8 := n1.same.trans (n2.same.trans (n3.same.trans (n4.same.trans (n5.same.trans (n6.same.trans (n7.same.trans n8.same))))))
    refine ite2 (fun h => ?_) (fun h => ?_)
    · have hlt := of_decide_eq_true h
      obtain ⟨v, hv, hm⟩ := atI_mem (i := d % 24) (by omega) hlt
      refine ⟨by decide, _, .inl n8.at_, v, hv, ?_⟩
      have good : Thing H8 v ∧ Shows H8 v := by
        have pw : (10 : Int) ^ Int.toNat 12 = 1000000000000 := by decide
        rw [pw] at hm
        simp only [List.cons_append, List.nil_append, List.mem_cons, List.not_mem_nil, or_false] at hm
        rcases hfm with ⟨rfl, rfl⟩ | ⟨rfl, rfl⟩ <;> rcases hm with rfl | rfl | rfl | rfl | rfl | rfl | rfl | rfl | rfl | rfl | rfl | rfl | rfl | rfl | rfl | rfl | rfl
        all_goals first
          | exact ⟨.int _, shows_int (by omega) (by omega)⟩
          | exact ⟨.bl _, ⟨.bool _, .bl _, rfl, by decide, by decide +kernel⟩⟩
          | exact ⟨.non, ⟨.none, .non, rfl, by decide, by decide +kernel⟩⟩
          | exact ⟨.str _, ⟨.str _, .str _, rfl, by decide, by decide +kernel⟩⟩
          | exact ⟨.lst e2, ⟨.list [.int _], .lst z2 e2 (.cons (.int _) .nil), by decide +kernel, by decide +kernel, by decide +kernel⟩⟩
          | exact ⟨.tup e3, ⟨.tuple [], .tup e3 .nil, by decide +kernel, by decide +kernel, by decide +kernel⟩⟩
          | exact ⟨.dic e4, ⟨.dict [], .dic e4, by decide +kernel, by decide +kernel, by decide +kernel⟩⟩
          | exact ⟨.lst e5, ⟨.list [], .lst z5 e5 .nil, by decide +kernel, by decide +kernel, by decide +kernel⟩⟩
          | exact ⟨.tup e6, ⟨.tuple [.int _, .int _], .tup e6 (.cons (.int _) (.cons (.int _) .nil)), by decide +kernel, by decide +kernel, by decide +kernel⟩⟩
      clear hm
      obtain ⟨th, sh⟩ := good
      have fin : ∀ b, b = withinV v f m → (2 ≤ sizeLine ∧ ∀ p H2, New H8 p (HO.tup [v, .bl b]) H2 → Q (.ref p) H2) := fun b e => by
        subst e
        exact ⟨by decide, fun p H9 n9 => q p v H9 (s8.trans n9.same) (s8.free n9.no) n9.at_ (th.same n9.same) (sh.same n9.same)⟩
      refine isi_int th ?_
      cases th with
      | int i =>
        simp_all only []
        refine isi_bool (.int i) ?_
        simp_all only []
        refine ite2 (fun h => fin _ ?_) (fun h => fin _ ?_)
        · show _ = (decide (f ≤ i) && _); rw [h]; rfl
        · show _ = (decide (f ≤ i) && _); rw [Bool.eq_false_iff.mpr h]; rfl
      | bl b =>
        simp_all only []
        refine isi_bool (.bl b) ?_
        simp_all only []
        exact fin _ rfl
      | _ => exact ⟨false, rfl, iteF (fin _ rfl)⟩
    · refine ⟨by omega, by decide, fun p H9 n9 => q p (.int (f + d / 24 % (m - f + 1))) H9 (s8.trans n9.same) (s8.free n9.no) ?_ (.int _) (shows_int ?_ ?_)⟩
      · have e : withinV (.int (f + d / 24 % (m - f + 1))) f m = true := by
          have h1 : 0 ≤ d / 24 % (m - f + 1) := Int.emod_nonneg _ (by omega)
          have h2 : d / 24 % (m - f + 1) < m - f + 1 := Int.emod_lt_of_pos _ (by omega)
          show (decide _ && decide _) = true
          rw [decide_eq_true (show f ≤ f + d / 24 % (m - f + 1) by omega), decide_eq_true (show f + d / 24 % (m - f + 1) ≤ m by omega)]; rfl
        rw [e]; exact n9.at_
      · have h1 : 0 ≤ d / 24 % (m - f + 1) := Int.emod_nonneg _ (by omega)
        omega
      · have h2 : d / 24 % (m - f + 1) < m - f + 1 := Int.emod_lt_of_pos _ (by omega)
        omega
end
abbrev s__law_kinds : Stmt := top 33
section
variable {P : Program} {w : World} {K : PySem.W.Frag} {mg : Str → Option Value} {base : Heap} {A : ClsA}
theorem boot_ValueError : bootBuiltins "ValueError" = some (.type "ValueError") := by decide +kernel
theorem isi_exc {K : PySem.W.Frag} {H : Hp} {e C : Addr} {o : Obj} {c : V} {u : Value} {b : Bool} {Q : VK} (he : H e = some (.frz o (.own 0))) (ho : ExcO C o) (O : ErrC K C) (hk : PySem.W.kitOne K (.ref C) u = some b) (hc : clsV c = some u) (q : Q (.bl b) H) : rIsi K [.ref e, c] H Q :=
  ⟨_, _, _, _, _, rfl, hc, .exc he ho O, hk, q⟩
def fnd : List V := [.bl false, .bl true, .bl false, .bl false, .bl false, .bl false, .bl false, .bl false, .bl false, .bl false, .bl false, .bl false, .bl false, .bl false, .bl false, .bl false, .bl false]
def wds : List V := [.str "row", .str "disk", .str "full", .str "stopped", .str "file", .str "place", .str "held", .str "not held", .str "files", .str "mark", .str "room", .str "gone", .str "closed", .str "blank", .str "deed", .str "house", .str "other"]
theorem fnd_at {i : Nat} {y : V} (h : fnd[i]? = some y) : y = .bl (decide (i = 1)) := by
  have hi : i < 17 := (List.getElem?_eq_some_iff.mp h).1
  have : i = 0 ∨ i = 1 ∨ i = 2 ∨ i = 3 ∨ i = 4 ∨ i = 5 ∨ i = 6 ∨ i = 7 ∨ i = 8 ∨ i = 9 ∨ i = 10 ∨ i = 11 ∨ i = 12 ∨ i = 13 ∨ i = 14 ∨ i = 15 ∨ i = 16 := by omega
  rcases this with rfl | rfl | rfl | rfl | rfl | rfl | rfl | rfl | rfl | rfl | rfl | rfl | rfl | rfl | rfl | rfl | rfl <;> (cases h; rfl)
structure KInv (K : PySem.W.Frag) (H : Hp) (a b : Addr) (i : Nat) (τ : L2.St) (zs : List V) (H' : Hp) : Prop where
  ex : ∃ t0 t1, τ = [t0, t1]
  zs : zs = if i ≤ 1 then [] else [.str "disk"]
  same : Same H H'
  a : H' a = some (.lst wds)
  b : H' b = some (.lst fnd)
def spKinds (A : ClsA) : Sp := fun vs H Q _ => ∃ (e : Addr) (o : Obj), vs = [.ref e] ∧ H e = some (.frz o (.own 0)) ∧ ExcO A.NoDisk o ∧ ∀ (l : Addr) (H' : Hp), Same H H' → H l = none → H' l = some (.lst [.str "disk"]) → Q (.ref l) H'
theorem sc__law_kinds : FnScope ["_law_e", "_law_found", "_law_words"] ["_law_e"] (defScope s__law_kinds) := ⟨rfl, rfl, rfl, by decide +kernel, rfl, by decide +kernel, by decide +kernel⟩
theorem lc__law_kinds_0 : lcStat { kind := .function, names := [(Str.ofString ".0", .local), (Str.ofString "_law_word", .local), (Str.ofString "_law_told", .local)], isGenerator := false, isCoroutine := false, more := [] } (defScope s__law_kinds).names ["_law_e", "_law_found", "_law_words"] ["_law_word", "_law_told"] [none, none] = true := by decide +kernel
theorem lcn__law_kinds_0 : (["_law_word", "_law_told"] : List Str).Nodup := by decide +kernel
theorem ok__law_kinds {f : Addr} {fd : FuncData} (F : Fun K "_law_kinds" "_law_kinds" s__law_kinds f fd) (T : Txt K mg A) : FnOk P w K mg base CX0 false 1 f fd ["_law_e"] (spKinds A) := by
  refine F.ok sc__law_kinds (fun vs H Q E h => ?_) (fun cdv Ar outer s H vs Q E hr h => ?_)
  · obtain ⟨e, o, rfl, _⟩ := h; rfl
  · obtain ⟨e, o, rfl, he, ho, q⟩ := h
    refine ⟨_, (W.h (w_pss_cons (w_ps_set (i := 1) sc__law_kinds.nd rfl (Or.inl rfl) (w_pe_lstA (w_pa_p (w_pe_callBp call_isi rfl T.n_isinstance boot_isinstance (w_pa_p (w_pv 0) (w_pa_p (w_pe_gv rfl T.c_NoRow) w_pa_nil))) (w_pa_p (w_pe_callBp call_isi rfl T.n_isinstance boot_isinstance (w_pa_p (w_pv 0) (w_pa_p (w_pe_gv rfl T.c_NoDisk) w_pa_nil))) (w_pa_p (w_pe_callBp call_isi rfl T.n_isinstance boot_isinstance (w_pa_p (w_pv 0) (w_pa_p (w_pe_gv rfl T.c_Full) w_pa_nil))) (w_pa_p (w_pe_callBp call_isi rfl T.n_isinstance boot_isinstance (w_pa_p (w_pv 0) (w_pa_p (w_pe_gv rfl T.c_Stopped) w_pa_nil))) w_pa_nil))))))
      (w_pss_cons (w_ps_set (i := 1) sc__law_kinds.nd rfl (Or.inl rfl) (w_pe_op op_addU (w_pv 1) (w_pe_lstA (w_pa_p (w_pe_callBp call_isi rfl T.n_isinstance boot_isinstance (w_pa_p (w_pv 0) (w_pa_p (w_pe_gv rfl T.c_NoFile) w_pa_nil))) (w_pa_p (w_pe_callBp call_isi rfl T.n_isinstance boot_isinstance (w_pa_p (w_pv 0) (w_pa_p (w_pe_gv rfl T.c_NoPlace) w_pa_nil))) (w_pa_p (w_pe_callBp call_isi rfl T.n_isinstance boot_isinstance (w_pa_p (w_pv 0) (w_pa_p (w_pe_gv rfl T.c_HeldAlready) w_pa_nil))) (w_pa_p (w_pe_callBp call_isi rfl T.n_isinstance boot_isinstance (w_pa_p (w_pv 0) (w_pa_p (w_pe_gv rfl T.c_NotHeld) w_pa_nil))) w_pa_nil)))))))
      (w_pss_cons (w_ps_set (i := 1) sc__law_kinds.nd rfl (Or.inl rfl) (w_pe_op op_addU (w_pv 1) (w_pe_lstA (w_pa_p (w_pe_callBp call_isi rfl T.n_isinstance boot_isinstance (w_pa_p (w_pv 0) (w_pa_p (w_pe_gv rfl T.c_NoFiles) w_pa_nil))) (w_pa_p (w_pe_callBp call_isi rfl T.n_isinstance boot_isinstance (w_pa_p (w_pv 0) (w_pa_p (w_pe_gv rfl T.c_NoMark) w_pa_nil))) (w_pa_p (w_pe_callBp call_isi rfl T.n_isinstance boot_isinstance (w_pa_p (w_pv 0) (w_pa_p (w_pe_gv rfl T.c_NoRoom) w_pa_nil))) (w_pa_p (w_pe_callBp call_isi rfl T.n_isinstance boot_isinstance (w_pa_p (w_pv 0) (w_pa_p (w_pe_gv rfl T.c_Gone) w_pa_nil))) w_pa_nil)))))))
      (w_pss_cons (w_ps_set (i := 1) sc__law_kinds.nd rfl (Or.inl rfl) (w_pe_op op_addU (w_pv 1) (w_pe_lstA (w_pa_p (w_pe_callBp call_isi rfl T.n_isinstance boot_isinstance (w_pa_p (w_pv 0) (w_pa_p (w_pe_gv rfl T.c_NotClosed) w_pa_nil))) (w_pa_p (w_pe_callBp call_isi rfl T.n_isinstance boot_isinstance (w_pa_p (w_pv 0) (w_pa_p (w_pe_gv rfl T.c_NotBlank) w_pa_nil))) (w_pa_p (w_pe_callBp call_isi rfl T.n_isinstance boot_isinstance (w_pa_p (w_pv 0) (w_pa_p (w_pe_gv rfl T.c_NoDeed) w_pa_nil))) (w_pa_p (w_pe_callBp call_isi rfl T.n_isinstance boot_isinstance (w_pa_p (w_pv 0) (w_pa_p (w_pe_gv rfl T.c_NoHouse) w_pa_nil))) w_pa_nil)))))))
      (w_pss_cons (w_ps_expr (w_pe_append (w_pv 1) (w_pe_not (w_pe_callBp call_isi rfl T.n_isinstance boot_isinstance (w_pa_p (w_pv 0) (w_pa_p (w_pe_bltn rfl T.n_ValueError boot_ValueError (v := .ty "ValueError") rfl) w_pa_nil))))))
      (w_pss_cons (w_ps_set (i := 2) sc__law_kinds.nd rfl (Or.inl rfl) (w_pe_lstA (w_pa_p w_pe_str (w_pa_p w_pe_str (w_pa_p w_pe_str (w_pa_p w_pe_str (w_pa_p w_pe_str (w_pa_p w_pe_str (w_pa_p w_pe_str (w_pa_p w_pe_str (w_pa_p w_pe_str (w_pa_p w_pe_str (w_pa_p w_pe_str (w_pa_p w_pe_str w_pa_nil))))))))))))))
      (w_pss_cons (w_ps_set (i := 2) sc__law_kinds.nd rfl (Or.inl rfl) (w_pe_op op_addU (w_pv 2) (w_pe_lstA (w_pa_p w_pe_str (w_pa_p w_pe_str (w_pa_p w_pe_str (w_pa_p w_pe_str (w_pa_p w_pe_str w_pa_nil))))))))
      (w_pss_one (w_ps_ret (w_pe_lc (by intro h; exact nomatch h) (LcOk.of lc__law_kinds_0) (w_pi_zipp rfl T.n_zip (w_pa_p (w_pv 2) (w_pa_p (w_pv 1) w_pa_nil))) (fun _ _ _ _ _ => (w_pg_tupL (n := 2) (w_pgs_cons (w_pg_name (i := 0) lcn__law_kinds_0 rfl (Or.inl rfl)) (w_pgs_cons (w_pg_name (i := 1) lcn__law_kinds_0 rfl (Or.inl rfl)) w_pgs_nil)))) (fun _ _ _ _ _ => (w_pts_one (w_pt_truL (w_pv 1)))) (fun _ _ _ _ _ => (w_pv 0))))))))))))), ?_⟩
    simp_all only []
    refine isi_exc he ho T.ec_NoDisk T.k_NoDisk_NoRow rfl (isi_exc he ho T.ec_NoDisk T.k_NoDisk_NoDisk rfl (isi_exc he ho T.ec_NoDisk T.k_NoDisk_Full rfl (isi_exc he ho T.ec_NoDisk T.k_NoDisk_Stopped rfl ⟨by decide, fun p1 H1 n1 z1 => ?_⟩)))
    have he := n1.same _ _ he
    refine isi_exc he ho T.ec_NoDisk T.k_NoDisk_NoFile rfl (isi_exc he ho T.ec_NoDisk T.k_NoDisk_NoPlace rfl (isi_exc he ho T.ec_NoDisk T.k_NoDisk_HeldAlready rfl (isi_exc he ho T.ec_NoDisk T.k_NoDisk_NotHeld rfl ⟨by decide, fun p2 H2 n2 z2 => ?_⟩)))
    have he := n2.same _ _ he
    refine ⟨_, n2.same _ _ n1.at_, _, n2.at_, by decide, fun p3 H3 n3 => ?_⟩
    have he := n3.same _ _ he
    refine isi_exc he ho T.ec_NoDisk T.k_NoDisk_NoFiles rfl (isi_exc he ho T.ec_NoDisk T.k_NoDisk_NoMark rfl (isi_exc he ho T.ec_NoDisk T.k_NoDisk_NoRoom rfl (isi_exc he ho T.ec_NoDisk T.k_NoDisk_Gone rfl ⟨by decide, fun p4 H4 n4 z4 => ?_⟩)))
    have he := n4.same _ _ he
    refine ⟨_, n4.same _ _ n3.at_, _, n4.at_, by decide, fun p5 H5 n5 => ?_⟩
    have he := n5.same _ _ he
    refine isi_exc he ho T.ec_NoDisk T.k_NoDisk_NotClosed rfl (isi_exc he ho T.ec_NoDisk T.k_NoDisk_NotBlank rfl (isi_exc he ho T.ec_NoDisk T.k_NoDisk_NoDeed rfl (isi_exc he ho T.ec_NoDisk T.k_NoDisk_NoHouse rfl ⟨by decide, fun p6 H6 n6 z6 => ?_⟩)))
    have he := n6.same _ _ he
    refine ⟨_, n6.same _ _ n5.at_, _, n6.at_, by decide, fun p7 H7 n7 => ?_⟩
    have he := n7.same _ _ he
    refine ⟨⟨_, n7.at_⟩, isi_exc he ho T.ec_NoDisk T.k_NoDisk_ValueError rfl ?_⟩
    have s7 : Same H H7 := n1.same.trans (n2.same.trans (n3.same.trans (n4.same.trans (n5.same.trans (n6.same.trans n7.same)))))
    have f7 : H p7 = none := (n1.same.trans (n2.same.trans (n3.same.trans (n4.same.trans (n5.same.trans n6.same))))).free n7.no
    simp_all only [n7.at_]
    refine ⟨by decide, by decide, fun p8 H8 n8 z8 => ⟨by decide, fun p9 H9 n9 z9 => ⟨_, n9.same _ _ n8.at_, _, n9.at_, by decide, fun p10 H10 n10 => ?_⟩⟩⟩
    have e1 : H10 p10 = some (.lst wds) := n10.at_
    have e2 : H10 p7 = some (.lst fnd) := n10.same _ _ (n9.same _ _ (n8.same _ _ upd_same))
    have s10 : Same H H10 := fun c ob e => n10.same _ _ (n9.same _ _ (n8.same _ _ (by rw [upd_ne (ne_of_none e f7)]; exact s7 c ob e)))
    refine ⟨⟨_, SqL.of e1⟩, ⟨_, SqL.of e2⟩, CompJ.zip (xs := wds) (ys := fnd) rfl (KInv K H p10 p7) (fun i τ zs H' I => ?_) (fun i τ zs H' I => ⟨SqL.of I.a, SqL.of I.b⟩) ⟨⟨_, _, rfl⟩, rfl, s10, e1, e2⟩ ?_ ?_⟩
    · rw [I.zs]; split <;> decide
    · intro N i x y p τ zs H' hx hy I hp hN
      obtain ⟨t0, t1, rfl⟩ := I.ex
      have hy' := fnd_at hy
      subst hy'
      refine ⟨p, [x, .bl (decide (i = 1))], rfl, SqT.of upd_same, rfl, ?_⟩
      simp_all only []
      have nw : New H' p (.tup [x, .bl (decide (i = 1))]) (upd H' p (.tup [x, .bl (decide (i = 1))])) := .mk' hp
      by_cases hi : i = 1
      · subst hi
        cases hx
        refine (show CompN N zs [some (.str "disk"), some (.bl true)] (tVar 0) true _ from ?_)
        simp_all only []
        refine hN _ _ _ ⟨⟨_, _, rfl⟩, ?_, I.same.trans nw.same, nw.same _ _ I.a, nw.same _ _ I.b⟩
        rw [I.zs]; rfl
      · rw [decide_eq_false hi] at nw ⊢
        simp_all only []
        refine hN _ _ _ ⟨⟨_, _, rfl⟩, ?_, I.same.trans nw.same, nw.same _ _ I.a, nw.same _ _ I.b⟩
        rw [I.zs]
        by_cases h0 : i = 0
        · subst h0; rfl
        · rw [if_neg (by omega), if_neg (by omega)]
    · intro τ zs H' I D H'' nD
      refine q D H'' (I.same.trans nD.same) (I.same.free nD.no) ?_
      rw [nD.at_, I.zs]; rfl
end
abbrev s_Disk___init__ : Stmt := inClass (top 27) 0
abbrev s_Disk_stretches : Stmt := inClass (top 27) 1
abbrev s_Disk_places : Stmt := inClass (top 27) 2
abbrev s_Disk_told : Stmt := inClass (top 27) 4
abbrev s_Disk_side : Stmt := inClass (top 27) 5
abbrev s_Disk_signs : Stmt := inClass (top 27) 6
section
variable {P : Program} {w : World} {K : PySem.W.Frag} {mg : Str → Option Value} {base : Heap} {A : ClsA}
def flds (m : Int) (wl sl : Addr) : List (Str × V) := [("width", .int m), ("written", .ref wl), ("at_sides", .ref sl), ("counted", .int 0), ("left", .non), ("has_stopped", .bl false)]
theorem fl_width {m : Int} {wl sl : Addr} : (flds m wl sl).lookup ("width" : Str) = some (.int m) := by simp only [flds, List.lookup, beq_self_eq_true]
theorem fl_written {m : Int} {wl sl : Addr} : (flds m wl sl).lookup ("written" : Str) = some (.ref wl) := by simp only [flds, List.lookup, beq_self_eq_true, nb_written_width]
theorem fl_at_sides {m : Int} {wl sl : Addr} : (flds m wl sl).lookup ("at_sides" : Str) = some (.ref sl) := by simp only [flds, List.lookup, beq_self_eq_true, nb_at_sides_width, nb_at_sides_written]
theorem fl_counted {m : Int} {wl sl : Addr} : (flds m wl sl).lookup ("counted" : Str) = some (.int 0) := by simp only [flds, List.lookup, beq_self_eq_true, nb_counted_width, nb_counted_written, nb_counted_at_sides]
theorem fl_stretches {m : Int} {wl sl : Addr} : (flds m wl sl).lookup ("stretches" : Str) = none := by simp only [flds, List.lookup, nb_stretches_width, nb_stretches_written, nb_stretches_at_sides, nb_stretches_counted, nb_stretches_left, nb_stretches_has_stopped]
theorem fl_places {m : Int} {wl sl : Addr} : (flds m wl sl).lookup ("places" : Str) = none := by simp only [flds, List.lookup, nb_places_width, nb_places_written, nb_places_at_sides, nb_places_counted, nb_places_left, nb_places_has_stopped]
theorem fl_told {m : Int} {wl sl : Addr} : (flds m wl sl).lookup ("told" : Str) = none := by simp only [flds, List.lookup, nb_told_width, nb_told_written, nb_told_at_sides, nb_told_counted, nb_told_left, nb_told_has_stopped]
theorem fl_side {m : Int} {wl sl : Addr} : (flds m wl sl).lookup ("side" : Str) = none := by simp only [flds, List.lookup, nb_side_width, nb_side_written, nb_side_at_sides, nb_side_counted, nb_side_left, nb_side_has_stopped]
theorem fl_signs {m : Int} {wl sl : Addr} : (flds m wl sl).lookup ("signs" : Str) = none := by simp only [flds, List.lookup, nb_signs_width, nb_signs_written, nb_signs_at_sides, nb_signs_counted, nb_signs_left, nb_signs_has_stopped]
structure DiskAt (A : ClsA) (H : Hp) (p : Addr) (n : Nat) (m : Int) : Prop where
  ex : ∃ (dx wl sl : Addr) (cells : List Addr), H p = some (.ins A.Disk dx (flds m wl sl)) ∧ H wl = some (.lst (cells.map V.ref)) ∧ cells.length = n ∧ (∀ c ∈ cells, H c = some (.lst [])) ∧ H sl = some (.lst [.non, .non])
theorem DiskAt.same {H H' : Hp} {p : Addr} {n : Nat} {m : Int} (D : DiskAt A H p n m) (s : Same H H') : DiskAt A H' p n m := by
  obtain ⟨dx, wl, sl, cells, h1, h2, h3, h4, h5⟩ := D.ex
  exact ⟨dx, wl, sl, cells, s _ _ h1, s _ _ h2, h3, fun c hc => s _ _ (h4 c hc), s _ _ h5⟩
def spM (A : ClsA) (r : Nat → Int → V) : Sp := fun vs H Q _ => ∃ (p : Addr) (n : Nat) (m : Int), vs = [.ref p] ∧ DiskAt A H p n m ∧ Q (r n m) H
def spSide (A : ClsA) : Sp := fun vs H Q _ => ∃ (p : Addr) (n : Nat) (m k : Int), vs = [.ref p, .int k] ∧ DiskAt A H p n m ∧ 0 ≤ k ∧ k < 2 ∧ Q .non H
def spTold (A : ClsA) : Sp := fun vs H Q _ => ∃ (p : Addr) (n : Nat) (m k j : Int), vs = [.ref p, .int k, .int j] ∧ DiskAt A H p n m ∧ 0 ≤ k ∧ k < n ∧ 0 ≤ j ∧ Q .non H
theorem sc_Disk_stretches : FnScope ["self"] ["self"] (defScope s_Disk_stretches) := ⟨rfl, rfl, rfl, by decide +kernel, rfl, by decide +kernel, by decide +kernel⟩
theorem ok_Disk_stretches {f : Addr} {fd : FuncData} {cm : Bool} (F : Fun K "stretches" "Disk.stretches" s_Disk_stretches f fd) (T : Txt K mg A) : FnOk P w K mg base CX0 cm 1 f fd ["self"] (spM A fun n _ => .int n) := by
  refine F.ok sc_Disk_stretches (fun vs H Q E h => ?_) (fun cdv Ar outer s H vs Q E hr h => ?_)
  · obtain ⟨p, n, m, rfl, _⟩ := h; rfl
  · obtain ⟨p, n, m, rfl, D, q⟩ := h
    obtain ⟨dx, wl, sl, cells, h1, h2, h3, h4, h5⟩ := D.ex
    refine ⟨_, (W.h (w_pss_one (w_ps_ret (w_pe_callBp call_lenU rfl T.n_len PySem.boot_len (w_pa_p (w_pe_fldU T.cl_Disk T.na_Disk_written (w_pv 0)) w_pa_nil))))), ?_⟩
    simp_all only [h1, h2, fl_written, List.length_map, h3]
    exact q
theorem sc_Disk_places : FnScope ["self"] ["self"] (defScope s_Disk_places) := ⟨rfl, rfl, rfl, by decide +kernel, rfl, by decide +kernel, by decide +kernel⟩
theorem ok_Disk_places {f : Addr} {fd : FuncData} {cm : Bool} (F : Fun K "places" "Disk.places" s_Disk_places f fd) (T : Txt K mg A) : FnOk P w K mg base CX0 cm 1 f fd ["self"] (spM A fun _ m => .int m) := by
  refine F.ok sc_Disk_places (fun vs H Q E h => ?_) (fun cdv Ar outer s H vs Q E hr h => ?_)
  · obtain ⟨p, n, m, rfl, _⟩ := h; rfl
  · obtain ⟨p, n, m, rfl, D, q⟩ := h
    obtain ⟨dx, wl, sl, cells, h1, h2, h3, h4, h5⟩ := D.ex
    refine ⟨_, (W.h (w_pss_one (w_ps_ret (w_pe_fldU T.cl_Disk T.na_Disk_width (w_pv 0))))), ?_⟩
    simp_all only [h1, fl_width]
    exact q
theorem sc_Disk_signs : FnScope ["self"] ["self"] (defScope s_Disk_signs) := ⟨rfl, rfl, rfl, by decide +kernel, rfl, by decide +kernel, by decide +kernel⟩
theorem ok_Disk_signs {f : Addr} {fd : FuncData} {cm : Bool} (F : Fun K "signs" "Disk.signs" s_Disk_signs f fd) (T : Txt K mg A) : FnOk P w K mg base CX0 cm 1 f fd ["self"] (spM A fun _ _ => .int 0) := by
  refine F.ok sc_Disk_signs (fun vs H Q E h => ?_) (fun cdv Ar outer s H vs Q E hr h => ?_)
  · obtain ⟨p, n, m, rfl, _⟩ := h; rfl
  · obtain ⟨p, n, m, rfl, D, q⟩ := h
    obtain ⟨dx, wl, sl, cells, h1, h2, h3, h4, h5⟩ := D.ex
    refine ⟨_, (W.h (w_pss_one (w_ps_ret (w_pe_fldU T.cl_Disk T.na_Disk_counted (w_pv 0))))), ?_⟩
    simp_all only [h1, fl_counted]
    exact q
theorem sc_Disk_side : FnScope ["self", "k"] ["self", "k"] (defScope s_Disk_side) := ⟨rfl, rfl, rfl, by decide +kernel, rfl, by decide +kernel, by decide +kernel⟩
theorem ok_Disk_side {f : Addr} {fd : FuncData} {cm : Bool} (F : Fun K "side" "Disk.side" s_Disk_side f fd) (T : Txt K mg A) : FnOk P w K mg base CX0 cm 1 f fd ["self", "k"] (spSide A) := by
  refine F.ok sc_Disk_side (fun vs H Q E h => ?_) (fun cdv Ar outer s H vs Q E hr h => ?_)
  · obtain ⟨p, n, m, k, rfl, _⟩ := h; rfl
  · obtain ⟨p, n, m, k, rfl, D, k0, k2, q⟩ := h
    obtain ⟨dx, wl, sl, cells, h1, h2, h3, h4, h5⟩ := D.ex
    refine ⟨_, (W.h (w_pss_one (w_ps_ret (w_pe_ix ix_U (w_pe_fldU T.cl_Disk T.na_Disk_at_sides (w_pv 0)) (w_pv 1) (fun _ _ => rfl))))), ?_⟩
    have e : atI [V.non, V.non] k = some .non := by
      have : k = 0 ∨ k = 1 := by omega
      rcases this with rfl | rfl <;> rfl
    simp_all only [h1, h5, fl_at_sides, e]
    exact q
theorem sc_Disk_told : FnScope ["self", "stretch", "place", "texts"] ["self", "stretch", "place"] (defScope s_Disk_told) := ⟨rfl, rfl, rfl, by decide +kernel, rfl, by decide +kernel, by decide +kernel⟩
theorem ok_Disk_told {f : Addr} {fd : FuncData} {cm : Bool} (F : Fun K "told" "Disk.told" s_Disk_told f fd) (T : Txt K mg A) : FnOk P w K mg base CX0 cm 1 f fd ["self", "stretch", "place"] (spTold A) := by
  refine F.ok sc_Disk_told (fun vs H Q E h => ?_) (fun cdv Ar outer s H vs Q E hr h => ?_)
  · obtain ⟨p, n, m, k, j, rfl, _⟩ := h; rfl
  · obtain ⟨p, n, m, k, j, rfl, D, k0, k2, j0, q⟩ := h
    obtain ⟨dx, wl, sl, cells, h1, h2, h3, h4, h5⟩ := D.ex
    refine ⟨_, (W.h (w_pss_cons (w_ps_set (i := 3) sc_Disk_told.nd rfl (Or.inl rfl) (w_pe_ix ix_U (w_pe_fldU T.cl_Disk T.na_Disk_written (w_pv 0)) (w_pv 1) (fun _ _ => rfl)))
      (w_pss_one (w_ps_ret (w_pe_ifExp (w_pt_cmpR op_lt (w_pv 2) (w_pe_callBp call_lenU rfl T.n_len PySem.boot_len (w_pa_p (w_pv 3) w_pa_nil)) (nomark _)) (w_pe_ix ix_U (w_pv 3) (w_pv 2) (fun _ _ => rfl)) w_pe_non))))), ?_⟩
    obtain ⟨v, hv, hm⟩ := atI_mem (xs := cells.map V.ref) (i := k) k0 (by rw [List.length_map]; omega)
    obtain ⟨c, hc, rfl⟩ := List.mem_map.mp hm
    have hl : ¬ j < ((([] : List V).length : Nat) : Int) := by show ¬ j < 0; omega
    simp_all only [h1, h2, fl_written, hv, h4 c hc]
    refine ite2 (fun h => absurd (of_decide_eq_true h) (by show ¬ j < 0; omega)) (fun _ => q)
end
section
variable {P : Program} {w : World} {K : PySem.W.Frag} {mg : Str → Option Value} {base : Heap} {A : ClsA}
def okSizes (v1 v2 : V) : Bool := withinV v1 3 16 && withinV v2 2 32
def spInit (A : ClsA) : Sp := fun vs H Q E => ∃ (p dx : Addr) (v1 v2 : V), vs = [.ref p, v1, v2] ∧ H p = some (.ins A.Disk dx []) ∧ Thing H v1 ∧ Thing H v2 ∧
  (okSizes v1 v2 = true → ∀ (n m : Int) (H' : Hp), v1 = .int n → v2 = .int m → DiskAt A H' p n.toNat m → (∀ b o, H b = some o → b ≠ p → H' b = some o) → Q .non H') ∧
  (okSizes v1 v2 = false → E (.ref A.NoDisk) none H)
structure CellInv (H : Hp) (i : Nat) (τ : L2.St) (ys : List V) (H' : Hp) : Prop where
  τ : ∃ t, τ = [t]
  ex : ∃ cells : List Addr, ys = cells.map V.ref ∧ cells.length = i ∧ ∀ c ∈ cells, H' c = some (.lst [])
  same : Same H H'
  le : i ≤ 16
theorem withinV_int {v : V} {a b : Int} (h : withinV v a b = true) : ∃ i, v = .int i ∧ a ≤ i ∧ i ≤ b := by
  cases v with
  | int i =>
    have h' : (decide (a ≤ i) && decide (i ≤ b)) = true := h
    rw [Bool.and_eq_true] at h'
    exact ⟨i, rfl, of_decide_eq_true h'.1, of_decide_eq_true h'.2⟩
  | _ => exact absurd (show false = true from h) Bool.false_ne_true
theorem sc_Disk___init__ : FnScope ["self", "stretches", "places"] ["self", "stretches", "places"] (defScope s_Disk___init__) := ⟨rfl, rfl, rfl, by decide +kernel, rfl, by decide +kernel, by decide +kernel⟩
theorem lc_Disk___init___0 : lcStat { kind := .function, names := [(Str.ofString ".0", .local), (Str.ofString "number", .local)], isGenerator := false, isCoroutine := false, more := [] } (defScope s_Disk___init__).names ["self", "stretches", "places"] ["number"] [none] = true := by decide +kernel
theorem lcn_Disk___init___0 : (["number"] : List Str).Nodup := by decide +kernel
theorem ok_Disk_init {f : Addr} {fd : FuncData} (F : Fun K "__init__" "Disk.__init__" s_Disk___init__ f fd) (T : Txt K mg A) (G_is_within : GF P w K mg base true 2 "is_within" ["value", "least", "most"] spWithin) : FnOk P w K mg base (CXW P w) true 3 f fd ["self", "stretches", "places"] (spInit A) := by
  refine F.okW sc_Disk___init__ (fun vs H Q E h => ?_) (fun cdv Ar outer s H vs Q E hr h => ?_)
  · obtain ⟨p, dx, v1, v2, rfl, _⟩ := h; rfl
  · obtain ⟨p, dx, v1, v2, rfl, hp, t1, t2, q, qx⟩ := h
    have Th := throws_def (cm := true) (P := P) (w := w) (K := K) (mg := mg) (base := base) (N := ["self", "stretches", "places"]) (qual := "Disk.__init__") (scope := defScope s_Disk___init__) (f := f) (cd := cdv) (A := Ar) (outer := outer) (s := s) (H := H) (E := E)
    refine ⟨_, (W.h (w_pss_cons (w_ps_if (w_pt_not (w_pt_tru (w_pe_g G_is_within hr rfl (w_pa_p (w_pv 1) (w_pa_p (w_pe_gv rfl T.c_LEAST_STRETCHES) (w_pa_p (w_pe_gv rfl T.c_MOST_STRETCHES) w_pa_nil))))))
      (w_pss_one (w_ps_raisep rfl Th T.ek_NoDisk rfl T.mg_NoDisk (w_pa_p w_pe_str w_pa_nil)))
      w_pss_nil)
      (w_pss_cons (w_ps_if (w_pt_not (w_pt_tru (w_pe_g G_is_within hr rfl (w_pa_p (w_pv 2) (w_pa_p (w_pe_gv rfl T.c_LEAST_PLACES) (w_pa_p (w_pe_gv rfl T.c_MOST_PLACES) w_pa_nil))))))
      (w_pss_one (w_ps_raisep rfl Th T.ek_NoDisk rfl T.mg_NoDisk (w_pa_p w_pe_str w_pa_nil)))
      w_pss_nil)
      (w_pss_cons (w_ps_fldU T.cl_Disk T.na_Disk_width (w_pv 0) (w_pv 2))
      (w_pss_cons (w_ps_fldU T.cl_Disk T.na_Disk_written (w_pv 0) (w_pe_lc (fun _ => rfl) (LcOk.of lc_Disk___init___0) (w_pi_range1p rfl T.n_range (w_pa_p (w_pv 1) w_pa_nil)) (fun _ _ _ _ _ => (w_pg_name (i := 0) lcn_Disk___init___0 rfl (Or.inl rfl))) (fun _ _ _ _ _ => w_pts_nil) (fun _ _ _ _ _ => (w_pe_lstA w_pa_nil))))
      (w_pss_cons (w_ps_fldU T.cl_Disk T.na_Disk_at_sides (w_pv 0) (w_pe_lstA (w_pa_p w_pe_non (w_pa_p w_pe_non w_pa_nil))))
      (w_pss_cons (w_ps_fldU T.cl_Disk T.na_Disk_counted (w_pv 0) w_pe_int)
      (w_pss_cons (w_ps_fldU T.cl_Disk T.na_Disk_left (w_pv 0) w_pe_non)
      (w_pss_one (w_ps_fldU T.cl_Disk T.na_Disk_has_stopped (w_pv 0) w_pe_bl)))))))))), ?_⟩
    simp_all only []
    refine ⟨v1, 3, 16, rfl, t1, ?_⟩
    simp_all only []
    cases h1 : withinV v1 3 16 with
    | false => exact iteT ⟨by decide, qx (by unfold okSizes; rw [h1]; rfl)⟩
    | true =>
      refine iteF ?_
      refine ⟨v2, 2, 32, rfl, t2, ?_⟩
      simp_all only []
      cases h2 : withinV v2 2 32 with
      | false => exact iteT ⟨by decide, qx (by unfold okSizes; rw [h1, h2]; rfl)⟩
      | true =>
        refine iteF ?_
        obtain ⟨n, rfl, n0, n1⟩ := withinV_int h1
        obtain ⟨m, rfl, m0, m1⟩ := withinV_int h2
        simp_all only [hp, upd_same, putF, pick]
        refine ⟨by decide, by omega, by omega, CompJ.rng (CellInv (upd H p (.ins A.Disk dx [("width", .int m)]))) (fun i τ ys H' I => ?_) ⟨⟨_, rfl⟩, ⟨[], rfl, rfl, by simp⟩, Same.refl _, by decide⟩ ?_ ?_⟩
        · obtain ⟨cells, e, l, _⟩ := I.ex
          rw [e, List.length_map, l]
          exact small1000 (Nat.le_trans I.le (by decide))
        · intro N i τ ys H' hi I hN
          obtain ⟨t, rfl⟩ := I.τ
          obtain ⟨cells, e, l, hc⟩ := I.ex
          simp_all only []
          refine ⟨by decide, fun c H2 n2 _ => hN _ _ _ ⟨⟨_, rfl⟩, ⟨cells ++ [c], by rw [e, List.map_append]; rfl, by simp [l], fun b hb => ?_⟩, I.same.trans n2.same, by omega⟩⟩
          rcases List.mem_append.mp hb with hb | hb
          · exact n2.same _ _ (hc b hb)
          · rw [List.mem_singleton] at hb; subst hb; exact n2.at_
        · intro τ ys H1 I D H2 nD
          obtain ⟨cells, e, l, hc⟩ := I.ex
          have e1 : H2 p = some (.ins A.Disk dx [("width", .int m)]) := nD.same _ _ (I.same _ _ upd_same)
          have w1 : putF "written" (.ref D) [(("width" : Str), V.int m)] = [(("width" : Str), V.int m), ("written", .ref D)] := by simp only [putF, np_width_written, if_false]
          refine ⟨dx, _, e1, by show 1 < 1000; decide, by decide, fun s1 H3 n3 _ => ?_⟩
          rw [w1] at n3
          have e3 : H3 p = some (.ins A.Disk dx [("width", .int m), ("written", .ref D)]) := n3.same _ _ upd_same
          have w2 : putF "at_sides" (.ref s1) [(("width" : Str), V.int m), ("written", .ref D)] = [(("width" : Str), V.int m), ("written", .ref D), ("at_sides", .ref s1)] := by simp only [putF, np_width_at_sides, np_written_at_sides, if_false]
          have w3 : putF "counted" (.int 0) [(("width" : Str), V.int m), ("written", .ref D), ("at_sides", .ref s1)] = [(("width" : Str), V.int m), ("written", .ref D), ("at_sides", .ref s1), ("counted", .int 0)] := by simp only [putF, np_width_counted, np_written_counted, np_at_sides_counted, if_false]
          have w4 : putF "left" .non [(("width" : Str), V.int m), ("written", .ref D), ("at_sides", .ref s1), ("counted", .int 0)] = [(("width" : Str), V.int m), ("written", .ref D), ("at_sides", .ref s1), ("counted", .int 0), ("left", .non)] := by simp only [putF, np_width_left, np_written_left, np_at_sides_left, np_counted_left, if_false]
          have w5 : putF "has_stopped" (.bl false) [(("width" : Str), V.int m), ("written", .ref D), ("at_sides", .ref s1), ("counted", .int 0), ("left", .non)] = flds m D s1 := by simp only [putF, np_width_has_stopped, np_written_has_stopped, np_at_sides_has_stopped, np_counted_has_stopped, np_left_has_stopped, if_false, flds]
          refine ⟨dx, _, e3, ?_⟩
          rw [w2, w3, w4, w5, upd_upd, upd_upd, upd_upd]
          refine ⟨by show 2 < 1000; decide, by show 3 < 1000; decide, by show 4 < 1000; decide, by show 5 < 1000; decide, ?_⟩
          have pD : p ≠ D := ne_of_none (I.same _ _ upd_same) nD.no
          have ps : p ≠ s1 := ne_of_none upd_same n3.no
          have H3of : ∀ b o, b ≠ p → H2 b = some o → H3 b = some o := fun b o hb h => n3.same _ _ (by rw [upd_ne hb]; exact h)
          refine q (by unfold okSizes; rw [h1, h2]; rfl) n m _ rfl rfl ⟨dx, D, s1, cells, upd_same, ?_, l, fun c hcm => ?_, ?_⟩ fun b o hb hne => ?_
          · rw [upd_ne (Ne.symm pD)]
            have := nD.at_
            rw [e] at this
            exact H3of D _ (Ne.symm pD) this
          · have hcc := hc c hcm
            have cp : c ≠ p := fun z => by subst z; rw [I.same _ _ upd_same] at hcc; cases hcc
            rw [upd_ne cp]
            exact H3of c _ cp (nD.same _ _ hcc)
          · rw [upd_ne (Ne.symm ps)]
            exact n3.at_
          · rw [upd_ne hne]
            exact H3of b _ hne (nD.same _ _ (I.same _ _ (by rw [upd_ne hne]; exact hb)))
end
abbrev s__law_begun : Stmt := top 34
abbrev s__law_blank : Stmt := top 35
section
variable {P : Program} {w : World} {K : PySem.W.Frag} {mg : Str → Option Value} {base : Heap} {A : ClsA}
def spBegun : Sp := fun vs H Q _ => ∃ v1 v2, vs = [v1, v2] ∧ Thing H v1 ∧ Thing H v2 ∧ ∀ (l : Addr) (H' : Hp), Same H H' → H l = none → H' l = some (.lst (if okSizes v1 v2 = true then [] else [.str "disk"])) → Q (.ref l) H'
theorem sc__law_begun : FnScope ["_law_stretches", "_law_places", "_law_told", "_law_e"] ["_law_stretches", "_law_places"] (defScope s__law_begun) := ⟨rfl, rfl, rfl, by decide +kernel, rfl, by decide +kernel, by decide +kernel⟩
theorem ok__law_begun {f : Addr} {fd : FuncData} (F : Fun K "_law_begun" "_law_begun" s__law_begun f fd) (T : Txt K mg A) (G_Disk : GCX P w K mg base true 3 "Disk" A.Disk ["self", "stretches", "places"] (spInit A)) (G__law_kinds : GF P w K mg base false 1 "_law_kinds" ["_law_e"] (spKinds A)) : FnOk P w K mg base CX0 true 5 f fd ["_law_stretches", "_law_places"] spBegun := by
  refine F.ok sc__law_begun (fun vs H Q E h => ?_) (fun cdv Ar outer s H vs Q E hr h => ?_)
  · obtain ⟨v1, v2, rfl, _⟩ := h; rfl
  · obtain ⟨v1, v2, rfl, t1, t2, q⟩ := h
    refine ⟨_, (W.h (w_pss_cons (w_ps_set (i := 2) sc__law_begun.nd rfl (Or.inl rfl) (w_pe_lstA w_pa_nil))
      (w_pss_cons (w_ps_try (i := 3) rfl rfl ⟨rfl, rfl⟩ sc__law_begun.nd rfl rfl T.ek_CleanError rfl T.mg_CleanError (fun pins Ex => (w_pss_one (w_ps_expr (w_pe_cX throws_try G_Disk hr rfl (w_pa_p (w_pv 0) (w_pa_p (w_pv 1) w_pa_nil)))))) (fun pins ea => by
      have hr := hr.mark (v := some (.ref ea))
      exact (w_pss_one (w_ps_set (i := 2) sc__law_begun.nd rfl (Or.inl rfl) (w_pe_g G__law_kinds hr rfl (w_pa_p (w_pv 3) w_pa_nil))))))
      (w_pss_one (w_ps_ret (w_pv 2)))))), ?_⟩
    simp_all only [tTry]
    refine ⟨by decide, fun l H1 n1 z1 x dx H2 n2 => ?_⟩
    refine ⟨x, dx, v1, v2, rfl, n2.at_, t1.same (n1.same.trans n2.same), t2.same (n1.same.trans n2.same), fun ok n m H3 _ _ D kp => ?_, fun no => ?_⟩
    · simp_all only []
      have s3 : ∀ b o, H1 b = some o → H3 b = some o := fun b o h => kp b o (n2.same _ _ h) (ne_of_none h n2.no)
      refine q l H3 (fun b o h => s3 b o (n1.same b o h)) n1.no ?_
      rw [if_pos ok]
      exact s3 _ _ n1.at_
    · refine ⟨A.NoDisk, rfl, T.ek_NoDisk, T.mro_NoDisk, fun ea oe he ho => ?_⟩
      simp_all only []
      have n3 : New H2 ea (.frz oe (.own 0)) (upd H2 ea (.frz oe (.own 0))) := .mk' he
      have s3 := n1.same.trans (n2.same.trans n3.same)
      refine ⟨ea, oe, rfl, n3.at_, ho, fun l2 H4 s4 f4 e4 => ?_⟩
      simp_all only []
      refine q l2 H4 (s3.trans s4) (s3.free f4) ?_
      rw [if_neg (by rw [no]; exact Bool.false_ne_true)]
      exact e4
theorem eq_non (k : Nat) : eqL (List.replicate k V.non) (List.replicate k V.non) = true := eqL_self (by simp [flatV]) (fun x hx b => by rw [List.eq_of_mem_replicate hx]; exact fun z => nomatch z)
theorem eq_ints (a b c : Int) : eqL [V.int a, V.int b, V.int c] [V.int a, V.int b, V.int c] = true := eqL_self rfl (fun x hx d => by
  simp only [List.mem_cons, List.not_mem_nil, or_false] at hx
  rcases hx with rfl | rfl | rfl <;> exact fun z => nomatch z)
structure BlankInv (H : Hp) (p : Addr) (n m : Int) (i : Nat) (σ : L2.St) (H' : Hp) : Prop where
  ex : ∃ (t : Addr) (k : Option V), σ = [some (V.ref p), some (.int n), some (.int m), some (.ref t), k] ∧ H' t = some (.lst (List.replicate (2 * i + 2) .non))
  same : Same H H'
def spBlank (A : ClsA) : Sp := fun vs H Q _ => ∃ (p : Addr) (n m : Int), vs = [.ref p, .int n, .int m] ∧ DiskAt A H p n.toNat m ∧ 3 ≤ n ∧ n ≤ 16 ∧ 2 ≤ m ∧ ∀ H', Same H H' → Q (.bl true) H'
theorem sc__law_blank : FnScope ["_law_disk", "_law_stretches", "_law_places", "_law_told", "_law_stretch"] ["_law_disk", "_law_stretches", "_law_places"] (defScope s__law_blank) := ⟨rfl, rfl, rfl, by decide +kernel, rfl, by decide +kernel, by decide +kernel⟩
theorem ok__law_blank {f : Addr} {fd : FuncData} (F : Fun K "_law_blank" "_law_blank" s__law_blank f fd) (T : Txt K mg A) (M_Disk_stretches : GM P w K mg base true 1 A.Disk "stretches" ["self"] (spM A fun n _ => .int n)) (M_Disk_places : GM P w K mg base true 1 A.Disk "places" ["self"] (spM A fun _ m => .int m)) (M_Disk_signs : GM P w K mg base true 1 A.Disk "signs" ["self"] (spM A fun _ _ => .int 0))
    (M_Disk_side : GM P w K mg base true 1 A.Disk "side" ["self", "k"] (spSide A)) (M_Disk_told : GM P w K mg base true 1 A.Disk "told" ["self", "stretch", "place"] (spTold A)) : FnOk P w K mg base CX0 true 2 f fd ["_law_disk", "_law_stretches", "_law_places"] (spBlank A) := by
  refine F.ok sc__law_blank (fun vs H Q E h => ?_) (fun cdv Ar outer s H vs Q E hr h => ?_)
  · obtain ⟨p, n, m, rfl, _⟩ := h; rfl
  · obtain ⟨p, n, m, rfl, D, n0, n1, m0, q⟩ := h
    have hu : _ < cLine := Nat.lt_of_succ_lt (hu_of hr)
    obtain ⟨dx, wl, sl, cells, h1, h2, h3, h4, h5⟩ := D.ex
    refine ⟨_, (W.h (w_pss_cons (w_ps_if (w_pt_cmpR (op_neU hu) (w_pe_lstA (w_pa_p (w_pe_m0 (w_pv 0) T.cl_Disk M_Disk_stretches hr) (w_pa_p (w_pe_m0 (w_pv 0) T.cl_Disk M_Disk_places hr) (w_pa_p (w_pe_m0 (w_pv 0) T.cl_Disk M_Disk_signs hr) w_pa_nil)))) (w_pe_lstA (w_pa_p (w_pv 1) (w_pa_p (w_pv 2) (w_pa_p w_pe_int w_pa_nil)))) (nomark _))
      (w_pss_one (w_ps_ret w_pe_bl))
      w_pss_nil)
      (w_pss_cons (w_ps_set (i := 3) sc__law_blank.nd rfl (Or.inl rfl) (w_pe_lstA (w_pa_p (w_pe_m (w_pv 0) T.cl_Disk M_Disk_side hr (w_pa_p w_pe_int w_pa_nil)) (w_pa_p (w_pe_m (w_pv 0) T.cl_Disk M_Disk_side hr (w_pa_p w_pe_int w_pa_nil)) w_pa_nil))))
      (w_pss_cons (w_ps_for PassesOwn.never (fun _ => rfl) (w_pi_range1p rfl T.n_range (w_pa_p (w_pv 1) w_pa_nil)) (w_pg_name (i := 4) sc__law_blank.nd rfl (Or.inl rfl))
      (w_pss_one (w_ps_set (i := 3) sc__law_blank.nd rfl (Or.inl rfl) (w_pe_op op_addU (w_pv 3) (w_pe_lstA (w_pa_p (w_pe_m (w_pv 0) T.cl_Disk M_Disk_told hr (w_pa_p (w_pv 4) (w_pa_p w_pe_int w_pa_nil))) (w_pa_p (w_pe_m (w_pv 0) T.cl_Disk M_Disk_told hr (w_pa_p (w_pv 4) (w_pa_p (w_pe_op op_sub (w_pv 2) w_pe_int) w_pa_nil))) w_pa_nil)))))))
      (w_pss_one (w_ps_ret (w_pe_cmpR (op_eqU hu) (w_pv 3) (w_pe_op op_mulS (w_pe_lstA (w_pa_p w_pe_non w_pa_nil)) (w_pe_op op_addU (w_pe_op op_mulS w_pe_int (w_pv 1)) w_pe_int)) (nomark _)))))))), ?_⟩
    simp_all only [h1, fl_stretches, fl_places, fl_signs]
    have e3 : ((n.toNat : Nat) : Int) = n := by omega
    refine ⟨p, _, m, rfl, D, ?_⟩
    simp_all only [h1, fl_stretches, fl_places, fl_signs]
    refine ⟨p, _, m, rfl, D, ?_⟩
    simp_all only [h1, fl_stretches, fl_places, fl_signs]
    refine ⟨p, _, m, rfl, D, ⟨by decide, fun a H1 a1 _ => ⟨by decide, fun b H2 a2 _ => ?_⟩⟩⟩
    have s2 := a1.same.trans a2.same
    refine ⟨_, a2.same _ _ a1.at_, _, a2.at_, rfl, rfl, ?_⟩
    rw [e3, eq_ints]
    refine iteF ?_
    have g1 := s2 _ _ h1
    simp_all only [g1, fl_side]
    refine ⟨p, _, m, 0, rfl, D.same s2, by decide, by decide, ?_⟩
    simp_all only [g1, fl_side]
    refine ⟨p, _, m, 1, rfl, D.same s2, by decide, by decide, ⟨by decide, fun c H3 a3 _ => ⟨by omega, by omega, ?_⟩⟩⟩
    refine ForJ.rng (BlankInv H p n m) ⟨⟨_, _, rfl, a3.at_⟩, s2.trans a3.same⟩ ?_ ?_
    · rintro i σ H4 hi ⟨⟨t, k, rfl, ht⟩, s4⟩
      have g4 := s4 _ _ h1
      simp_all only [g4, fl_told]
      refine ⟨p, n.toNat, m, 0 + i, 0, rfl, D.same s4, by omega, by omega, by decide, ?_⟩
      simp_all only [g4, fl_told]
      refine ⟨p, n.toNat, m, 0 + i, m - 1, rfl, D.same s4, by omega, by omega, by omega, ?_⟩
      refine ⟨by decide, fun d H5 a5 _ => ⟨_, a5.same _ _ ht, _, a5.at_, ?_, fun e H6 a6 => ⟨⟨_, _, rfl, ?_⟩, s4.trans (a5.same.trans a6.same)⟩⟩⟩
      · rw [List.length_replicate]
        exact Nat.le_trans (show 2 * i + 2 + 2 ≤ 1000 by omega) sizeBig
      · rw [a6.at_]
        have : List.replicate (2 * i + 2) V.non ++ [V.non, V.non] = List.replicate (2 * (i + 1) + 2) V.non := by
          show List.replicate (2 * i + 2) V.non ++ List.replicate 2 V.non = _
          rw [List.replicate_append_replicate]
          exact congrArg (fun k => List.replicate k V.non) (by omega)
        rw [this]
    · rintro σ H4 ⟨⟨t, k, rfl, ht⟩, s4⟩
      simp_all only []
      refine ⟨by decide, fun d H5 a5 _ => ⟨.inl ⟨by decide, by decide⟩, ?_⟩⟩
      refine ⟨_, a5.at_, by omega, by omega, ?_, fun e H6 a6 => ?_⟩
      · show 1 * (2 * n + 2).toNat ≤ sizeLine
        exact Nat.le_trans (show 1 * (2 * n + 2).toNat ≤ 1000 by omega) sizeBig
      · refine ⟨_, a6.same _ _ (a5.same _ _ ht), _, a6.at_, ?_, ?_, ?_⟩
        · simp [flatV]
        · simp [flatV]
        · rw [List.flatten_replicate_singleton, show (2 * n + 2).toNat = 2 * n.toNat + 2 by omega, eq_non]
          exact q H6 (s4.trans (a5.same.trans a6.same))
end
abbrev s_law : Stmt := top 36
section
variable {P : Program} {w : World} {K : PySem.W.Frag} {mg : Str → Option Value} {base : Heap} {A : ClsA}
def spLaw (K : PySem.W.Frag) : Sp := fun vs H Q _ => ∃ (a : Addr) (ns : List Int), vs = [.ref a] ∧ SqL K H a (ns.map V.int) ∧ ns.length ≤ 63 ∧ ∀ H', Q (.bl true) H'
theorem tAndV_vv {i j : Nat} {c d : Bool} {σ : L2.St} {H : Hp} {Q : VK} (h1 : σ[i]? = some (some (.bl c))) (h2 : σ[j]? = some (some (.bl d))) : tAndV (tVar i) (tVar j) σ H Q = Q (.bl (c && d)) H := by
  simp only [tAndV_eq, tVar, h1, h2, Option.some.injEq, exists_eq_left', uB_b]
  cases c <;> simp
theorem due_flat {v1 v2 : V} : (if okSizes v1 v2 = true then [] else [V.str (Str.ofString "disk")]).all flatV = true := by split <;> rfl
theorem due_eq {v1 v2 : V} : eqL (if okSizes v1 v2 = true then [] else [V.str (Str.ofString "disk")]) (if okSizes v1 v2 = true then [] else [V.str (Str.ofString "disk")]) = true := by split <;> decide +kernel
theorem shown2 {c1 c2 : PyData} (h1 : c1.shown.length ≤ 5000) (h2 : c2.shown.length ≤ 5000) : (PyData.list [c1, c2]).shown.length ≤ sizeLine := by
  simp only [PyData.shown, PyData.shownAll]
  show (textFrom 0 "[" [c1.shown, c2.shown] ++ "]" : Str).length ≤ sizeLine
  simp only [textFrom, strLen_append]
  show ("[" : Str).length + ("" : Str).length + c1.shown.length + (", " : Str).length + c2.shown.length + ("]" : Str).length ≤ sizeLine
  have e1 : ("[" : Str).length = 1 := by decide +kernel
  have e2 : ("" : Str).length = 0 := by decide +kernel
  have e3 : (", " : Str).length = 2 := by decide +kernel
  have e4 : ("]" : Str).length = 1 := by decide +kernel
  have e5 : sizeLine = 16777216 := sizeLine_eq
  omega
structure LawInv (H : Hp) (a : Addr) (i : Nat) (σ : L2.St) (H' : Hp) : Prop where
  ex : ∃ x1 x2 x3 x4 x5 x6 x7 x8 x9, σ = [some (V.ref a), x1, x2, x3, x4, x5, x6, x7, x8, x9]
  same : Same H H'
theorem sc_law : FnScope ["_law_script", "_law_k", "_law_first", "_law_second", "_law_stretches", "_law_is_right", "_law_places", "_law_is_so", "_law_due", "_law_before"] ["_law_script"] (defScope s_law) := ⟨rfl, rfl, rfl, by decide +kernel, rfl, by decide +kernel, by decide +kernel⟩
theorem ok_law {f : Addr} {fd : FuncData} (F : Fun K "law" "law" s_law f fd) (T : Txt K mg A) (G_Disk : GCX P w K mg base true 3 "Disk" A.Disk ["self", "stretches", "places"] (spInit A)) (G__law_row : GF P w K mg base true 2 "_law_row" ["_law_script", "_law_k", "_law_many", "_law_base"] (spRow K))
    (G__law_size : GF P w K mg base true 1 "_law_size" ["_law_digit", "_law_fewest", "_law_most"] spSize) (G__law_begun : GF P w K mg base true 5 "_law_begun" ["_law_stretches", "_law_places"] spBegun) (G__law_blank : GF P w K mg base true 2 "_law_blank" ["_law_disk", "_law_stretches", "_law_places"] (spBlank A)) : FnOk P w K mg base CX0 true 6 f fd ["_law_script"] (spLaw K) := by
  refine F.ok sc_law (fun vs H Q E h => ?_) (fun cdv Ar outer s H vs Q E hr h => ?_)
  · obtain ⟨a, ns, rfl, _⟩ := h; rfl
  · obtain ⟨a, ns, rfl, hS, hl, q⟩ := h
    have hu : _ < cLine := Nat.lt_of_succ_lt (hu_of hr)
    have hg := hr.gd
    have Th := throws_none (X := (cxOf CX0 true P w K mg base ["_law_script", "_law_k", "_law_first", "_law_second", "_law_stretches", "_law_is_right", "_law_places", "_law_is_so", "_law_due", "_law_before"] "law" (defScope s_law) f cdv Ar outer s H E).nox)
    refine ⟨_, (W.h (w_pss_cons (w_ps_for PassesOwn.never (fun _ => rfl) (w_pi_range1p rfl T.n_range (w_pa_p (w_pe_callBp (call_maxU rfl) rfl T.n_max boot_max (w_pa_p w_pe_int (w_pa_p (w_pe_callBp (call_minU rfl) rfl T.n_min boot_min (w_pa_p (w_pe_callBp call_len_seq rfl T.n_len PySem.boot_len (w_pa_p (w_pv 0) w_pa_nil)) (w_pa_p w_pe_int w_pa_nil))) w_pa_nil))) w_pa_nil)) (w_pg_name (i := 1) sc_law.nd rfl (Or.inl rfl))
      (w_pss_cons (w_ps_asg (w_pe_g G__law_row hr rfl (w_pa_p (w_pv 0) (w_pa_p (w_pv 1) (w_pa_p w_pe_int (w_pa_p (w_pe_op op_pow w_pe_int w_pe_int) w_pa_nil))))) (w_pg_lst rfl (n := 2) (w_pgs_cons (w_pg_name (i := 2) sc_law.nd rfl (Or.inl rfl)) (w_pgs_cons (w_pg_name (i := 3) sc_law.nd rfl (Or.inl rfl)) w_pgs_nil))))
      (w_pss_cons (w_ps_asg (w_pe_g G__law_size hr rfl (w_pa_p (w_pv 2) (w_pa_p w_pe_int (w_pa_p w_pe_int w_pa_nil)))) (w_pg_tupA (n := 2) (w_pgs_cons (w_pg_name (i := 4) sc_law.nd rfl (Or.inl rfl)) (w_pgs_cons (w_pg_name (i := 5) sc_law.nd rfl (Or.inl rfl)) w_pgs_nil))))
      (w_pss_cons (w_ps_asg (w_pe_g G__law_size hr rfl (w_pa_p (w_pv 3) (w_pa_p w_pe_int (w_pa_p w_pe_int w_pa_nil)))) (w_pg_tupA (n := 2) (w_pgs_cons (w_pg_name (i := 6) sc_law.nd rfl (Or.inl rfl)) (w_pgs_cons (w_pg_name (i := 7) sc_law.nd rfl (Or.inl rfl)) w_pgs_nil))))
      (w_pss_cons (w_ps_set (i := 8) sc_law.nd rfl (Or.inl rfl) (w_pe_ix ix_U (w_pe_lstA (w_pa_p (w_pe_lstA (w_pa_p w_pe_str w_pa_nil)) (w_pa_p (w_pe_lstA w_pa_nil) w_pa_nil))) (w_pe_callTyp call_intU rfl T.n_int boot_int (w_pa_p (w_pe_and (w_pv 5) (w_pe_one (w_pv 7))) w_pa_nil)) (fun _ _ => rfl)))
      (w_pss_cons (w_ps_set (i := 9) sc_law.nd rfl (Or.inl rfl) (w_pe_callBp (call_repr hg) rfl T.n_repr boot_repr (w_pa_p (w_pe_lstA (w_pa_p (w_pv 4) (w_pa_p (w_pv 6) w_pa_nil))) w_pa_nil)))
      (w_pss_cons (w_ps_if (w_pt (w_pw_or (w_pt_cmpR (op_neU hu) (w_pe_g G__law_begun hr rfl (w_pa_p (w_pv 4) (w_pa_p (w_pv 6) w_pa_nil))) (w_pv 8) (nomark _)) (w_pw_or1 (w_pt_cmpR (op_neU hu) (w_pe_callBp (call_repr hg) rfl T.n_repr boot_repr (w_pa_p (w_pe_lstA (w_pa_p (w_pv 4) (w_pa_p (w_pv 6) w_pa_nil))) w_pa_nil)) (w_pv 9) (nomark _)))))
      (w_pss_one (w_ps_ret w_pe_bl))
      w_pss_nil)
      (w_pss_one (w_ps_if (w_pt (w_pw_and (w_pt_cmpR (op_eqU hu) (w_pv 8) (w_pe_lstA w_pa_nil) (nomark _)) (w_pw_and1 (w_pt_not (w_pt_tru (w_pe_g G__law_blank hr rfl (w_pa_p (w_pe_cX Th G_Disk hr rfl (w_pa_p (w_pv 4) (w_pa_p (w_pv 6) w_pa_nil))) (w_pa_p (w_pv 4) (w_pa_p (w_pv 6) w_pa_nil)))))))))
      (w_pss_one (w_ps_ret w_pe_bl))
      w_pss_nil)))))))))
      (w_pss_one (w_ps_ret (w_pe_and (w_pe_g G__law_blank hr rfl (w_pa_p (w_pe_cX Th G_Disk hr rfl (w_pa_p w_pe_int (w_pa_p w_pe_int w_pa_nil))) (w_pa_p w_pe_int (w_pa_p w_pe_int w_pa_nil)))) (w_pe_one (w_pe_g G__law_blank hr rfl (w_pa_p (w_pe_cX Th G_Disk hr rfl (w_pa_p w_pe_int (w_pa_p w_pe_int w_pa_nil))) (w_pa_p w_pe_int (w_pa_p w_pe_int w_pa_nil)))))))))), ?_⟩
    simp_all only []
    refine ⟨_, .inl hS, ?_⟩
    rw [List.length_map]
    refine ⟨by split <;> split <;> omega, by split <;> split <;> omega, ForJ.rng (LawInv H a) ⟨⟨_, _, _, _, _, _, _, _, _, rfl⟩, Same.refl _⟩ ?_ ?_⟩
    · rintro i σ H0 hi ⟨⟨x1, x2, x3, x4, x5, x6, x7, x8, x9, rfl⟩, s0⟩
      simp_all only [gLst, gTup]
      refine ⟨⟨by decide, by decide, by decide⟩, a, ns, 0 + i, 2, 10 ^ Int.toNat 6, rfl, s0.seq hS, by omega, by decide, by decide, by decide, by decide, fun l ds H1 s1 f1 e1 len hd => ?_⟩
      obtain ⟨d1, d2, rfl⟩ : ∃ d1 d2, ds = [d1, d2] := match ds, len with | [x, y], _ => ⟨x, y, rfl⟩
      have hd1 := hd d1 (by simp)
      have hd2 := hd d2 (by simp)
      have p6 : (10 : Int) ^ Int.toNat 6 = 1000000 := by decide
      rw [p6] at hd1 hd2
      refine ⟨l, rfl, [V.int d1, V.int d2], SqL.of e1, rfl, ?_⟩
      simp only [tVar, tC, tAnd, tOr, tNot, tIf, tNext, tSeq, tBreak, tCont, tDrop, tRet, tRetN, tIfS, gName, gNil_n, gCons_c, tAsg, tAug, ipI, tOp, tUn, tNil, tCons, tTupA, tLstA, tDNewA, tCall, tMakeA, tCallX, tMakeXA, tCB, tRaise, uAdd_ii, uAdd_ss, uAdd_rr, uMul_ii, uMul_ri, uIx_r, uIx_s, uLen_r, uLen_s, rI_ii, rI0_ii, rU_i, uEq_ii, uEq_ss, uEq_bb, uEq_rr, uInt_i, uInt_b, uStr_i, uMax_ii, uMin_ii, uTru_b, uTru_n, uTru_i, tTru_eq, uB_b, tB_eq, tTest_eq, tOrV_eq, tNotV_eq, tChain_eq, uR_r, uFld_eq, uSetF_eq, tMeth_eq, tMethX_eq, uApp, tFor_eq, uI1_i, iRng1_eq, iList_eq, iTup_eq, uR2_r, iZip_eq, tLC_eq, CompN_t, CompN_f, pick, Option.bind_some, Option.bind_none, Option.join_some, tAll, and_assoc, exists_and_left, exists_and_right, exists_eq_left', exists_eq_left, exists_eq, exists_eq', exists_eq_right, exists_eq_right', and_true, true_and, and_false, false_and, or_false, false_or, exists_false, exists_const, Option.some.injEq, V.int.injEq, V.str.injEq, V.ref.injEq, V.bl.injEq, V.ty.injEq, HO.lst.injEq, HO.tup.injEq, HO.ins.injEq, List.cons.injEq, reduceCtorEq, reduceIte, Bool.false_eq_true, List.getElem?_cons_zero, List.getElem?_cons_succ, List.set_cons_zero, List.set_cons_succ, List.nil_append, List.cons_append, List.append_nil, List.length_cons, List.length_nil, L2.start, List.map_cons, List.map_nil, List.replicate, Nat.reduceSub, Nat.reduceAdd, Bool.not_true, Bool.not_false, uAugF, rAdd_ii, rSub_ii, uIsN_n, uIsN_i, uMulS_ii, uMulS_ri, uMulS_si, uSl_s, uSl_r, tSl, tNoPart, tPart_eq, uPart_i, rSetL_r, gSub, uListOf_r, uClear, uJoinE, uS_s, rJoin_sr, uRev, iEnum_eq, uR1_r, iRng2_eq, uI2_i, gLst, gTup]
      refine ⟨d1, 3, 16, rfl, hd1.1, hd1.2, .inl ⟨rfl, rfl⟩, fun t1 v1 H2 s2 f2 e2 th1 sh1 => ⟨t1, rfl, _, SqT.of e2, rfl, ?_⟩⟩
      simp only [tVar, tC, tAnd, tOr, tNot, tIf, tNext, tSeq, tBreak, tCont, tDrop, tRet, tRetN, tIfS, gName, gNil_n, gCons_c, tAsg, tAug, ipI, tOp, tUn, tNil, tCons, tTupA, tLstA, tDNewA, tCall, tMakeA, tCallX, tMakeXA, tCB, tRaise, uAdd_ii, uAdd_ss, uAdd_rr, uMul_ii, uMul_ri, uIx_r, uIx_s, uLen_r, uLen_s, rI_ii, rI0_ii, rU_i, uEq_ii, uEq_ss, uEq_bb, uEq_rr, uInt_i, uInt_b, uStr_i, uMax_ii, uMin_ii, uTru_b, uTru_n, uTru_i, tTru_eq, uB_b, tB_eq, tTest_eq, tOrV_eq, tNotV_eq, tChain_eq, uR_r, uFld_eq, uSetF_eq, tMeth_eq, tMethX_eq, uApp, tFor_eq, uI1_i, iRng1_eq, iList_eq, iTup_eq, uR2_r, iZip_eq, tLC_eq, CompN_t, CompN_f, pick, Option.bind_some, Option.bind_none, Option.join_some, tAll, and_assoc, exists_and_left, exists_and_right, exists_eq_left', exists_eq_left, exists_eq, exists_eq', exists_eq_right, exists_eq_right', and_true, true_and, and_false, false_and, or_false, false_or, exists_false, exists_const, Option.some.injEq, V.int.injEq, V.str.injEq, V.ref.injEq, V.bl.injEq, V.ty.injEq, HO.lst.injEq, HO.tup.injEq, HO.ins.injEq, List.cons.injEq, reduceCtorEq, reduceIte, Bool.false_eq_true, List.getElem?_cons_zero, List.getElem?_cons_succ, List.set_cons_zero, List.set_cons_succ, List.nil_append, List.cons_append, List.append_nil, List.length_cons, List.length_nil, L2.start, List.map_cons, List.map_nil, List.replicate, Nat.reduceSub, Nat.reduceAdd, Bool.not_true, Bool.not_false, uAugF, rAdd_ii, rSub_ii, uIsN_n, uIsN_i, uMulS_ii, uMulS_ri, uMulS_si, uSl_s, uSl_r, tSl, tNoPart, tPart_eq, uPart_i, rSetL_r, gSub, uListOf_r, uClear, uJoinE, uS_s, rJoin_sr, uRev, iEnum_eq, uR1_r, iRng2_eq, uI2_i, gLst, gTup]
      refine ⟨d2, 2, 32, rfl, hd2.1, hd2.2, .inr ⟨rfl, rfl⟩, fun t2 v2 H3 s3 f3 e3 th2 sh2 => ⟨t2, rfl, _, SqT.of e3, rfl, ?_⟩⟩
      have th1 := th1.same s3
      have sh1 := sh1.same s3
      simp only [tVar, tC, tAnd, tOr, tNot, tIf, tNext, tSeq, tBreak, tCont, tDrop, tRet, tRetN, tIfS, gName, gNil_n, gCons_c, tAsg, tAug, ipI, tOp, tUn, tNil, tCons, tTupA, tLstA, tDNewA, tCall, tMakeA, tCallX, tMakeXA, tCB, tRaise, uAdd_ii, uAdd_ss, uAdd_rr, uMul_ii, uMul_ri, uIx_r, uIx_s, uLen_r, uLen_s, rI_ii, rI0_ii, rU_i, uEq_ii, uEq_ss, uEq_bb, uEq_rr, uInt_i, uInt_b, uStr_i, uMax_ii, uMin_ii, uTru_b, uTru_n, uTru_i, tTru_eq, uB_b, tB_eq, tTest_eq, tOrV_eq, tNotV_eq, tChain_eq, uR_r, uFld_eq, uSetF_eq, tMeth_eq, tMethX_eq, uApp, tFor_eq, uI1_i, iRng1_eq, iList_eq, iTup_eq, uR2_r, iZip_eq, tLC_eq, CompN_t, CompN_f, pick, Option.bind_some, Option.bind_none, Option.join_some, tAll, and_assoc, exists_and_left, exists_and_right, exists_eq_left', exists_eq_left, exists_eq, exists_eq', exists_eq_right, exists_eq_right', and_true, true_and, and_false, false_and, or_false, false_or, exists_false, exists_const, Option.some.injEq, V.int.injEq, V.str.injEq, V.ref.injEq, V.bl.injEq, V.ty.injEq, HO.lst.injEq, HO.tup.injEq, HO.ins.injEq, List.cons.injEq, reduceCtorEq, reduceIte, Bool.false_eq_true, List.getElem?_cons_zero, List.getElem?_cons_succ, List.set_cons_zero, List.set_cons_succ, List.nil_append, List.cons_append, List.append_nil, List.length_cons, List.length_nil, L2.start, List.map_cons, List.map_nil, List.replicate, Nat.reduceSub, Nat.reduceAdd, Bool.not_true, Bool.not_false, uAugF, rAdd_ii, rSub_ii, uIsN_n, uIsN_i, uMulS_ii, uMulS_ri, uMulS_si, uSl_s, uSl_r, tSl, tNoPart, tPart_eq, uPart_i, rSetL_r, gSub, uListOf_r, uClear, uJoinE, uS_s, rJoin_sr, uRev, iEnum_eq, uR1_r, iRng2_eq, uI2_i]
      refine ⟨by decide, fun p1 H4 n4 _ => ⟨by decide, fun p2 H5 n5 _ => ⟨by decide, fun p3 H6 n6 _ => ?_⟩⟩⟩
      rw [tAndV_vv (c := withinV v1 3 16) (d := withinV v2 2 32) rfl rfl]
      simp_all only []
      have g3 := n6.at_
      have g1 := n6.same _ _ (n5.same _ _ n4.at_)
      have g2 := n6.same _ _ n5.at_
      have s6 : Same H H6 := s0.trans (s1.trans (s2.trans (s3.trans (n4.same.trans (n5.same.trans n6.same)))))
      obtain ⟨due, hat, hdue⟩ : ∃ due, atI [V.ref p1, V.ref p2] (if (withinV v1 3 16 && withinV v2 2 32) = true then 1 else 0) = some (.ref due) ∧ H6 due = some (.lst (if okSizes v1 v2 = true then [] else [.str "disk"])) := by
        unfold okSizes
        cases withinV v1 3 16 && withinV v2 2 32 with
        | true => exact ⟨p2, rfl, g2⟩
        | false => exact ⟨p1, rfl, g1⟩
      refine ⟨_, .inl g3, .ref due, hat, by decide, fun p7 H7 n7 z7 => ?_⟩
      obtain ⟨c1, a1, b1, d1', l1⟩ := sh1.ex
      obtain ⟨c2, a2, b2, d2', l2⟩ := sh2.ex
      have sh : (PyData.list [c1, c2]).showable = true := by simp only [PyData.showable, PyData.showableAll, b1, b2, Bool.and_true]
      have dp : (PyData.list [c1, c2]).depth ≤ 3 := by simp only [PyData.depth, PyData.depthAll]; omega
      have ln : (PyData.list [c1, c2]).shown.length ≤ sizeLine := shown2 l1 l2
      have s36 : Same H3 H6 := n4.same.trans (n5.same.trans n6.same)
      have un : ∀ k, k ≤ 3 → (Ar.deeper (envOfC (Str.ofString "law") (defScope s_law) s.heap.objs.size f cdv)).units + (k + 1) < cLine := fun k hk => by have := hr.un; omega
      refine ⟨p7, .list [c1, c2], rfl, .lst z7 n7.at_ (.cons (DatV.same (s36.trans n7.same) a1) (.cons (DatV.same (s36.trans n7.same) a2) .nil)), sh, un _ dp, ln, ?_⟩
      have s37 := s36.trans n7.same
      refine ⟨v1, v2, rfl, th1.same s37, th2.same s37, fun l8 H8 s8 f8 e8 => ?_⟩
      have s38 := s37.trans s8
      have e8' := s8 _ _ (n7.same _ _ hdue)
      simp_all only [e8, e8']
      refine ⟨due_flat, due_flat, ?_⟩
      rw [due_eq]
      refine iteF ⟨by decide, fun p9 H9 n9 z9 => ⟨p9, .list [c1, c2], rfl, .lst z9 n9.at_ (.cons (DatV.same (s38.trans n9.same) a1) (.cons (DatV.same (s38.trans n9.same) a2) .nil)), sh, un _ dp, ln, ?_⟩⟩
      simp_all only [decide_true]
      refine ⟨by decide, fun p10 H10 n10 _ => ?_⟩
      have s310 := s38.trans (n9.same.trans n10.same)
      have e10 := n10.same _ _ (n9.same _ _ e8')
      have sH : Same H H10 := s6.trans (n7.same.trans (s8.trans (n9.same.trans n10.same)))
      simp_all only [e10, n10.at_]
      refine ⟨due_flat, rfl, ?_⟩
      cases hb : okSizes v1 v2 with
      | false => exact iteF ⟨⟨_, _, _, _, _, _, _, _, _, rfl⟩, sH⟩
      | true =>
        refine iteT fun x dx H11 n11 => ?_
        have hb' : (withinV v1 3 16 && withinV v2 2 32) = true := hb
        rw [Bool.and_eq_true] at hb'
        obtain ⟨n, en, n0, n1⟩ := withinV_int hb'.1
        obtain ⟨m, em, m0, m1⟩ := withinV_int hb'.2
        refine ⟨x, dx, v1, v2, rfl, n11.at_, th1.same (s310.trans n11.same), th2.same (s310.trans n11.same), fun _ n' m' H12 e1' e2' D kp => ⟨rfl, ?_⟩, fun no => absurd (no.symm.trans hb) Bool.false_ne_true⟩
        rw [en] at e1'
        rw [em] at e2'
        cases e1'
        cases e2'
        refine ⟨x, n, m, by rw [en, em], D, n0, n1, m0, fun H13 s13 => ?_⟩
        simp_all only []
        exact ⟨⟨_, _, _, _, _, _, _, _, _, rfl⟩, fun b o h => s13 b o (kp b o (n11.same b o (sH b o h)) (ne_of_none (sH b o h) n11.no))⟩
    · rintro σ H0 ⟨⟨x1, x2, x3, x4, x5, x6, x7, x8, x9, rfl⟩, s0⟩
      simp_all only []
      intro x dx H1 n1
      refine ⟨x, dx, .int 3, .int 2, rfl, n1.at_, .int _, .int _, fun _ n m H2 e1 e2 D _ => ⟨rfl, ?_⟩, fun no => absurd no (by decide)⟩
      cases e1
      cases e2
      refine ⟨x, 3, 2, rfl, D, by decide, by decide, by decide, fun H3 s3 => ?_⟩
      simp_all only []
      intro x dx H4 n4
      refine ⟨x, dx, .int 16, .int 32, rfl, n4.at_, .int _, .int _, fun _ n m H5 e1 e2 D _ => ⟨rfl, ?_⟩, fun no => absurd no (by decide)⟩
      cases e1
      cases e2
      exact ⟨x, 16, 32, rfl, D, by decide, by decide, by decide, fun H6 s6 => q H6⟩
end
theorem all_mk {l : PySem.W.OpenLaw} {w : World} {K : PySem.W.Frag} {h : Heap} {mg : Str → Option Value} {fa : Addr} {a_CleanError : Addr} {a_NoRow : Addr} {a_NoDisk : Addr} {a_Full : Addr} {a_Stopped : Addr} {a_NoFile : Addr} {a_NoPlace : Addr} {a_HeldAlready : Addr} {a_NotHeld : Addr} {a_NoFiles : Addr} {a_NoMark : Addr} {a_NoRoom : Addr} {a_Gone : Addr} {a_NotClosed : Addr} {a_NotBlank : Addr} {a_NoDeed : Addr} {a_NoHouse : Addr} {a_Disk : Addr} {f_is_whole : Addr} {od_is_whole an_is_whole : Option Addr} {sl_is_whole : Array (Option Value)} {oc_is_whole kV_is_whole dc_is_whole pm_is_whole cd_is_whole ct_is_whole : Value} {f_is_within : Addr} {od_is_within an_is_within : Option Addr} {sl_is_within : Array (Option Value)} {oc_is_within kV_is_within dc_is_within pm_is_within cd_is_within ct_is_within : Value} {f_Disk___init__ : Addr} {od_Disk___init__ an_Disk___init__ : Option Addr} {sl_Disk___init__ : Array (Option Value)} {oc_Disk___init__ kV_Disk___init__ dc_Disk___init__ pm_Disk___init__ cd_Disk___init__ ct_Disk___init__ : Value} {f_Disk_stretches : Addr} {od_Disk_stretches an_Disk_stretches : Option Addr} {sl_Disk_stretches : Array (Option Value)} {oc_Disk_stretches kV_Disk_stretches dc_Disk_stretches pm_Disk_stretches cd_Disk_stretches ct_Disk_stretches : Value} {f_Disk_places : Addr} {od_Disk_places an_Disk_places : Option Addr} {sl_Disk_places : Array (Option Value)} {oc_Disk_places kV_Disk_places dc_Disk_places pm_Disk_places cd_Disk_places ct_Disk_places : Value} {f_Disk_told : Addr} {od_Disk_told an_Disk_told : Option Addr} {sl_Disk_told : Array (Option Value)} {oc_Disk_told kV_Disk_told dc_Disk_told pm_Disk_told cd_Disk_told ct_Disk_told : Value} {f_Disk_side : Addr} {od_Disk_side an_Disk_side : Option Addr} {sl_Disk_side : Array (Option Value)} {oc_Disk_side kV_Disk_side dc_Disk_side pm_Disk_side cd_Disk_side ct_Disk_side : Value} {f_Disk_signs : Addr} {od_Disk_signs an_Disk_signs : Option Addr} {sl_Disk_signs : Array (Option Value)} {oc_Disk_signs kV_Disk_signs dc_Disk_signs pm_Disk_signs cd_Disk_signs ct_Disk_signs : Value} {f__law_at : Addr} {od__law_at an__law_at : Option Addr} {sl__law_at : Array (Option Value)} {oc__law_at kV__law_at dc__law_at pm__law_at cd__law_at ct__law_at : Value} {f__law_mixed : Addr} {od__law_mixed an__law_mixed : Option Addr} {sl__law_mixed : Array (Option Value)} {oc__law_mixed kV__law_mixed dc__law_mixed pm__law_mixed cd__law_mixed ct__law_mixed : Value} {f__law_row : Addr} {od__law_row an__law_row : Option Addr} {sl__law_row : Array (Option Value)} {oc__law_row kV__law_row dc__law_row pm__law_row cd__law_row ct__law_row : Value} {f__law_size : Addr} {od__law_size an__law_size : Option Addr} {sl__law_size : Array (Option Value)} {oc__law_size kV__law_size dc__law_size pm__law_size cd__law_size ct__law_size : Value} {f__law_kinds : Addr} {od__law_kinds an__law_kinds : Option Addr} {sl__law_kinds : Array (Option Value)} {oc__law_kinds kV__law_kinds dc__law_kinds pm__law_kinds cd__law_kinds ct__law_kinds : Value} {f__law_begun : Addr} {od__law_begun an__law_begun : Option Addr} {sl__law_begun : Array (Option Value)} {oc__law_begun kV__law_begun dc__law_begun pm__law_begun cd__law_begun ct__law_begun : Value} {f__law_blank : Addr} {od__law_blank an__law_blank : Option Addr} {sl__law_blank : Array (Option Value)} {oc__law_blank kV__law_blank dc__law_blank pm__law_blank cd__law_blank ct__law_blank : Value} {f_law : Addr} {od_law an_law : Option Addr} {sl_law : Array (Option Value)} {oc_law kV_law dc_law pm_law cd_law ct_law : Value} {t_LEAST_STRETCHES : Tok} {t_MOST_STRETCHES : Tok} {t_LEAST_PLACES : Tok} {t_MOST_PLACES : Tok} (X : K.In h) (G : h.Ns mainGlobals mg) (hfa : mg "law" = some (.ref fa))
    (c_CleanError : PySem.W.nsIn K mainGlobals "CleanError" = some (some (.ref a_CleanError)))
    (c_NoRow : PySem.W.nsIn K mainGlobals "NoRow" = some (some (.ref a_NoRow)))
    (c_NoDisk : PySem.W.nsIn K mainGlobals "NoDisk" = some (some (.ref a_NoDisk)))
    (c_Full : PySem.W.nsIn K mainGlobals "Full" = some (some (.ref a_Full)))
    (c_Stopped : PySem.W.nsIn K mainGlobals "Stopped" = some (some (.ref a_Stopped)))
    (c_NoFile : PySem.W.nsIn K mainGlobals "NoFile" = some (some (.ref a_NoFile)))
    (c_NoPlace : PySem.W.nsIn K mainGlobals "NoPlace" = some (some (.ref a_NoPlace)))
    (c_HeldAlready : PySem.W.nsIn K mainGlobals "HeldAlready" = some (some (.ref a_HeldAlready)))
    (c_NotHeld : PySem.W.nsIn K mainGlobals "NotHeld" = some (some (.ref a_NotHeld)))
    (c_NoFiles : PySem.W.nsIn K mainGlobals "NoFiles" = some (some (.ref a_NoFiles)))
    (c_NoMark : PySem.W.nsIn K mainGlobals "NoMark" = some (some (.ref a_NoMark)))
    (c_NoRoom : PySem.W.nsIn K mainGlobals "NoRoom" = some (some (.ref a_NoRoom)))
    (c_Gone : PySem.W.nsIn K mainGlobals "Gone" = some (some (.ref a_Gone)))
    (c_NotClosed : PySem.W.nsIn K mainGlobals "NotClosed" = some (some (.ref a_NotClosed)))
    (c_NotBlank : PySem.W.nsIn K mainGlobals "NotBlank" = some (some (.ref a_NotBlank)))
    (c_NoDeed : PySem.W.nsIn K mainGlobals "NoDeed" = some (some (.ref a_NoDeed)))
    (c_NoHouse : PySem.W.nsIn K mainGlobals "NoHouse" = some (some (.ref a_NoHouse)))
    (c_Disk : PySem.W.nsIn K mainGlobals "Disk" = some (some (.ref a_Disk)))
    (ais_whole : PySem.W.nsIn K mainGlobals "is_whole" = some (some (.ref f_is_whole)))
    (lis_whole : K.lookup f_is_whole = some ⟨oc_is_whole, od_is_whole, .func (PySem.W.fnOf "is_whole" "is_whole" (defArgs s_is_whole) (defBody s_is_whole) (defScope s_is_whole) .none kV_is_whole dc_is_whole pm_is_whole an_is_whole cd_is_whole ct_is_whole), sl_is_whole⟩)
    (dis_whole : PySem.W.codeIn K cd_is_whole "is_whole" = true)
    (kis_whole : PySem.W.keepIn K (.ref f_is_whole) = true)
    (ais_within : PySem.W.nsIn K mainGlobals "is_within" = some (some (.ref f_is_within)))
    (lis_within : K.lookup f_is_within = some ⟨oc_is_within, od_is_within, .func (PySem.W.fnOf "is_within" "is_within" (defArgs s_is_within) (defBody s_is_within) (defScope s_is_within) .none kV_is_within dc_is_within pm_is_within an_is_within cd_is_within ct_is_within), sl_is_within⟩)
    (dis_within : PySem.W.codeIn K cd_is_within "is_within" = true)
    (kis_within : PySem.W.keepIn K (.ref f_is_within) = true)
    (aDisk___init__ : PySem.W.findIn K (.ref a_Disk) "__init__" = some (some (.ref f_Disk___init__)))
    (iDisk___init__ : PySem.W.isFn K (.ref f_Disk___init__) = true)
    (lDisk___init__ : K.lookup f_Disk___init__ = some ⟨oc_Disk___init__, od_Disk___init__, .func (PySem.W.fnOf "__init__" "Disk.__init__" (defArgs s_Disk___init__) (defBody s_Disk___init__) (defScope s_Disk___init__) .none kV_Disk___init__ dc_Disk___init__ pm_Disk___init__ an_Disk___init__ cd_Disk___init__ ct_Disk___init__), sl_Disk___init__⟩)
    (dDisk___init__ : PySem.W.codeIn K cd_Disk___init__ "Disk.__init__" = true)
    (kDisk___init__ : PySem.W.keepIn K (.ref f_Disk___init__) = true)
    (aDisk_stretches : PySem.W.findIn K (.ref a_Disk) "stretches" = some (some (.ref f_Disk_stretches)))
    (iDisk_stretches : PySem.W.isFn K (.ref f_Disk_stretches) = true)
    (lDisk_stretches : K.lookup f_Disk_stretches = some ⟨oc_Disk_stretches, od_Disk_stretches, .func (PySem.W.fnOf "stretches" "Disk.stretches" (defArgs s_Disk_stretches) (defBody s_Disk_stretches) (defScope s_Disk_stretches) .none kV_Disk_stretches dc_Disk_stretches pm_Disk_stretches an_Disk_stretches cd_Disk_stretches ct_Disk_stretches), sl_Disk_stretches⟩)
    (dDisk_stretches : PySem.W.codeIn K cd_Disk_stretches "Disk.stretches" = true)
    (kDisk_stretches : PySem.W.keepIn K (.ref f_Disk_stretches) = true)
    (aDisk_places : PySem.W.findIn K (.ref a_Disk) "places" = some (some (.ref f_Disk_places)))
    (iDisk_places : PySem.W.isFn K (.ref f_Disk_places) = true)
    (lDisk_places : K.lookup f_Disk_places = some ⟨oc_Disk_places, od_Disk_places, .func (PySem.W.fnOf "places" "Disk.places" (defArgs s_Disk_places) (defBody s_Disk_places) (defScope s_Disk_places) .none kV_Disk_places dc_Disk_places pm_Disk_places an_Disk_places cd_Disk_places ct_Disk_places), sl_Disk_places⟩)
    (dDisk_places : PySem.W.codeIn K cd_Disk_places "Disk.places" = true)
    (kDisk_places : PySem.W.keepIn K (.ref f_Disk_places) = true)
    (aDisk_told : PySem.W.findIn K (.ref a_Disk) "told" = some (some (.ref f_Disk_told)))
    (iDisk_told : PySem.W.isFn K (.ref f_Disk_told) = true)
    (lDisk_told : K.lookup f_Disk_told = some ⟨oc_Disk_told, od_Disk_told, .func (PySem.W.fnOf "told" "Disk.told" (defArgs s_Disk_told) (defBody s_Disk_told) (defScope s_Disk_told) .none kV_Disk_told dc_Disk_told pm_Disk_told an_Disk_told cd_Disk_told ct_Disk_told), sl_Disk_told⟩)
    (dDisk_told : PySem.W.codeIn K cd_Disk_told "Disk.told" = true)
    (kDisk_told : PySem.W.keepIn K (.ref f_Disk_told) = true)
    (aDisk_side : PySem.W.findIn K (.ref a_Disk) "side" = some (some (.ref f_Disk_side)))
    (iDisk_side : PySem.W.isFn K (.ref f_Disk_side) = true)
    (lDisk_side : K.lookup f_Disk_side = some ⟨oc_Disk_side, od_Disk_side, .func (PySem.W.fnOf "side" "Disk.side" (defArgs s_Disk_side) (defBody s_Disk_side) (defScope s_Disk_side) .none kV_Disk_side dc_Disk_side pm_Disk_side an_Disk_side cd_Disk_side ct_Disk_side), sl_Disk_side⟩)
    (dDisk_side : PySem.W.codeIn K cd_Disk_side "Disk.side" = true)
    (kDisk_side : PySem.W.keepIn K (.ref f_Disk_side) = true)
    (aDisk_signs : PySem.W.findIn K (.ref a_Disk) "signs" = some (some (.ref f_Disk_signs)))
    (iDisk_signs : PySem.W.isFn K (.ref f_Disk_signs) = true)
    (lDisk_signs : K.lookup f_Disk_signs = some ⟨oc_Disk_signs, od_Disk_signs, .func (PySem.W.fnOf "signs" "Disk.signs" (defArgs s_Disk_signs) (defBody s_Disk_signs) (defScope s_Disk_signs) .none kV_Disk_signs dc_Disk_signs pm_Disk_signs an_Disk_signs cd_Disk_signs ct_Disk_signs), sl_Disk_signs⟩)
    (dDisk_signs : PySem.W.codeIn K cd_Disk_signs "Disk.signs" = true)
    (kDisk_signs : PySem.W.keepIn K (.ref f_Disk_signs) = true)
    (a_law_at : PySem.W.nsIn K mainGlobals "_law_at" = some (some (.ref f__law_at)))
    (l_law_at : K.lookup f__law_at = some ⟨oc__law_at, od__law_at, .func (PySem.W.fnOf "_law_at" "_law_at" (defArgs s__law_at) (defBody s__law_at) (defScope s__law_at) .none kV__law_at dc__law_at pm__law_at an__law_at cd__law_at ct__law_at), sl__law_at⟩)
    (d_law_at : PySem.W.codeIn K cd__law_at "_law_at" = true)
    (k_law_at : PySem.W.keepIn K (.ref f__law_at) = true)
    (a_law_mixed : PySem.W.nsIn K mainGlobals "_law_mixed" = some (some (.ref f__law_mixed)))
    (l_law_mixed : K.lookup f__law_mixed = some ⟨oc__law_mixed, od__law_mixed, .func (PySem.W.fnOf "_law_mixed" "_law_mixed" (defArgs s__law_mixed) (defBody s__law_mixed) (defScope s__law_mixed) .none kV__law_mixed dc__law_mixed pm__law_mixed an__law_mixed cd__law_mixed ct__law_mixed), sl__law_mixed⟩)
    (d_law_mixed : PySem.W.codeIn K cd__law_mixed "_law_mixed" = true)
    (k_law_mixed : PySem.W.keepIn K (.ref f__law_mixed) = true)
    (a_law_row : PySem.W.nsIn K mainGlobals "_law_row" = some (some (.ref f__law_row)))
    (l_law_row : K.lookup f__law_row = some ⟨oc__law_row, od__law_row, .func (PySem.W.fnOf "_law_row" "_law_row" (defArgs s__law_row) (defBody s__law_row) (defScope s__law_row) .none kV__law_row dc__law_row pm__law_row an__law_row cd__law_row ct__law_row), sl__law_row⟩)
    (d_law_row : PySem.W.codeIn K cd__law_row "_law_row" = true)
    (k_law_row : PySem.W.keepIn K (.ref f__law_row) = true)
    (a_law_size : PySem.W.nsIn K mainGlobals "_law_size" = some (some (.ref f__law_size)))
    (l_law_size : K.lookup f__law_size = some ⟨oc__law_size, od__law_size, .func (PySem.W.fnOf "_law_size" "_law_size" (defArgs s__law_size) (defBody s__law_size) (defScope s__law_size) .none kV__law_size dc__law_size pm__law_size an__law_size cd__law_size ct__law_size), sl__law_size⟩)
    (d_law_size : PySem.W.codeIn K cd__law_size "_law_size" = true)
    (k_law_size : PySem.W.keepIn K (.ref f__law_size) = true)
    (a_law_kinds : PySem.W.nsIn K mainGlobals "_law_kinds" = some (some (.ref f__law_kinds)))
    (l_law_kinds : K.lookup f__law_kinds = some ⟨oc__law_kinds, od__law_kinds, .func (PySem.W.fnOf "_law_kinds" "_law_kinds" (defArgs s__law_kinds) (defBody s__law_kinds) (defScope s__law_kinds) .none kV__law_kinds dc__law_kinds pm__law_kinds an__law_kinds cd__law_kinds ct__law_kinds), sl__law_kinds⟩)
    (d_law_kinds : PySem.W.codeIn K cd__law_kinds "_law_kinds" = true)
    (k_law_kinds : PySem.W.keepIn K (.ref f__law_kinds) = true)
    (a_law_begun : PySem.W.nsIn K mainGlobals "_law_begun" = some (some (.ref f__law_begun)))
    (l_law_begun : K.lookup f__law_begun = some ⟨oc__law_begun, od__law_begun, .func (PySem.W.fnOf "_law_begun" "_law_begun" (defArgs s__law_begun) (defBody s__law_begun) (defScope s__law_begun) .none kV__law_begun dc__law_begun pm__law_begun an__law_begun cd__law_begun ct__law_begun), sl__law_begun⟩)
    (d_law_begun : PySem.W.codeIn K cd__law_begun "_law_begun" = true)
    (k_law_begun : PySem.W.keepIn K (.ref f__law_begun) = true)
    (a_law_blank : PySem.W.nsIn K mainGlobals "_law_blank" = some (some (.ref f__law_blank)))
    (l_law_blank : K.lookup f__law_blank = some ⟨oc__law_blank, od__law_blank, .func (PySem.W.fnOf "_law_blank" "_law_blank" (defArgs s__law_blank) (defBody s__law_blank) (defScope s__law_blank) .none kV__law_blank dc__law_blank pm__law_blank an__law_blank cd__law_blank ct__law_blank), sl__law_blank⟩)
    (d_law_blank : PySem.W.codeIn K cd__law_blank "_law_blank" = true)
    (k_law_blank : PySem.W.keepIn K (.ref f__law_blank) = true)
    (alaw : PySem.W.nsIn K mainGlobals "law" = some (some (.ref f_law)))
    (llaw : K.lookup f_law = some ⟨oc_law, od_law, .func (PySem.W.fnOf "law" "law" (defArgs s_law) (defBody s_law) (defScope s_law) .none kV_law dc_law pm_law an_law cd_law ct_law), sl_law⟩)
    (dlaw : PySem.W.codeIn K cd_law "law" = true)
    (klaw : PySem.W.keepIn K (.ref f_law) = true)
    (z_ValueError : PySem.W.nsIn K mainGlobals "ValueError" = some none)
    (z_bool : PySem.W.nsIn K mainGlobals "bool" = some none)
    (z_int : PySem.W.nsIn K mainGlobals "int" = some none)
    (z_isinstance : PySem.W.nsIn K mainGlobals "isinstance" = some none)
    (z_len : PySem.W.nsIn K mainGlobals "len" = some none)
    (z_max : PySem.W.nsIn K mainGlobals "max" = some none)
    (z_min : PySem.W.nsIn K mainGlobals "min" = some none)
    (z_range : PySem.W.nsIn K mainGlobals "range" = some none)
    (z_repr : PySem.W.nsIn K mainGlobals "repr" = some none)
    (z_str : PySem.W.nsIn K mainGlobals "str" = some none)
    (z_zip : PySem.W.nsIn K mainGlobals "zip" = some none)
    (v_LEAST_STRETCHES : PySem.W.nsIn K mainGlobals "LEAST_STRETCHES" = some (some (.int 3 t_LEAST_STRETCHES)))
    (v_MOST_STRETCHES : PySem.W.nsIn K mainGlobals "MOST_STRETCHES" = some (some (.int 16 t_MOST_STRETCHES)))
    (v_LEAST_PLACES : PySem.W.nsIn K mainGlobals "LEAST_PLACES" = some (some (.int 2 t_LEAST_PLACES)))
    (v_MOST_PLACES : PySem.W.nsIn K mainGlobals "MOST_PLACES" = some (some (.int 32 t_MOST_PLACES)))
    (ek_CleanError : PySem.W.excIn K a_CleanError [.type "ValueError", .type "Exception", .type "BaseException", .type "object"] "ValueError.__new__" = true)
    (ek_NoDisk : PySem.W.excIn K a_NoDisk [.type "ValueError", .type "Exception", .type "BaseException", .type "object"] "ValueError.__new__" = true)
    (ga_NoDisk : PySem.W.findIn K (.ref a_NoDisk) "__getattribute__" = some (some (.builtin "BaseException.__getattribute__")))
    (gr_NoDisk : PySem.W.findIn K (.ref a_NoDisk) "__getattr__" = some none)
    (clx_NoDisk : PySem.W.findIn K (.ref a_NoDisk) "__class__" = some (some (.builtin "object.__class__")))
    (ob_NoDisk : PySem.W.mroIn K a_NoDisk (.type "object") = some true)
    (ba_NoDisk : PySem.W.mroIn K a_NoDisk (.type "BaseException") = some true)
    (mro_NoDisk : PySem.W.mroIn K a_NoDisk (.ref a_CleanError) = some true)
    (kk_NoDisk_ValueError : PySem.W.kitOne K (.ref a_NoDisk) (.type "ValueError") = some true)
    (kk_NoDisk_NoRow : PySem.W.kitOne K (.ref a_NoDisk) (.ref a_NoRow) = some false)
    (kk_NoDisk_NoDisk : PySem.W.kitOne K (.ref a_NoDisk) (.ref a_NoDisk) = some true)
    (kk_NoDisk_Full : PySem.W.kitOne K (.ref a_NoDisk) (.ref a_Full) = some false)
    (kk_NoDisk_Stopped : PySem.W.kitOne K (.ref a_NoDisk) (.ref a_Stopped) = some false)
    (kk_NoDisk_NoFile : PySem.W.kitOne K (.ref a_NoDisk) (.ref a_NoFile) = some false)
    (kk_NoDisk_NoPlace : PySem.W.kitOne K (.ref a_NoDisk) (.ref a_NoPlace) = some false)
    (kk_NoDisk_HeldAlready : PySem.W.kitOne K (.ref a_NoDisk) (.ref a_HeldAlready) = some false)
    (kk_NoDisk_NotHeld : PySem.W.kitOne K (.ref a_NoDisk) (.ref a_NotHeld) = some false)
    (kk_NoDisk_NoFiles : PySem.W.kitOne K (.ref a_NoDisk) (.ref a_NoFiles) = some false)
    (kk_NoDisk_NoMark : PySem.W.kitOne K (.ref a_NoDisk) (.ref a_NoMark) = some false)
    (kk_NoDisk_NoRoom : PySem.W.kitOne K (.ref a_NoDisk) (.ref a_NoRoom) = some false)
    (kk_NoDisk_Gone : PySem.W.kitOne K (.ref a_NoDisk) (.ref a_Gone) = some false)
    (kk_NoDisk_NotClosed : PySem.W.kitOne K (.ref a_NoDisk) (.ref a_NotClosed) = some false)
    (kk_NoDisk_NotBlank : PySem.W.kitOne K (.ref a_NoDisk) (.ref a_NotBlank) = some false)
    (kk_NoDisk_NoDeed : PySem.W.kitOne K (.ref a_NoDisk) (.ref a_NoDeed) = some false)
    (kk_NoDisk_NoHouse : PySem.W.kitOne K (.ref a_NoDisk) (.ref a_NoHouse) = some false)
    (pg_Disk : PySem.W.plainGet K a_Disk Str.empty = true)
    (hdd_Disk : PySem.W.hasDictIn K a_Disk = true)
    (po_Disk : PySem.W.plainOver K a_Disk = true)
    (sa_Disk : PySem.W.findIn K (.ref a_Disk) "__setattr__" = some (some (.builtin "object.__setattr__")))
    (mk_Disk : PySem.W.makesIn K a_Disk = true)
    (kc_Disk : PySem.W.keepIn K (.ref a_Disk) = true)
    (na_at_sides : PySem.W.findIn K (.ref a_Disk) "at_sides" = some none)
    (na_counted : PySem.W.findIn K (.ref a_Disk) "counted" = some none)
    (na_has_stopped : PySem.W.findIn K (.ref a_Disk) "has_stopped" = some none)
    (na_left : PySem.W.findIn K (.ref a_Disk) "left" = some none)
    (na_width : PySem.W.findIn K (.ref a_Disk) "width" = some none)
    (na_written : PySem.W.findIn K (.ref a_Disk) "written" = some none) :
    ∃ fd : FuncData, (∀ (s : Shared) (v : Value), BindsTo s fd ⟨[v], []⟩ [("_law_script", v)]) ∧ ∀ base : Heap, K.In base → base.Ns mainGlobals mg → FnOk l.prog w K mg base CX0 true 6 fa fd ["_law_script"] (spLaw K) := by
  have e := hfa.symm.trans (PySem.W.mg_of X G alaw)
  cases e
  have T : Txt K mg ⟨a_CleanError, a_NoRow, a_NoDisk, a_Full, a_Stopped, a_NoFile, a_NoPlace, a_HeldAlready, a_NotHeld, a_NoFiles, a_NoMark, a_NoRoom, a_Gone, a_NotClosed, a_NotBlank, a_NoDeed, a_NoHouse, a_Disk⟩ := ⟨PySem.W.mg_none_of X G z_ValueError, PySem.W.mg_none_of X G z_bool, PySem.W.mg_none_of X G z_int, PySem.W.mg_none_of X G z_isinstance, PySem.W.mg_none_of X G z_len, PySem.W.mg_none_of X G z_max, PySem.W.mg_none_of X G z_min, PySem.W.mg_none_of X G z_range, PySem.W.mg_none_of X G z_repr, PySem.W.mg_none_of X G z_str, PySem.W.mg_none_of X G z_zip, ⟨_, PySem.W.mg_of X G v_LEAST_STRETCHES, ⟨_, rfl⟩⟩, ⟨_, PySem.W.mg_of X G v_MOST_STRETCHES, ⟨_, rfl⟩⟩, ⟨_, PySem.W.mg_of X G v_LEAST_PLACES, ⟨_, rfl⟩⟩, ⟨_, PySem.W.mg_of X G v_MOST_PLACES, ⟨_, rfl⟩⟩, PySem.W.mg_of X G c_CleanError, PySem.W.mg_of X G c_NoRow, PySem.W.mg_of X G c_NoDisk, PySem.W.mg_of X G c_Full, PySem.W.mg_of X G c_Stopped, PySem.W.mg_of X G c_NoFile, PySem.W.mg_of X G c_NoPlace, PySem.W.mg_of X G c_HeldAlready, PySem.W.mg_of X G c_NotHeld, PySem.W.mg_of X G c_NoFiles, PySem.W.mg_of X G c_NoMark, PySem.W.mg_of X G c_NoRoom, PySem.W.mg_of X G c_Gone, PySem.W.mg_of X G c_NotClosed, PySem.W.mg_of X G c_NotBlank, PySem.W.mg_of X G c_NoDeed, PySem.W.mg_of X G c_NoHouse, PySem.W.mg_of X G c_Disk, ek_CleanError, ek_NoDisk, ⟨ek_NoDisk, ga_NoDisk, gr_NoDisk, clx_NoDisk, ob_NoDisk, ba_NoDisk⟩, mro_NoDisk, kk_NoDisk_ValueError, kk_NoDisk_NoRow, kk_NoDisk_NoDisk, kk_NoDisk_Full, kk_NoDisk_Stopped, kk_NoDisk_NoFile, kk_NoDisk_NoPlace, kk_NoDisk_HeldAlready, kk_NoDisk_NotHeld, kk_NoDisk_NoFiles, kk_NoDisk_NoMark, kk_NoDisk_NoRoom, kk_NoDisk_Gone, kk_NoDisk_NotClosed, kk_NoDisk_NotBlank, kk_NoDisk_NoDeed, kk_NoDisk_NoHouse, ⟨pg_Disk, hdd_Disk, po_Disk, sa_Disk⟩, na_at_sides, na_counted, na_has_stopped, na_left, na_width, na_written⟩
  have Fis_whole := fun_mk (st := s_is_whole) lis_whole dis_whole kis_whole
  have bis_whole := Fis_whole.binds (ps := ["value"]) fun _ _ _ _ _ _ us hl => match us, hl with | [_], _ => rfl
  have Fis_within := fun_mk (st := s_is_within) lis_within dis_within kis_within
  have bis_within := Fis_within.binds (ps := ["value", "least", "most"]) fun _ _ _ _ _ _ us hl => match us, hl with | [_, _, _], _ => rfl
  have FDisk___init__ := fun_mk (st := s_Disk___init__) lDisk___init__ dDisk___init__ kDisk___init__
  have bDisk___init__ := FDisk___init__.binds (ps := ["self", "stretches", "places"]) fun _ _ _ _ _ _ us hl => match us, hl with | [_, _, _], _ => rfl
  have FDisk_stretches := fun_mk (st := s_Disk_stretches) lDisk_stretches dDisk_stretches kDisk_stretches
  have bDisk_stretches := FDisk_stretches.binds (ps := ["self"]) fun _ _ _ _ _ _ us hl => match us, hl with | [_], _ => rfl
  have FDisk_places := fun_mk (st := s_Disk_places) lDisk_places dDisk_places kDisk_places
  have bDisk_places := FDisk_places.binds (ps := ["self"]) fun _ _ _ _ _ _ us hl => match us, hl with | [_], _ => rfl
  have FDisk_told := fun_mk (st := s_Disk_told) lDisk_told dDisk_told kDisk_told
  have bDisk_told := FDisk_told.binds (ps := ["self", "stretch", "place"]) fun _ _ _ _ _ _ us hl => match us, hl with | [_, _, _], _ => rfl
  have FDisk_side := fun_mk (st := s_Disk_side) lDisk_side dDisk_side kDisk_side
  have bDisk_side := FDisk_side.binds (ps := ["self", "k"]) fun _ _ _ _ _ _ us hl => match us, hl with | [_, _], _ => rfl
  have FDisk_signs := fun_mk (st := s_Disk_signs) lDisk_signs dDisk_signs kDisk_signs
  have bDisk_signs := FDisk_signs.binds (ps := ["self"]) fun _ _ _ _ _ _ us hl => match us, hl with | [_], _ => rfl
  have F_law_at := fun_mk (st := s__law_at) l_law_at d_law_at k_law_at
  have b_law_at := F_law_at.binds (ps := ["_law_script", "_law_k"]) fun _ _ _ _ _ _ us hl => match us, hl with | [_, _], _ => rfl
  have F_law_mixed := fun_mk (st := s__law_mixed) l_law_mixed d_law_mixed k_law_mixed
  have b_law_mixed := F_law_mixed.binds (ps := ["_law_number", "_law_k"]) fun _ _ _ _ _ _ us hl => match us, hl with | [_, _], _ => rfl
  have F_law_row := fun_mk (st := s__law_row) l_law_row d_law_row k_law_row
  have b_law_row := F_law_row.binds (ps := ["_law_script", "_law_k", "_law_many", "_law_base"]) fun _ _ _ _ _ _ us hl => match us, hl with | [_, _, _, _], _ => rfl
  have F_law_size := fun_mk (st := s__law_size) l_law_size d_law_size k_law_size
  have b_law_size := F_law_size.binds (ps := ["_law_digit", "_law_fewest", "_law_most"]) fun _ _ _ _ _ _ us hl => match us, hl with | [_, _, _], _ => rfl
  have F_law_kinds := fun_mk (st := s__law_kinds) l_law_kinds d_law_kinds k_law_kinds
  have b_law_kinds := F_law_kinds.binds (ps := ["_law_e"]) fun _ _ _ _ _ _ us hl => match us, hl with | [_], _ => rfl
  have F_law_begun := fun_mk (st := s__law_begun) l_law_begun d_law_begun k_law_begun
  have b_law_begun := F_law_begun.binds (ps := ["_law_stretches", "_law_places"]) fun _ _ _ _ _ _ us hl => match us, hl with | [_, _], _ => rfl
  have F_law_blank := fun_mk (st := s__law_blank) l_law_blank d_law_blank k_law_blank
  have b_law_blank := F_law_blank.binds (ps := ["_law_disk", "_law_stretches", "_law_places"]) fun _ _ _ _ _ _ us hl => match us, hl with | [_, _, _], _ => rfl
  have Flaw := fun_mk (st := s_law) llaw dlaw klaw
  have blaw := Flaw.binds (ps := ["_law_script"]) fun _ _ _ _ _ _ us hl => match us, hl with | [_], _ => rfl
  refine ⟨PySem.W.fnOf "law" "law" (defArgs s_law) (defBody s_law) (defScope s_law) .none kV_law dc_law pm_law an_law cd_law ct_law, fun s v => .of_eq rfl, fun base _ _ => ?_⟩
  have G_is_whole : GF l.prog w K mg base true 1 "is_whole" ["value"] (spWhole) := ⟨_, _, ok_is_whole Fis_whole T, PySem.W.mg_of X G ais_whole, kis_whole, bis_whole⟩
  have G_is_within : GF l.prog w K mg base true 2 "is_within" ["value", "least", "most"] (spWithin) := ⟨_, _, ok_is_within Fis_within T G_is_whole, PySem.W.mg_of X G ais_within, kis_within, bis_within⟩
  have G__law_at : GF l.prog w K mg base true 1 "_law_at" ["_law_script", "_law_k"] (spAt K) := ⟨_, _, ok__law_at F_law_at T, PySem.W.mg_of X G a_law_at, k_law_at, b_law_at⟩
  have G__law_mixed : GF l.prog w K mg base true 1 "_law_mixed" ["_law_number", "_law_k"] (spMixed) := ⟨_, _, ok__law_mixed F_law_mixed T, PySem.W.mg_of X G a_law_mixed, k_law_mixed, b_law_mixed⟩
  have G__law_row : GF l.prog w K mg base true 2 "_law_row" ["_law_script", "_law_k", "_law_many", "_law_base"] (spRow K) := ⟨_, _, ok__law_row (cm := true) F_law_row T G__law_at G__law_mixed, PySem.W.mg_of X G a_law_row, k_law_row, b_law_row⟩
  have G__law_size : GF l.prog w K mg base true 1 "_law_size" ["_law_digit", "_law_fewest", "_law_most"] (spSize) := ⟨_, _, ok__law_size F_law_size T, PySem.W.mg_of X G a_law_size, k_law_size, b_law_size⟩
  have G__law_kinds : GF l.prog w K mg base false 1 "_law_kinds" ["_law_e"] (spKinds _) := ⟨_, _, ok__law_kinds F_law_kinds T, PySem.W.mg_of X G a_law_kinds, k_law_kinds, b_law_kinds⟩
  have G_Disk : GCX l.prog w K mg base true 3 "Disk" a_Disk ["self", "stretches", "places"] (spInit _) := ⟨_, _, ok_Disk_init FDisk___init__ T G_is_within, PySem.W.mg_of X G c_Disk, ⟨mk_Disk, aDisk___init__, iDisk___init__, kc_Disk⟩, bDisk___init__⟩
  have M_Disk_stretches : GM l.prog w K mg base true 1 a_Disk "stretches" ["self"] (spM _ fun n _ => .int n) := ⟨_, _, ok_Disk_stretches FDisk_stretches T, ⟨aDisk_stretches, iDisk_stretches, kDisk_stretches⟩, bDisk_stretches⟩
  have M_Disk_places : GM l.prog w K mg base true 1 a_Disk "places" ["self"] (spM _ fun _ m => .int m) := ⟨_, _, ok_Disk_places FDisk_places T, ⟨aDisk_places, iDisk_places, kDisk_places⟩, bDisk_places⟩
  have M_Disk_signs : GM l.prog w K mg base true 1 a_Disk "signs" ["self"] (spM _ fun _ _ => .int 0) := ⟨_, _, ok_Disk_signs FDisk_signs T, ⟨aDisk_signs, iDisk_signs, kDisk_signs⟩, bDisk_signs⟩
  have M_Disk_side : GM l.prog w K mg base true 1 a_Disk "side" ["self", "k"] (spSide _) := ⟨_, _, ok_Disk_side FDisk_side T, ⟨aDisk_side, iDisk_side, kDisk_side⟩, bDisk_side⟩
  have M_Disk_told : GM l.prog w K mg base true 1 a_Disk "told" ["self", "stretch", "place"] (spTold _) := ⟨_, _, ok_Disk_told FDisk_told T, ⟨aDisk_told, iDisk_told, kDisk_told⟩, bDisk_told⟩
  have G__law_begun : GF l.prog w K mg base true 5 "_law_begun" ["_law_stretches", "_law_places"] (spBegun) := ⟨_, _, ok__law_begun F_law_begun T G_Disk G__law_kinds, PySem.W.mg_of X G a_law_begun, k_law_begun, b_law_begun⟩
  have G__law_blank : GF l.prog w K mg base true 2 "_law_blank" ["_law_disk", "_law_stretches", "_law_places"] (spBlank _) := ⟨_, _, ok__law_blank F_law_blank T M_Disk_stretches M_Disk_places M_Disk_signs M_Disk_side M_Disk_told, PySem.W.mg_of X G a_law_blank, k_law_blank, b_law_blank⟩
  exact ok_law Flaw T G_Disk G__law_row G__law_size G__law_begun G__law_blank
theorem walk {l : PySem.W.OpenLaw} {q : Program} {loose : List Str} {XP : (Str → Option Value) → Heap → Prop} {YP : World → Heap → Prop} {d : DefRec} {K : Params → PySem.W.Frag} (hn : l.most = some 63) (hdf : d.params.defaults = [])
    (hY : ∀ (w : World) (h : Heap), YP w h → (K w.params).In h)
    (F : ∀ (w : World) (mg : Str → Option Value) (fa : Addr) (h : Heap), (K w.params).In h → h.Ns mainGlobals mg → mg d.name = some (.ref fa) →
      ∃ fd : FuncData, (∀ (s : Shared) (u : Value), BindsTo s fd ⟨[u], []⟩ [("_law_script", u)]) ∧ ∀ base : Heap, (K w.params).In base → base.Ns mainGlobals mg → FnOk l.prog w (K w.params) mg base CX0 true 6 fa fd ["_law_script"] (spLaw (K w.params))) :
    PySem.W.WalkO q loose XP YP l.row.toRowW d [] (fun f vs => PySem.call f vs) :=
  L2.walk_of (n := 63) (k := 6) (x := "_law_script") (CX := fun _ => CX0) (sp := fun w => spLaw (K w.params)) hn (by decide) hdf ⟨fun _ => rfl, by decide, by decide, rfl⟩ hY F (fun _ _ a ns hl _ hS => ⟨a, ns, rfl, hS, hl, fun _ => rfl⟩) fun _ _ _ _ _ z => z

end K16
set_option Elab.async false
/-! names that keep the head from laying twins of its long states: with them the object file is over its size -/
def PySem.W.Fast.tw1469652281840690532 : Nat := 0
def PySem.W.Fast.tw324439968040138179 : Nat := 0
def PySem.W.Fast.tw1882067429812867221 : Nat := 0
def PySem.W.Fast.tw3527348136049154742 : Nat := 0
def PySem.W.Fast.tw462803986742434276 : Nat := 0
def PySem.W.Fast.tw7478969772172277054 : Nat := 0
def PySem.W.Fast.tw13948926228321588505 : Nat := 0
def PySem.W.Fast.tw4278615738140953402 : Nat := 0
def PySem.W.Fast.tw11975317003207265958 : Nat := 0
def PySem.W.Fast.tw8171803712322074592 : Nat := 0
def PySem.W.Fast.tw990209491310061928 : Nat := 0
def PySem.W.Fast.tw3786962717115688040 : Nat := 0
def PySem.W.Fast.tw5131423348185244824 : Nat := 0
def PySem.W.Fast.tw3909473694442021162 : Nat := 0
def PySem.W.Fast.tw10559005439364224003 : Nat := 0
open PySem PySem.W PyProof.Rows
set_option maxRecDepth 100000 in
set_option maxHeartbeats 0 in
theorem PySem.Challenge.cw_cleanrows_k16_no_disks_holds : PySem.Challenge.rw_cleanrows_k16_no_disks.Holds := by
  w_on; o_law; k_head; (case hw => w_witness2)
  k_fill
  refine K16.walk (l := PySem.Challenge.rw_cleanrows_k16_no_disks) rfl rfl (fun w h Y => PySem.W.kIn_of Y) ?F
  case F =>
    intro w mg fa h KX G hmg
    refine' K16.all_mk KX G hmg ?c_CleanError ?c_NoRow ?c_NoDisk ?c_Full ?c_Stopped ?c_NoFile ?c_NoPlace ?c_HeldAlready ?c_NotHeld ?c_NoFiles ?c_NoMark ?c_NoRoom ?c_Gone ?c_NotClosed ?c_NotBlank ?c_NoDeed ?c_NoHouse ?c_Disk ?ais_whole ?lis_whole ?dis_whole ?kis_whole ?ais_within ?lis_within ?dis_within ?kis_within ?aDisk___init__ ?iDisk___init__ ?lDisk___init__ ?dDisk___init__ ?kDisk___init__ ?aDisk_stretches ?iDisk_stretches ?lDisk_stretches ?dDisk_stretches ?kDisk_stretches ?aDisk_places ?iDisk_places ?lDisk_places ?dDisk_places ?kDisk_places ?aDisk_told ?iDisk_told ?lDisk_told ?dDisk_told ?kDisk_told ?aDisk_side ?iDisk_side ?lDisk_side ?dDisk_side ?kDisk_side ?aDisk_signs ?iDisk_signs ?lDisk_signs ?dDisk_signs ?kDisk_signs ?a_law_at ?l_law_at ?d_law_at ?k_law_at ?a_law_mixed ?l_law_mixed ?d_law_mixed ?k_law_mixed ?a_law_row ?l_law_row ?d_law_row ?k_law_row ?a_law_size ?l_law_size ?d_law_size ?k_law_size ?a_law_kinds ?l_law_kinds ?d_law_kinds ?k_law_kinds ?a_law_begun ?l_law_begun ?d_law_begun ?k_law_begun ?a_law_blank ?l_law_blank ?d_law_blank ?k_law_blank ?alaw ?llaw ?dlaw ?klaw ?z_ValueError ?z_bool ?z_int ?z_isinstance ?z_len ?z_max ?z_min ?z_range ?z_repr ?z_str ?z_zip ?v_LEAST_STRETCHES ?v_MOST_STRETCHES ?v_LEAST_PLACES ?v_MOST_PLACES ?ek_CleanError ?ek_NoDisk ?ga_NoDisk ?gr_NoDisk ?clx_NoDisk ?ob_NoDisk ?ba_NoDisk ?mro_NoDisk ?kk_NoDisk_ValueError ?kk_NoDisk_NoRow ?kk_NoDisk_NoDisk ?kk_NoDisk_Full ?kk_NoDisk_Stopped ?kk_NoDisk_NoFile ?kk_NoDisk_NoPlace ?kk_NoDisk_HeldAlready ?kk_NoDisk_NotHeld ?kk_NoDisk_NoFiles ?kk_NoDisk_NoMark ?kk_NoDisk_NoRoom ?kk_NoDisk_Gone ?kk_NoDisk_NotClosed ?kk_NoDisk_NotBlank ?kk_NoDisk_NoDeed ?kk_NoDisk_NoHouse ?pg_Disk ?hdd_Disk ?po_Disk ?sa_Disk ?mk_Disk ?kc_Disk ?na_at_sides ?na_counted ?na_has_stopped ?na_left ?na_width ?na_written
    (case c_CleanError => first | k_is | kit_is | k_exc)
    (case c_NoRow => first | k_is | kit_is | k_exc)
    (case c_NoDisk => first | k_is | kit_is | k_exc)
    (case c_Full => first | k_is | kit_is | k_exc)
    (case c_Stopped => first | k_is | kit_is | k_exc)
    (case c_NoFile => first | k_is | kit_is | k_exc)
    (case c_NoPlace => first | k_is | kit_is | k_exc)
    (case c_HeldAlready => first | k_is | kit_is | k_exc)
    (case c_NotHeld => first | k_is | kit_is | k_exc)
    (case c_NoFiles => first | k_is | kit_is | k_exc)
    (case c_NoMark => first | k_is | kit_is | k_exc)
    (case c_NoRoom => first | k_is | kit_is | k_exc)
    (case c_Gone => first | k_is | kit_is | k_exc)
    (case c_NotClosed => first | k_is | kit_is | k_exc)
    (case c_NotBlank => first | k_is | kit_is | k_exc)
    (case c_NoDeed => first | k_is | kit_is | k_exc)
    (case c_NoHouse => first | k_is | kit_is | k_exc)
    (case c_Disk => first | k_is | kit_is | k_exc)
    (case ais_whole => first | k_is | kit_is | k_exc)
    (case lis_whole => first | k_is | kit_is | k_exc)
    (case dis_whole => first | k_is | kit_is | k_exc)
    (case kis_whole => first | k_is | kit_is | k_exc)
    (case ais_within => first | k_is | kit_is | k_exc)
    (case lis_within => first | k_is | kit_is | k_exc)
    (case dis_within => first | k_is | kit_is | k_exc)
    (case kis_within => first | k_is | kit_is | k_exc)
    (case aDisk___init__ => first | k_is | kit_is | k_exc)
    (case iDisk___init__ => first | k_is | kit_is | k_exc)
    (case lDisk___init__ => first | k_is | kit_is | k_exc)
    (case dDisk___init__ => first | k_is | kit_is | k_exc)
    (case kDisk___init__ => first | k_is | kit_is | k_exc)
    (case aDisk_stretches => first | k_is | kit_is | k_exc)
    (case iDisk_stretches => first | k_is | kit_is | k_exc)
    (case lDisk_stretches => first | k_is | kit_is | k_exc)
    (case dDisk_stretches => first | k_is | kit_is | k_exc)
    (case kDisk_stretches => first | k_is | kit_is | k_exc)
    (case aDisk_places => first | k_is | kit_is | k_exc)
    (case iDisk_places => first | k_is | kit_is | k_exc)
    (case lDisk_places => first | k_is | kit_is | k_exc)
    (case dDisk_places => first | k_is | kit_is | k_exc)
    (case kDisk_places => first | k_is | kit_is | k_exc)
    (case aDisk_told => first | k_is | kit_is | k_exc)
    (case iDisk_told => first | k_is | kit_is | k_exc)
    (case lDisk_told => first | k_is | kit_is | k_exc)
    (case dDisk_told => first | k_is | kit_is | k_exc)
    (case kDisk_told => first | k_is | kit_is | k_exc)
    (case aDisk_side => first | k_is | kit_is | k_exc)
    (case iDisk_side => first | k_is | kit_is | k_exc)
    (case lDisk_side => first | k_is | kit_is | k_exc)
    (case dDisk_side => first | k_is | kit_is | k_exc)
    (case kDisk_side => first | k_is | kit_is | k_exc)
    (case aDisk_signs => first | k_is | kit_is | k_exc)
    (case iDisk_signs => first | k_is | kit_is | k_exc)
    (case lDisk_signs => first | k_is | kit_is | k_exc)
    (case dDisk_signs => first | k_is | kit_is | k_exc)
    (case kDisk_signs => first | k_is | kit_is | k_exc)
    (case a_law_at => first | k_is | kit_is | k_exc)
    (case l_law_at => first | k_is | kit_is | k_exc)
    (case d_law_at => first | k_is | kit_is | k_exc)
    (case k_law_at => first | k_is | kit_is | k_exc)
    (case a_law_mixed => first | k_is | kit_is | k_exc)
    (case l_law_mixed => first | k_is | kit_is | k_exc)
    (case d_law_mixed => first | k_is | kit_is | k_exc)
    (case k_law_mixed => first | k_is | kit_is | k_exc)
    (case a_law_row => first | k_is | kit_is | k_exc)
    (case l_law_row => first | k_is | kit_is | k_exc)
    (case d_law_row => first | k_is | kit_is | k_exc)
    (case k_law_row => first | k_is | kit_is | k_exc)
    (case a_law_size => first | k_is | kit_is | k_exc)
    (case l_law_size => first | k_is | kit_is | k_exc)
    (case d_law_size => first | k_is | kit_is | k_exc)
    (case k_law_size => first | k_is | kit_is | k_exc)
    (case a_law_kinds => first | k_is | kit_is | k_exc)
    (case l_law_kinds => first | k_is | kit_is | k_exc)
    (case d_law_kinds => first | k_is | kit_is | k_exc)
    (case k_law_kinds => first | k_is | kit_is | k_exc)
    (case a_law_begun => first | k_is | kit_is | k_exc)
    (case l_law_begun => first | k_is | kit_is | k_exc)
    (case d_law_begun => first | k_is | kit_is | k_exc)
    (case k_law_begun => first | k_is | kit_is | k_exc)
    (case a_law_blank => first | k_is | kit_is | k_exc)
    (case l_law_blank => first | k_is | kit_is | k_exc)
    (case d_law_blank => first | k_is | kit_is | k_exc)
    (case k_law_blank => first | k_is | kit_is | k_exc)
    (case alaw => first | k_is | kit_is | k_exc)
    (case llaw => first | k_is | kit_is | k_exc)
    (case dlaw => first | k_is | kit_is | k_exc)
    (case klaw => first | k_is | kit_is | k_exc)
    (case z_ValueError => first | k_is | kit_is | k_exc)
    (case z_bool => first | k_is | kit_is | k_exc)
    (case z_int => first | k_is | kit_is | k_exc)
    (case z_isinstance => first | k_is | kit_is | k_exc)
    (case z_len => first | k_is | kit_is | k_exc)
    (case z_max => first | k_is | kit_is | k_exc)
    (case z_min => first | k_is | kit_is | k_exc)
    (case z_range => first | k_is | kit_is | k_exc)
    (case z_repr => first | k_is | kit_is | k_exc)
    (case z_str => first | k_is | kit_is | k_exc)
    (case z_zip => first | k_is | kit_is | k_exc)
    (case v_LEAST_STRETCHES => first | k_is | kit_is | k_exc)
    (case v_MOST_STRETCHES => first | k_is | kit_is | k_exc)
    (case v_LEAST_PLACES => first | k_is | kit_is | k_exc)
    (case v_MOST_PLACES => first | k_is | kit_is | k_exc)
    (case ek_CleanError => first | k_is | kit_is | k_exc)
    (case ek_NoDisk => first | k_is | kit_is | k_exc)
    (case ga_NoDisk => first | k_is | kit_is | k_exc)
    (case gr_NoDisk => first | k_is | kit_is | k_exc)
    (case clx_NoDisk => first | k_is | kit_is | k_exc)
    (case ob_NoDisk => first | k_is | kit_is | k_exc)
    (case ba_NoDisk => first | k_is | kit_is | k_exc)
    (case mro_NoDisk => first | k_is | kit_is | k_exc)
    (case kk_NoDisk_ValueError => first | k_is | kit_is | k_exc)
    (case kk_NoDisk_NoRow => first | k_is | kit_is | k_exc)
    (case kk_NoDisk_NoDisk => first | k_is | kit_is | k_exc)
    (case kk_NoDisk_Full => first | k_is | kit_is | k_exc)
    (case kk_NoDisk_Stopped => first | k_is | kit_is | k_exc)
    (case kk_NoDisk_NoFile => first | k_is | kit_is | k_exc)
    (case kk_NoDisk_NoPlace => first | k_is | kit_is | k_exc)
    (case kk_NoDisk_HeldAlready => first | k_is | kit_is | k_exc)
    (case kk_NoDisk_NotHeld => first | k_is | kit_is | k_exc)
    (case kk_NoDisk_NoFiles => first | k_is | kit_is | k_exc)
    (case kk_NoDisk_NoMark => first | k_is | kit_is | k_exc)
    (case kk_NoDisk_NoRoom => first | k_is | kit_is | k_exc)
    (case kk_NoDisk_Gone => first | k_is | kit_is | k_exc)
    (case kk_NoDisk_NotClosed => first | k_is | kit_is | k_exc)
    (case kk_NoDisk_NotBlank => first | k_is | kit_is | k_exc)
    (case kk_NoDisk_NoDeed => first | k_is | kit_is | k_exc)
    (case kk_NoDisk_NoHouse => first | k_is | kit_is | k_exc)
    (case pg_Disk => first | k_is | kit_is | k_exc)
    (case hdd_Disk => first | k_is | kit_is | k_exc)
    (case po_Disk => first | k_is | kit_is | k_exc)
    (case sa_Disk => first | k_is | kit_is | k_exc)
    (case mk_Disk => first | k_is | kit_is | k_exc)
    (case kc_Disk => first | k_is | kit_is | k_exc)
    (case na_at_sides => first | k_is | kit_is | k_exc)
    (case na_counted => first | k_is | kit_is | k_exc)
    (case na_has_stopped => first | k_is | kit_is | k_exc)
    (case na_left => first | k_is | kit_is | k_exc)
    (case na_width => first | k_is | kit_is | k_exc)
    (case na_written => first | k_is | kit_is | k_exc)
