import PyProof.Rows.All
import Wide.All
import OpenK.AllK
import Wide.FinOn
import Lean
import PyProof.EqAt
import PyProof.EqKinds
import PyProof.TupleCall
import KE.KUnpack
import PyProof.NeKinds
import PyProof.EnumFor
import PyProof.EnumStmt
import PyProof.EnumMake
import PyProof.Draws
import PyProof.StrWalks
import PyProof.Rows.FStr
import PyProof.Rows.CallKw2
import PyProof.StrBlockL
import KE.KIntText
import PyProof.ConsumeWalk
import PyProof.StrBlockG
import PyProof.CallStr
import PyProof.Rows.Range3
import PyProof.MeetsDict
import PyProof.DictList
import PyProof.StrLawsChain
import PyProof.StrLawsNeg
import KE.IntTextLaws
import KE.IntTextText
import PyProof.CallFns
import PyProof.CompUse
import PySem.Challenge.RW_cleanrows_k13_no_rows
set_option Elab.async false
set_option linter.all false
set_option maxRecDepth 100000
/-! THE HAND LAYER, for ints, bools, texts, own classes, LISTS and tuples (index, slices, in, append, pop ..), calls, loops. Paste it whole ahead of your own text; what your proof does not reach may be deleted. -/
namespace L2
open PySem PySem.Spec PyProof.Rows

/-- a key: an int or a str -/
abbrev Key := Sum Int Str
def keyIs : Key → Value → Bool
  | .inl k, v => Value.isInt k v
  | .inr x, v => Value.isStrOf x v
def keyH (w : World) : Key → Int
  | .inl k => hashInt k
  | .inr x => hashStr w x
theorem keyIs_shape : ∀ {k : Key} {v : Value}, keyIs k v = true → (∃ i t, k = Sum.inl i ∧ v = Value.int i t) ∨ (∃ x t, k = Sum.inr x ∧ v = Value.str x t)
  | .inl i, v, h => by
    obtain ⟨t, e⟩ := Value.isInt_shape (k := i) (v := v) h
    exact .inl ⟨i, t, rfl, e⟩
  | .inr x, v, h => by
    obtain ⟨t, e⟩ := Value.isStrOf_shape (x := x) (v := v) h
    exact .inr ⟨x, t, rfl, e⟩
theorem keyIs_str (x : Str) (t : Tok) : keyIs (.inr x) (.str x t) = true := by simp [keyIs, Value.isStrOf]
theorem key_ll (a b : Int) : decide ((Sum.inl a : Key) = Sum.inl b) = (a == b) := by
  by_cases e : a = b
  · subst e; simp
  · have h : ¬ (Sum.inl a : Key) = Sum.inl b := fun q => e (Sum.inl.inj q)
    rw [decide_eq_false h]
    exact (beq_eq_false_iff_ne.mpr e).symm
theorem key_rr (a b : Str) : decide ((Sum.inr a : Key) = Sum.inr b) = decide (a = b) := by
  by_cases e : a = b
  · subst e; simp
  · have h : ¬ (Sum.inr a : Key) = Sum.inr b := fun q => e (Sum.inr.inj q)
    rw [decide_eq_false h, decide_eq_false e]
theorem key_lr (a : Int) (b : Str) : decide ((Sum.inl a : Key) = Sum.inr b) = false := decide_eq_false (fun q => nomatch q)
theorem key_rl (a : Str) (b : Int) : decide ((Sum.inr a : Key) = Sum.inl b) = false := decide_eq_false (fun q => nomatch q)

def mixKind (prog : Program) (w : World) : PySem.KeyKind prog w Key where
  is := keyIs
  hash := keyH w
  inj := fun v a b ha hb => by
    rcases keyIs_shape ha with ⟨i, t, rfl, rfl⟩ | ⟨x, t, rfl, rfl⟩
    · rcases keyIs_shape hb with ⟨j, u, rfl, e⟩ | ⟨y, u, rfl, e⟩
      · injection e with e1 _; rw [e1]
      · exact nomatch e
    · rcases keyIs_shape hb with ⟨j, u, rfl, e⟩ | ⟨y, u, rfl, e⟩
      · exact nomatch e
      · injection e with e1 _; rw [e1]
  byValue := fun k v h => by
    rcases keyIs_shape h with ⟨i, t, rfl, rfl⟩ | ⟨x, t, rfl, rfl⟩ <;> rfl
  pyHash := fun hv h => by
    rcases keyIs_shape hv with ⟨i, t, rfl, rfl⟩ | ⟨x, t, rfl, rfl⟩
    · exact wpAny_pyHash_int h
    · exact wpAny_pyHash_str h
  eqBool := fun hu hv h => by
    rcases keyIs_shape hu with ⟨i, t, rfl, rfl⟩ | ⟨x, t, rfl, rfl⟩
    · rcases keyIs_shape hv with ⟨j, u, rfl, rfl⟩ | ⟨y, u, rfl, rfl⟩
      · rw [key_ll] at h; exact wpAny_eqBool_int h
      · rw [key_lr] at h; exact SeqAt.EqAt.int_str i t y u _ _ _ _ h
    · rcases keyIs_shape hv with ⟨j, u, rfl, rfl⟩ | ⟨y, u, rfl, rfl⟩
      · rw [key_rl] at h; exact SeqAt.EqAt.str_int x t j u _ _ _ _ h
      · rw [key_rr] at h; exact wpAny_eqBool_str h
  «strs» := fun k x t v h => by
    rcases keyIs_shape h with ⟨i, u, rfl, e⟩ | ⟨y, u, rfl, e⟩
    · exact nomatch e
    · injection e with e1 _
      subst e1
      cases v <;> rfl

theorem mixKind_str (prog : Program) (w : World) (x : Str) (t : Tok) : (mixKind prog w).is (.inr x) (.str x t) = true := keyIs_str x t
end L2

namespace L2
open PySem PySem.Spec PyProof.Rows

/-- a value, without the heap -/
inductive V where
  | non | bl (b : Bool) | int (i : Int) | str (x : Str) | byt (b : Array UInt8) | flt (b : UInt64) | ref (a : Addr) | ty (n : String)
  deriving DecidableEq

def RelV : V → Value → Prop
  | .non, u => u = Value.none
  | .bl b, u => u = Value.bool b
  | .int i, u => ∃ t, u = Value.int i t
  | .str x, u => ∃ t, u = Value.str x t
  | .byt b, u => ∃ t, u = Value.bytes b t
  | .flt b, u => ∃ t, u = Value.float b t
  | .ref a, u => u = Value.ref a
  | .ty n, u => u = Value.type n

abbrev Vals : List V → List Value → Prop := Paired RelV
theorem Vals.length {xs : List V} {us : List Value} (r : Vals xs us) : xs.length = us.length := Paired.length r
theorem Vals.get : ∀ {xs : List V} {us : List Value} {i : Nat} {x : V}, Vals xs us → xs[i]? = some x → ∃ u, us[i]? = some u ∧ RelV x u
  | _, _, _, _, .nil, e => by simp at e
  | _, _, 0, _, .cons r _, e => by simp at e; subst e; exact ⟨_, rfl, r⟩
  | _, _, i + 1, x, .cons _ t, e => by
    obtain ⟨u, h1, h2⟩ := Vals.get (i := i) (x := x) t (by simpa using e)
    exact ⟨u, by simpa using h1, h2⟩
theorem Vals.set {x : V} {u : Value} (r : RelV x u) : ∀ {xs : List V} {us : List Value} (i : Nat), Vals xs us → Vals (xs.set i x) (us.set i u)
  | _, _, _, .nil => .nil
  | _, _, 0, .cons _ t => .cons r t
  | _, _, i + 1, .cons q t => .cons q (Vals.set r i t)
theorem Vals.append : ∀ {xs ys : List V} {us ws : List Value}, Vals xs us → Vals ys ws → Vals (xs ++ ys) (us ++ ws)
  | _, _, _, _, .nil, s => s
  | _, _, _, _, .cons r t, s => .cons r (Vals.append t s)
theorem Vals.take : ∀ {xs : List V} {us : List Value} (n : Nat), Vals xs us → Vals (xs.take n) (us.take n)
  | _, _, 0, _ => .nil
  | _, _, _ + 1, .nil => .nil
  | _, _, n + 1, .cons r t => .cons r (Vals.take n t)
theorem Vals.drop : ∀ {xs : List V} {us : List Value} (n : Nat), Vals xs us → Vals (xs.drop n) (us.drop n)
  | _, _, 0, r => r
  | _, _, _ + 1, .nil => .nil
  | _, _, n + 1, .cons _ t => Vals.drop n t
def RelO : Option V → Option Value → Prop
  | some v, some u => RelV v u
  | none, none => True
  | _, _ => False
def KV {κ : Type} : List (κ × V) → List (κ × Value) → Prop := Paired fun (p : κ × V) (q : κ × Value) => p.1 = q.1 ∧ RelV p.2 q.2

/-- a key of a dict (00_mix): an int or a text -/
def kV : Key → V
  | .inl i => .int i
  | .inr x => .str x

/-- what stands at a tracked address -/
inductive HO where
  /-- a list -/
  | lst (xs : List V)
  /-- a tuple (never changes) -/
  | tup (xs : List V)
  /-- a dict whose keys are ints and texts; one whose keys are tuples of ints and texts (the empty one is both) -/
  | dK (kvs : List (Key × V)) | dT (kvs : List (List Key × V))
  /-- a set of ints: its members, its size -/
  | set (S : Int → Bool) (n : Nat)
  /-- an instance of the class at C, its dict at dx, its attributes -/
  | ins (C dx : Addr) (fs : List (Str × V))
  /-- the dict of the instance at x -/
  | own (x : Addr)
  /-- the dict of an exception -/
  | xd (fs : List (Str × V))
  /-- a bound method, f of x -/
  | met (f x : Addr)
  /-- a range object lo, lo + 1, .. below hi -/
  | rng (lo hi : Int)
  /-- a thing that is known to the object (the script; a dict while a loop walks it): read, never written while it is so -/
  | frz (o : Obj) (u : HO)
  /-- a code object's table -/
  | tbl (ps : Array Value)
  /-- any other thing, by what is true of its one object (a def of one's own: SetO a S n := HO.ext fun h => ..) -/
  | ext (φ : Heap → Prop)

abbrev Hp := Addr → Option HO
def upd (H : Hp) (a : Addr) (o : HO) : Hp := fun b => if b = a then some o else H b
theorem upd_same {H : Hp} {a : Addr} {o : HO} : upd H a o a = some o := by unfold upd; rw [if_pos rfl]
theorem upd_ne {H : Hp} {a b : Addr} {o : HO} (h : b ≠ a) : upd H a o b = H b := by unfold upd; rw [if_neg h]
theorem ne_of_none {H : Hp} {a b : Addr} {o : HO} (h : H a = some o) (h' : H b = none) : a ≠ b := by
  intro e; subst e; rw [h] at h'; cases h'

section
variable (P : Program) (w : World)
def ObjOk (H : Hp) (h : Heap) (a : Addr) : HO → Prop
  | .lst xs => xs.length ≤ sizeLine ∧ ∃ (its : List Value) (n : Nat), Vals xs its ∧ h.get? a = some { cls := .type "list", data := .seq its.toArray n }
  | .tup xs => xs.length ≤ sizeLine ∧ ∃ its : List Value, Vals xs its ∧ IsTup h a its.toArray
  | .dK kvs => kvs.length ≤ sizeLine ∧ (a == sysModules) = false ∧ ∃ vs, KV kvs vs ∧ h.DictOf (mixKind P w) a vs
  | .dT kvs => kvs.length ≤ sizeLine ∧ (a == sysModules) = false ∧ ∃ xs : List (List Key × Addr × Value),
      Paired (fun (p : List Key × V) (q : List Key × Addr × Value) => p.1 = q.1 ∧ H q.2.1 = some (.tup (p.1.map kV)) ∧ RelV p.2 q.2.2) kvs xs ∧
      ∃ o es ep, h.get? a = some o ∧ o.ExactDict ∧ o.data = .dict es ep ∧ es.toList = xs.map (entryOfKey (tupleKind (mixKind P w))) ∧ (xs.map (·.1)).Nodup
  | .set S n => h.SetOf (intKind P w) a S n
  | .ins C dx fs => H dx = some (.own a) ∧ fs.length ≤ 1000 ∧ dx ≠ a ∧ h.get? a = some (PySem.W.instObj C dx) ∧
      ∃ mA, h.Ns1 dx mA ∧ (∀ f, RelO (fs.lookup f) (mA f)) ∧ PySem.Within mA (fs.map (·.1))
  | .own _ => ∃ o, h.get? a = some o
  | .xd fs => ∃ mA, h.Ns1 a mA ∧ ∀ f, RelO (fs.lookup f) (mA f)
  | .rng lo hi => ∃ t u v, h.get? a = some { cls := .type "range", data := .fields #[.int lo t, .int hi u, .int 1 v] }
  | .frz o u => h.get? a = some o ∧ ObjOk H h a u
  | .tbl ps => h.get? a = some { cls := .none, data := .fields ps }
  | .met f x => h.get? a = some (PySem.W.methodObj (.ref f) (.ref x))
  | .ext φ => φ h ∧ (∃ o, h.get? a = some o) ∧ ∀ h1 h2 : Heap, φ h1 → (∀ o, h1.get? a = some o → h2.get? a = some o) → φ h2
/-- the abstract heap is held -/
def HOk (H : Hp) (h : Heap) : Prop := ∀ a o, H a = some o → ObjOk P w H h a o
end

section
variable {P : Program} {w : World} {H H' : Hp} {h h' : Heap} {a : Addr} {o : HO}
theorem ObjOk.lt (x : ObjOk P w H h a o) : a < h.objs.size := by
  cases o with
  | lst xs => obtain ⟨_, _, _, _, e⟩ := x; exact Heap.lt_size e
  | tup xs => obtain ⟨_, _, _, p⟩ := x; exact p.lt
  | dK kvs => obtain ⟨_, _, _, _, o, _, _, e, _⟩ := x; exact Heap.lt_size e
  | dT kvs => obtain ⟨_, _, _, _, o, _, _, e, _⟩ := x; exact Heap.lt_size e
  | set S n => obtain ⟨o, _, _, _, e, _⟩ := x; exact Heap.lt_size e
  | ins C dx fs => obtain ⟨_, _, _, e, _⟩ := x; exact Heap.lt_size e
  | own y => obtain ⟨_, e⟩ := x; exact Heap.lt_size e
  | xd fs => obtain ⟨_, ⟨_, _, _, e, _⟩, _⟩ := x; exact Heap.lt_size e
  | rng lo hi => obtain ⟨_, _, _, e⟩ := x; exact Heap.lt_size e
  | frz ob u => obtain ⟨e, _⟩ := x; exact Heap.lt_size e
  | tbl ps => exact Heap.lt_size (show h.get? a = some _ from x)
  | met f y => exact Heap.lt_size (show h.get? a = some _ from x)
  | ext φ => obtain ⟨_, ⟨_, e⟩, _⟩ := x; exact Heap.lt_size e
theorem Paired.mapP {α β : Type} {F G : α → β → Prop} : ∀ {l₁ : List α} {l₂ : List β}, Paired F l₁ l₂ → (∀ a b, F a b → G a b) → Paired G l₁ l₂
  | _, _, .nil, _ => .nil
  | _, _, .cons r t, f => .cons (f _ _ r) (Paired.mapP t f)
/-- what an object's description leans on: its own object, its own dict, the tuples -/
theorem ObjOk.stay (x : ObjOk P w H h a o) (k : ∀ b u, (b = a ∨ H b = some (.own a)) → h.get? b = some u → h'.get? b = some u)
    (ho : ∀ b, H b = some (.own a) → H' b = some (.own a)) (ht : ∀ b xs, H b = some (.tup xs) → H' b = some (.tup xs)) : ObjOk P w H' h' a o := by
  induction o with
  | lst xs => obtain ⟨z, its, n, r, e⟩ := x; exact ⟨z, its, n, r, k _ _ (.inl rfl) e⟩
  | tup xs => obtain ⟨z, its, r, ob, e, c⟩ := x; exact ⟨z, its, r, ob, k _ _ (.inl rfl) e, c⟩
  | dK kvs => obtain ⟨z, y, vs, r, ob, es, ep, e, c⟩ := x; exact ⟨z, y, vs, r, ob, es, ep, k _ _ (.inl rfl) e, c⟩
  | dT kvs =>
    obtain ⟨z, y, xs, r, ob, es, ep, e, c⟩ := x
    exact ⟨z, y, xs, Paired.mapP r fun p q z => ⟨z.1, ht _ _ z.2.1, z.2.2⟩, ob, es, ep, k _ _ (.inl rfl) e, c⟩
  | set S n => obtain ⟨ob, es, ep, t, e, c⟩ := x; exact ⟨ob, es, ep, t, k _ _ (.inl rfl) e, c⟩
  | ins C dx fs =>
    obtain ⟨d, z, ne, e, mA, ⟨od, es, ep, e2, c⟩, r⟩ := x
    exact ⟨ho _ d, z, ne, k _ _ (.inl rfl) e, mA, ⟨od, es, ep, k _ _ (.inr d) e2, c⟩, r⟩
  | own y => obtain ⟨ob, e⟩ := x; exact ⟨ob, k _ _ (.inl rfl) e⟩
  | xd fs => obtain ⟨mA, ⟨od, es, ep, e, c⟩, r⟩ := x; exact ⟨mA, ⟨od, es, ep, k _ _ (.inl rfl) e, c⟩, r⟩
  | rng lo hi => obtain ⟨t, u, v, e⟩ := x; exact ⟨t, u, v, k _ _ (.inl rfl) e⟩
  | frz ob u ih => obtain ⟨e, q⟩ := x; exact ⟨k _ _ (.inl rfl) e, ih q⟩
  | tbl ps =>
    have e : h.get? a = some { cls := .none, data := .fields ps } := x
    show h'.get? a = some { cls := .none, data := .fields ps }
    exact k a _ (.inl rfl) e
  | met f y =>
    have e : h.get? a = some (PySem.W.methodObj (.ref f) (.ref y)) := x
    show h'.get? a = some (PySem.W.methodObj (.ref f) (.ref y))
    exact k a _ (.inl rfl) e
  | ext φ => obtain ⟨p, ⟨o, e⟩, st⟩ := x; exact ⟨st _ _ p fun o q => k _ _ (.inl rfl) q, ⟨o, k _ _ (.inl rfl) e⟩, st⟩
theorem HOk.lt (x : HOk P w H h) (e : H a = some o) : a < h.objs.size := (x a o e).lt
theorem HOk.fresh (x : HOk P w H h) (e : h.objs.size ≤ a) : H a = none := by
  cases q : H a with
  | none => rfl
  | some u => exact absurd (Nat.lt_of_lt_of_le (x.lt q) e) (Nat.lt_irrefl _)
/-- every object of the heap is kept -/
theorem HOk.kept (x : HOk P w H h) (k : ∀ b u, h.get? b = some u → h'.get? b = some u) : HOk P w H h' := fun a o e =>
  (x a o e).stay (fun b u _ q => k b u q) (fun _ q => q) fun _ _ q => q
/-- a new object is laid and tracked -/
theorem HOk.laid (x : HOk P w H h) (k : ∀ b u, h.get? b = some u → h'.get? b = some u) (hp : h.objs.size ≤ a) (new : ObjOk P w (upd H a o) h' a o) : HOk P w (upd H a o) h' := fun b u e => by
  have hn := x.fresh hp
  by_cases hb : b = a
  · subst hb; rw [upd_same] at e; cases e; exact new
  · rw [upd_ne hb] at e
    exact (x b u e).stay (fun c v _ q => k c v q) (fun c q => by rw [upd_ne (ne_of_none q hn)]; exact q) fun c xs q => by rw [upd_ne (ne_of_none q hn)]; exact q
end

/-- what may be read as u: it is u, or a known u -/
def Rd (H : Hp) (a : Addr) (u : HO) : Prop := H a = some u ∨ ∃ o, H a = some (.frz o u)
theorem Rd.of {H : Hp} {a : Addr} {u : HO} (h : H a = some u) : Rd H a u := .inl h
theorem Rd.ok {P : Program} {w : World} {H : Hp} {h : Heap} {a : Addr} {u : HO} (r : Rd H a u) (x : HOk P w H h) : ObjOk P w H h a u := by
  rcases r with r | ⟨o, r⟩
  · exact x a u r
  · obtain ⟨_, q⟩ := x a _ r
    exact q
/-- what may be written -/
def Mut : Option HO → Prop
  | some (.lst _) => True
  | some (.dK _) => True
  | some (.dT _) => True
  | some (.set _ _) => True
  | some (.ins _ _ _) => True
  | some (.ext _) => True
  | _ => False
section
variable {P : Program} {w : World} {H : Hp} {h h' : Heap} {x e : Addr} {o' : HO}
/-- the object at e is changed: x itself, or the dict of the instance x -/
theorem HOk.write (ok : HOk P w H h) (mu : Mut (H x)) (he : e = x ∨ H e = some (.own x)) (k : ∀ b u, b ≠ e → h.get? b = some u → h'.get? b = some u) (heo : ∃ u, h'.get? e = some u)
    (new : ObjOk P w (upd H x o') h' x o') : HOk P w (upd H x o') h' := fun b u q => by
  have nown : ∀ c y, H c = some (.own y) → c ≠ x := fun c y r z => by subst z; rw [r] at mu; exact mu
  have ntup : ∀ c xs, H c = some (.tup xs) → c ≠ x := fun c xs r z => by subst z; rw [r] at mu; exact mu
  by_cases hb : b = x
  · subst hb; rw [upd_same] at q; cases q; exact new
  · rw [upd_ne hb] at q
    by_cases hbe : b = e
    · have q' : H b = some (.own x) := by
        rcases he with z | z
        · exact absurd (hbe.trans z) hb
        · rw [hbe]; exact z
      rw [q] at q'; cases q'
      obtain ⟨v, hv⟩ := heo
      exact ⟨v, by rw [hbe]; exact hv⟩
    · refine (ok b u q).stay (fun c v hc r => k c v ?_ r) (fun c r => by rw [upd_ne (nown c b r)]; exact r) fun c xs r => by rw [upd_ne (ntup c xs r)]; exact r
      rcases hc with rfl | hc
      · exact hbe
      · rintro rfl
        rcases he with z | z
        · exact nown c b hc z
        · rw [hc] at z; cases z; exact hb rfl
end

/-! ### kept unless tracked; of the frames at fs (the callers') the slots may change (an exception that passes writes there); of the records at ex (iterators) nothing is said -/
structure Un (fs ex : List Addr) (H H' : Hp) (h h' : Heap) : Prop where
  keep : ∀ b o, h.get? b = some o → H b = none → b ∉ fs → b ∉ ex → h'.get? b = some o
  slot : ∀ b o, h.get? b = some o → H b = none → b ∈ fs → b ∉ ex → ∃ sl, h'.get? b = some { o with slots := sl }
  free : ∀ b o, h.get? b = some o → H b = none → b ∉ ex → H' b = none
  there : ∀ b o, h.get? b = some o → b ∉ ex → ∃ o', h'.get? b = some o'
  tups : ∀ b xs, H b = some (.tup xs) → H' b = some (.tup xs)
  frzs : ∀ b o u, H b = some (.frz o u) → H' b = some (.frz o u)
  tbls : ∀ b ps, H b = some (.tbl ps) → ∃ more, H' b = some (.tbl (ps ++ more))
section
variable {fs fs' ex ex' : List Addr} {H H1 H2 : Hp} {h h1 h2 h' : Heap} {a x e : Addr} {o : HO}
theorem Un.any (u : Un fs ex H H1 h h1) {b : Addr} {ob : Obj} (q : h.get? b = some ob) (n : H b = none) (hx : b ∉ ex) : ∃ sl, h1.get? b = some { ob with slots := sl } := by
  by_cases hb : b ∈ fs
  · exact u.slot b ob q n hb hx
  · exact ⟨ob.slots, u.keep b ob q n hb hx⟩
theorem Un.trans (a : Un fs ex H H1 h h1) (b : Un fs ex H1 H2 h1 h2) : Un fs ex H H2 h h2 where
  keep := fun c ob q n hc hx => b.keep c ob (a.keep c ob q n hc hx) (a.free c ob q n hx) hc hx
  slot := fun c ob q n hc hx => by
    obtain ⟨sl, e1⟩ := a.slot c ob q n hc hx
    obtain ⟨sl', e2⟩ := b.slot c _ e1 (a.free c ob q n hx) hc hx
    exact ⟨sl', e2⟩
  free := fun c ob q n hx => by
    obtain ⟨o', e1⟩ := a.there c ob q hx
    exact b.free c o' e1 (a.free c ob q n hx) hx
  there := fun c ob q hx => by
    obtain ⟨o', e1⟩ := a.there c ob q hx
    exact b.there c o' e1 hx
  tups := fun c xs q => b.tups c xs (a.tups c xs q)
  frzs := fun c ob xs q => b.frzs c ob xs (a.frzs c ob xs q)
  tbls := fun c ps q => by
    obtain ⟨m1, e1⟩ := a.tbls c ps q
    obtain ⟨m2, e2⟩ := b.tbls c _ e1
    exact ⟨m1 ++ m2, by rw [e2, Array.append_assoc]⟩
theorem Un.kept (k : ∀ b u, h.get? b = some u → h'.get? b = some u) : Un fs ex H H h h' :=
  ⟨fun b ob q _ _ _ => k b ob q, fun b ob q _ _ _ => ⟨ob.slots, k b ob q⟩, fun _ _ _ n _ => n, fun b ob q _ => ⟨ob, k b ob q⟩, fun _ _ q => q, fun _ _ _ q => q, fun _ ps q => ⟨#[], by rw [q]; simp⟩⟩
theorem Un.refl : Un fs ex H H h h := Un.kept fun _ _ q => q
theorem Un.laid (k : ∀ b u, h.get? b = some u → h'.get? b = some u) (hp : h.objs.size ≤ a) (hn : H a = none) : Un fs ex H (upd H a o) h h' where
  keep := fun b u q _ _ _ => k b u q
  slot := fun b u q _ _ _ => ⟨u.slots, k b u q⟩
  free := fun b u q n _ => by rw [upd_ne (Nat.ne_of_lt (Nat.lt_of_lt_of_le (Heap.lt_size q) hp))]; exact n
  there := fun b u q _ => ⟨u, k b u q⟩
  tups := fun b xs q => by rw [upd_ne (ne_of_none q hn)]; exact q
  frzs := fun b u xs q => by rw [upd_ne (ne_of_none q hn)]; exact q
  tbls := fun b ps q => ⟨#[], by rw [upd_ne (ne_of_none q hn), q]; simp⟩
theorem Un.write (mu : Mut (H x)) (he : e = x ∨ H e = some (.own x)) (k : ∀ b u, b ≠ e → h.get? b = some u → h'.get? b = some u) (heo : ∃ u, h'.get? e = some u) : Un fs ex H (upd H x o) h h' := by
  have hx : ∀ b, H b = none → b ≠ x := fun b n z => by subst z; rw [n] at mu; exact mu
  have hb : ∀ b, H b = none → b ≠ e := fun b n z => by
    subst z
    rcases he with r | r
    · exact hx b n r
    · rw [n] at r; cases r
  have hm : ∀ b u, H b = some u → ¬ Mut (some u) → b ≠ x := fun b u q nm z => by subst z; rw [q] at mu; exact nm mu
  refine ⟨fun b u q n _ _ => k b u (hb b n) q, fun b u q n _ _ => ⟨u.slots, k b u (hb b n) q⟩, fun b u q n _ => by rw [upd_ne (hx b n)]; exact n, fun b u q _ => ?_,
    fun b xs q => by rw [upd_ne (hm b _ q fun z => z)]; exact q, fun b u xs q => by rw [upd_ne (hm b _ q fun z => z)]; exact q, fun b ps q => ⟨#[], by rw [upd_ne (hm b _ q fun z => z), q]; simp⟩⟩
  by_cases hbe : b = e
  · subst hbe; exact heo
  · exact ⟨u, k b u hbe q⟩
theorem Un.mono (u : Un fs ex H H1 h h1) (hs : ∀ b ∈ fs, b ∈ fs') (hx : ∀ b ∈ ex, b ∈ ex') : Un fs' ex' H H1 h h1 :=
  ⟨fun b ob q n hb he => u.keep b ob q n (fun z => hb (hs b z)) fun z => he (hx b z), fun _ _ q n _ he => u.any q n fun z => he (hx _ z), fun b ob q n he => u.free b ob q n fun z => he (hx b z), fun b ob q he => u.there b ob q fun z => he (hx b z), u.tups, u.frzs, u.tbls⟩
end

/-! ### the heap without what is tracked -/
def trk (h : Heap) (H : Hp) : List Addr := (List.range h.objs.size).filter fun a => (H a).isSome
def hidT (h : Heap) (H : Hp) : Heap := PySem.W.hideAll h (trk h H)
theorem hidT_size (h : Heap) (H : Hp) : (hidT h H).objs.size = h.objs.size := PySem.W.hideAll_size _ _
theorem hidT_get {h : Heap} {H : Hp} {b : Addr} {o : Obj} (e : h.get? b = some o) (n : H b = none) : (hidT h H).get? b = some o :=
  PySem.W.hideAll_get _ e fun hm => by
    have q : (H b).isSome = true := (List.mem_filter.mp hm).2
    rw [n] at q; simp at q
theorem of_hidT {h : Heap} {H : Hp} {b : Addr} {o : Obj} (e : (hidT h H).get? b = some o) : h.get? b = some o ∧ H b = none := by
  have e' : h.get? b = some o := PySem.W.of_hideAll (trk h H) e
  refine ⟨e', ?_⟩
  cases q : H b with
  | none => rfl
  | some x =>
    have hm : b ∈ trk h H := List.mem_filter.mpr ⟨List.mem_range.mpr (Heap.lt_size e'), by simp [q]⟩
    have z : (hidT h H).get? b = none := PySem.W.hideAll_none (trk h H) hm
    rw [z] at e; cases e

/-! ### OpenK's ledger, filled with every new object but one -/
def allNews (g h : Heap) (L : Addr) : List (Addr × Obj) := (List.range h.objs.size).filterMap fun a => if a = L ∨ (g.get? a).isSome = true then none else (h.get? a).map fun o => (a, o)
def rest (g h : Heap) (L d : Addr) : List (Addr × Obj) := (allNews g h L).filter fun p => decide (p.1 ≠ d)
end L2

namespace L2
open PySem PySem.Spec PyProof.Rows

/-- the module's facts, over the base: the heap at the law's entry without what is tracked there -/
structure Mod (K : PySem.W.Frag) (mg : Str → Option Value) (base : Heap) : Prop where
  kin : K.In base
  glob : base.Ns mainGlobals mg
  blt : ∃ mb, base.Ns builtinsNs mb ∧ ∀ x : Str, x ≠ "__name__" → mb x = bootBuiltins x
  nolimit : base.NoLimit

/-- what is being handled: nothing, or an exception on which no context hangs, known to the object -/
def HdOk (A : Around) (H : Hp) : Prop := A.handled = none ∨ ∃ (a : Addr) (o : Obj) (vs : Array Value), A.handled = some (.ref a) ∧ H a = some (.frz o (.own 0)) ∧ o.data = .fields vs ∧ vs[2]? = some .none ∧ ∃ C, o.cls = .ref C
theorem HdOk.same {A : Around} {H H' : Hp} (x : HdOk A H) (k : ∀ b o u, H b = some (.frz o u) → H' b = some (.frz o u)) : HdOk A H' := by
  rcases x with x | ⟨a, o, vs, h1, h2, h3⟩
  · exact .inl x
  · exact .inr ⟨a, o, vs, h1, k _ _ _ h2, h3⟩
/-- the context: a def's body (or a comprehension's block) running. base: fixed through the whole law; s₀, H₀: the entry; outer: the frames whose slots others may change (a def's callers); stack: all frames that run;
   ex: iterators that were made ahead of the entry and are walked here (a comprehension's); fn: the names whose cells were made at the entry (a def: all; a comprehension's block: its own); calm: not within an except suite; pn: pins that every state bears; xe: what is wanted of an exception that leaves the code -/
structure Cx where
  prog : Program
  w : World
  K : PySem.W.Frag
  mg : Str → Option Value
  base : Heap
  A : Around
  N : List Str
  s₀ : Shared
  H₀ : Hp
  env : Env
  outer : List Env
  stack : List Env
  ex : List Addr
  fn : Str → Bool
  calm : Bool
  pn : List (Addr × Obj)
  xe : Value → Shared → Prop
/-- the callers' frames -/
def frs (l : List Env) : List Addr := l.filterMap (·.frame)
abbrev Cx.fs (X : Cx) : List Addr := frs X.outer

def Vis (sc : Scope) (x : Str) : Prop := sc.names.lookup x = some .local ∨ sc.names.lookup x = some .cell ∨ sc.names.lookup x = some .free
def Loc (sc : Scope) (x : Str) : Prop := sc.names.lookup x = some .local ∨ sc.names.lookup x = some .cell
def Look (env : Env) (h : Heap) (m : Str → Option Value) (x : Str) (u : Value) : Prop :=
  (env.kindOf x = some .local ∧ m x = some u) ∨ ((env.kindOf x = some .cell ∨ env.kindOf x = some .free) ∧ ∃ c, env.cells.lookup x = some c ∧ h.IsCell c (some u))

structure Cx.Ok (X : Cx) : Prop where
  mod : Mod X.K X.mg X.base
  kind : X.env.scope.kind = .function
  glob : X.env.globals = mainGlobals
  blt : X.env.builtins = builtinsNs
  above : X.s₀.heap.objs.size ≤ X.env.locals
  inj : ∀ x y c, X.env.cells.lookup x = some c → X.env.cells.lookup y = some c → x = y
  has : ∀ x, (X.env.kindOf x = some .cell ∨ X.env.kindOf x = some .free) → ∃ c, X.env.cells.lookup x = some c
  cab : ∀ x c, X.fn x = true → X.env.cells.lookup x = some c → X.s₀.heap.objs.size ≤ c
  hd : X.calm = true → X.A.handled = none
  frames : X.A.frames = some X.stack
  stk : X.stack = X.outer ∨ (X.stack = X.env :: X.outer ∧ X.env.frame = some X.env.locals)
  exf : ∀ b ∈ X.ex, b ≠ X.env.locals ∧ ∀ x c, X.env.cells.lookup x = some c → c ≠ b
  bs : ∀ b o, X.base.get? b = some o → X.s₀.heap.get? b = some o ∧ X.H₀ b = none
  bsz : X.base.objs.size ≤ X.s₀.heap.objs.size
  noex : ∀ b o, X.base.get? b = some o → b ∉ X.ex
  exfs : ∀ b ∈ X.ex, b ∉ X.fs
  funs : X.s₀.heap.FunFrames X.base X.outer
  frf : ∀ b ∈ X.fs, X.H₀ b = none

structure Inv (X : Cx) (pins : List (Addr × Obj)) (σ : List (Option V)) (H : Hp) (s : Shared) : Prop where
  ok : X.Ok
  os : s.os = X.s₀.os
  bare : AllBare s.gens
  base : Un X.fs X.ex X.H₀ H X.s₀.heap s.heap
  loc : ∃ m, s.heap.Ns X.env.locals m ∧ ∀ (i : Nat) (x : Str) (v : V), X.N[i]? = some x → σ[i]? = some (some v) → Vis X.env.scope x → ∃ u, RelV v u ∧ Look X.env s.heap m x u
  cell : ∀ x c, X.env.cells.lookup x = some c → ∃ v, s.heap.IsCell c v
  free : H X.env.locals = none
  freeC : ∀ x c, X.env.cells.lookup x = some c → H c = none
  pin : ∀ p ∈ X.pn ++ pins, s.heap.get? p.1 = some p.2 ∧ H p.1 = none ∧ p.1 ≠ X.env.locals ∧ p.1 ∉ X.fs ∧ ∀ v, p.2.data ≠ .cell v
  hok : HOk X.prog X.w H s.heap
  len : σ.length = X.N.length
  hdk : HdOk X.A H

section
variable {X : Cx} {pins : List (Addr × Obj)} {σ : List (Option V)} {H H' : Hp} {s : Shared} {h' : Heap}

theorem Cx.Ok.nofr (ok : X.Ok) {b : Addr} {o : Obj} (e : X.base.get? b = some o) : b ∉ X.fs := fun hb => by
  have := (ok.funs.mem hb).1
  rw [e] at this; cases this
theorem Inv.bs (I : Inv X pins σ H s) : ∀ b o, X.base.get? b = some o → s.heap.get? b = some o ∧ H b = none := fun b o e =>
  ⟨I.base.keep b o (I.ok.bs b o e).1 (I.ok.bs b o e).2 (I.ok.nofr e) (I.ok.noex b o e), I.base.free b o (I.ok.bs b o e).1 (I.ok.bs b o e).2 (I.ok.noex b o e)⟩
theorem Inv.bk (I : Inv X pins σ H s) : ∀ b o, X.base.get? b = some o → s.heap.get? b = some o := fun b o e => (I.bs b o e).1
theorem Inv.mod (I : Inv X pins σ H s) : Mod X.K X.mg X.base := I.ok.mod
theorem Inv.kIn (I : Inv X pins σ H s) : X.K.In s.heap := I.ok.mod.kin.keeps I.bk
theorem Inv.nolimit (I : Inv X pins σ H s) : s.heap.NoLimit := I.ok.mod.nolimit.keeps I.bk
/-- the frame over the base: for OpenK's rules (K.In X.base is I.mod.kin) -/
theorem Inv.fr (I : Inv X pins σ H s) : ∃ m, Fr X.base X.env.locals s.heap m :=
  let ⟨m, hn, _⟩ := I.loc
  ⟨m, hn, I.bk, Nat.le_trans I.ok.bsz I.ok.above⟩
theorem Inv.lt (I : Inv X pins σ H s) : X.env.locals < s.heap.objs.size := let ⟨_, hn, _⟩ := I.loc; hn.lt
theorem Inv.sz (I : Inv X pins σ H s) : X.s₀.heap.objs.size ≤ s.heap.objs.size := Nat.le_trans I.ok.above (Nat.le_of_lt I.lt)
theorem Inv.nofs (I : Inv X pins σ H s) {a : Addr} (h : s.heap.objs.size ≤ a) : a ∉ X.fs := fun hb => by
  obtain ⟨_, o, ho, _⟩ := I.ok.funs.mem hb
  exact absurd (Nat.lt_of_lt_of_le (Heap.lt_size ho) (Nat.le_trans I.sz h)) (Nat.lt_irrefl _)
theorem Inv.cne (I : Inv X pins σ H s) : ∀ x c, X.env.cells.lookup x = some c → c ≠ X.env.locals := fun x c e z => by
  obtain ⟨v, o, ho, hd⟩ := I.cell x c e
  obtain ⟨m, ⟨o', es, ep, ho', hd', _⟩, _⟩ := I.loc
  rw [z, ho'] at ho; cases ho; rw [hd'] at hd; cases hd
theorem Inv.funs (I : Inv X pins σ H s) : s.heap.FunFrames X.base X.outer := by
  have all : ∀ (l : List Env), (∀ b ∈ frs l, b ∈ X.fs) → X.s₀.heap.FunFrames X.base l → s.heap.FunFrames X.base l := by
    intro l
    induction l with
    | nil => intro _ _; trivial
    | cons env r ih =>
      intro hs hl
      obtain ⟨hk, ⟨L, o, hf, hn, ho, hd⟩, hr⟩ := hl
      have hL : L ∈ X.fs := hs L (by unfold frs; rw [List.filterMap_cons, hf]; exact List.mem_cons_self)
      obtain ⟨sl, e⟩ := I.base.slot L o ho (I.ok.frf L hL) hL fun z => I.ok.exfs L z hL
      exact ⟨hk, ⟨L, _, hf, hn, e, hd⟩, ih (fun b hb => hs b (by unfold frs; rw [List.filterMap_cons, hf]; exact List.mem_cons_of_mem _ hb)) hr⟩
  exact all X.outer (fun _ hb => hb) I.ok.funs

/-- the frames that run, for a call -/
theorem Inv.stack (I : Inv X pins σ H s) : s.heap.FunFrames X.base X.stack := by
  rcases I.ok.stk with e | ⟨e, hf⟩
  · rw [e]; exact I.funs
  · rw [e]
    obtain ⟨m, hn, _⟩ := I.loc
    refine .cons (by rw [I.ok.kind]; decide) hf hn ?_ I.funs
    exact Heap.get?_none_of_le (Nat.le_trans I.ok.bsz I.ok.above)
theorem Inv.stkSub (I : Inv X pins σ H s) : ∀ b ∈ frs X.stack, b ∈ X.env.locals :: X.fs := fun b hb => by
  rcases I.ok.stk with e | ⟨e, hf⟩
  · rw [e] at hb; exact List.mem_cons_of_mem _ hb
  · rw [e] at hb
    unfold frs at hb
    rw [List.filterMap_cons, hf] at hb
    exact hb
theorem Inv.stkFree (I : Inv X pins σ H s) : ∀ b ∈ frs X.stack, H b = none := fun b hb => by
  rcases List.mem_cons.mp (I.stkSub b hb) with e | hb
  · rw [e]; exact I.free
  · obtain ⟨_, o, ho, _⟩ := I.ok.funs.mem hb
    exact I.base.free b o ho (I.ok.frf b hb) fun z => I.ok.exfs b z hb

/-- THE STEP: the untracked objects but the frame and the records at ch are kept (the callers' frames up to slots), the frame's map is kept, the new abstract heap is held -/
theorem Inv.step {g' : Array GenState} {t' : Nat} {d' : Drawn} {ch : List Addr} (I : Inv X pins σ H s)
    (hch : ∀ b ∈ ch, (b ∈ X.ex ∨ X.s₀.heap.objs.size ≤ b) ∧ b ≠ X.env.locals ∧ (∀ x c, X.env.cells.lookup x = some c → c ≠ b) ∧ ∀ p ∈ X.pn ++ pins, p.1 ≠ b)
    (keep : ∀ b o, b ≠ X.env.locals → b ∉ X.fs → b ∉ ch → s.heap.get? b = some o → H b = none → h'.get? b = some o)
    (slot : ∀ b o, b ≠ X.env.locals → b ∈ X.fs → b ∉ ch → s.heap.get? b = some o → H b = none → ∃ sl, h'.get? b = some { o with slots := sl }) (free : ∀ b o, b ∉ ch → s.heap.get? b = some o → H b = none → H' b = none)
    (there : ∀ b o, b ∉ ch → s.heap.get? b = some o → ∃ o', h'.get? b = some o')
    (tups : ∀ b xs, H b = some (.tup xs) → H' b = some (.tup xs)) (frzs : ∀ b o u, H b = some (.frz o u) → H' b = some (.frz o u)) (tbls : ∀ b ps, H b = some (.tbl ps) → ∃ more, H' b = some (.tbl (ps ++ more)))
    (ns : ∀ m, s.heap.Ns X.env.locals m → h'.Ns X.env.locals m) (hok : HOk X.prog X.w H' h') (hg : AllBare g') :
    Inv X pins σ H' { s with heap := h', gens := g', drawn := d', toks := t' } := by
  have neL : ∀ b o, X.s₀.heap.get? b = some o → b ≠ X.env.locals := fun b o e => Nat.ne_of_lt (Nat.lt_of_lt_of_le (Heap.lt_size e) I.ok.above)
  have neC : ∀ b o, X.s₀.heap.get? b = some o → b ∉ X.ex → b ∉ ch := fun b o e hx hb => by
    rcases (hch b hb).1 with z | z
    · exact hx z
    · exact absurd (Nat.lt_of_lt_of_le (Heap.lt_size e) z) (Nat.lt_irrefl _)
  have cellK : ∀ x c, X.env.cells.lookup x = some c → ∀ v, s.heap.IsCell c v → h'.IsCell c v := fun x c e v ⟨o, ho, hd⟩ => by
    have nch : c ∉ ch := fun z => (hch c z).2.2.1 x c e rfl
    by_cases hc : c ∈ X.fs
    · obtain ⟨sl, q⟩ := slot c o (I.cne x c e) hc nch ho (I.freeC x c e)
      exact ⟨_, q, hd⟩
    · exact ⟨o, keep c o (I.cne x c e) hc nch ho (I.freeC x c e), hd⟩
  refine ⟨I.ok, I.os, hg, ⟨fun b o e n hb hx => ?_, fun b o e n hb hx => ?_, fun b o e n hx => ?_, fun b o e hx => ?_, fun b xs e => tups b xs (I.base.tups b xs e), fun b o xs e => frzs b o xs (I.base.frzs b o xs e), fun b ps e => ?_⟩, ?_, fun x c e => ?_, ?_, fun x c e => ?_, fun p hp => ?_, hok, I.len, I.hdk.same frzs⟩
  · exact keep b o (neL b o e) hb (neC b o e hx) (I.base.keep b o e n hb hx) (I.base.free b o e n hx)
  · obtain ⟨sl, e1⟩ := I.base.slot b o e n hb hx
    obtain ⟨sl', e2⟩ := slot b _ (neL b o e) hb (neC b o e hx) e1 (I.base.free b o e n hx)
    exact ⟨sl', e2⟩
  · obtain ⟨o', e1⟩ := I.base.there b o e hx
    exact free b o' (neC b o e hx) e1 (I.base.free b o e n hx)
  · obtain ⟨o', e1⟩ := I.base.there b o e hx
    exact there b o' (neC b o e hx) e1
  · obtain ⟨m1, e1⟩ := I.base.tbls b ps e
    obtain ⟨m2, e2⟩ := tbls b _ e1
    exact ⟨m1 ++ m2, by rw [e2, Array.append_assoc]⟩
  · obtain ⟨m, hn, hl⟩ := I.loc
    refine ⟨m, ns m hn, fun i x v e1 e2 e3 => ?_⟩
    obtain ⟨u, r, l⟩ := hl i x v e1 e2 e3
    refine ⟨u, r, ?_⟩
    rcases l with l | ⟨k, c, e, z⟩
    · exact .inl l
    · exact .inr ⟨k, c, e, cellK x c e _ z⟩
  · obtain ⟨v, z⟩ := I.cell x c e
    exact ⟨v, cellK x c e v z⟩
  · obtain ⟨m, ⟨o, _, _, ho, _⟩, _⟩ := I.loc
    exact free _ o (fun z => (hch _ z).2.1 rfl) ho I.free
  · obtain ⟨v, o, ho, hd⟩ := I.cell x c e
    exact free c o (fun z => (hch c z).2.2.1 x c e rfl) ho (I.freeC x c e)
  · obtain ⟨e, n, ne, nf, d⟩ := I.pin p hp
    have nch : p.1 ∉ ch := fun z => (hch p.1 z).2.2.2 p hp rfl
    exact ⟨keep p.1 p.2 ne nf nch e n, free p.1 p.2 nch e n, ne, nf, d⟩
/-- .. where the frame's own object is kept too -/
theorem Inv.un {t' : Nat} (I : Inv X pins σ H s) (u : Un X.fs [] H H' s.heap h') (hok : HOk X.prog X.w H' h') : Inv X pins σ H' { s with heap := h', toks := t' } := by
  obtain ⟨m, ⟨o, es, ep, ho, r⟩, _⟩ := id I.loc
  obtain ⟨sl, hL⟩ := u.any ho I.free (by simp)
  exact I.step (g' := s.gens) (d' := s.drawn) (ch := []) (fun _ z => nomatch z) (fun b o _ hb _ e n => u.keep b o e n hb (by simp)) (fun b o _ hb _ e n => u.slot b o e n hb (by simp)) (fun b o _ e n => u.free b o e n (by simp)) (fun b o _ e => u.there b o e (by simp)) u.tups u.frzs u.tbls (fun m' hm => by
    obtain ⟨o', es', ep', ho', r'⟩ := hm
    rw [ho] at ho'; cases ho'
    exact ⟨_, es', ep', hL, r'⟩) hok I.bare
/-- behind a call (or a comprehension's block): the slots of this frame may have changed too, the records at ch may have turned -/
theorem Inv.call {g' : Array GenState} {t' : Nat} {d' : Drawn} {ch : List Addr} (I : Inv X pins σ H s) (u : Un (frs X.stack) ch H H' s.heap h') (hok : HOk X.prog X.w H' h') (hg : AllBare g')
    (hch : ∀ b ∈ ch, (b ∈ X.ex ∨ X.s₀.heap.objs.size ≤ b) ∧ b ≠ X.env.locals ∧ (∀ x c, X.env.cells.lookup x = some c → c ≠ b) ∧ ∀ p ∈ X.pn ++ pins, p.1 ≠ b) :
    Inv X pins σ H' { s with heap := h', gens := g', drawn := d', toks := t' } := by
  obtain ⟨m, ⟨o, es, ep, ho, r⟩, _⟩ := id I.loc
  obtain ⟨sl, hL⟩ := u.any ho I.free fun z => (hch _ z).2.1 rfl
  exact I.step (ch := ch) hch (fun b o hL hb hc e n => u.keep b o e n (fun z => (List.mem_cons.mp (I.stkSub b z)).elim hL hb) hc) (fun b o _ _ hc e n => u.any e n hc) (fun b o hc e n => u.free b o e n hc) (fun b o hc e => u.there b o e hc) u.tups u.frzs u.tbls (fun m' hm => by
    obtain ⟨o', es', ep', ho', r'⟩ := hm
    rw [ho] at ho'; cases ho'
    exact ⟨_, es', ep', hL, r'⟩) hok hg
/-- an untracked record of ours (an iterator) has turned -/
theorem Inv.turned {t' : Nat} {it : Addr} (I : Inv X pins σ H s) (k : ∀ b o, b ≠ it → s.heap.get? b = some o → h'.get? b = some o) (hn : H it = none) (hL : it ≠ X.env.locals)
    (h1 : it ∈ X.ex ∨ X.s₀.heap.objs.size ≤ it) (h2 : ∀ x c, X.env.cells.lookup x = some c → c ≠ it) (h3 : ∀ p ∈ X.pn ++ pins, p.1 ≠ it) : Inv X pins σ H { s with heap := h', toks := t' } := by
  have nit : ∀ b u, H b = some u → b ≠ it := fun b u e z => by rw [z, hn] at e; cases e
  refine I.step (g' := s.gens) (d' := s.drawn) (ch := [it]) (fun b hb => ?_) (fun b o _ _ hc e _ => k b o (fun z => hc (by simp [z])) e) (fun b o _ _ hc e _ => ⟨o.slots, k b o (fun z => hc (by simp [z])) e⟩) (fun _ _ _ _ n => n)
    (fun b o hc e => ⟨o, k b o (fun z => hc (by simp [z])) e⟩) (fun _ _ e => e) (fun _ _ _ e => e) (fun b ps e => ⟨#[], by rw [e]; simp⟩) (fun m hm => ?_) (fun b u e => ?_) I.bare
  · have e : b = it := by simpa using hb
    subst e
    exact ⟨h1, hL, h2, h3⟩
  · obtain ⟨o, es, ep, ho, r⟩ := hm
    exact ⟨o, es, ep, k _ o (Ne.symm hL) ho, r⟩
  · refine (I.hok b u e).stay (fun c v hc q => k c v ?_ q) (fun _ q => q) fun _ _ q => q
    rcases hc with z | z
    · rw [z]; exact nit b u e
    · exact nit c _ z
theorem Inv.tok (I : Inv X pins σ H s) (t : Nat) : Inv X pins σ H { s with toks := t } := I.un (h' := s.heap) (t' := t) Un.refl I.hok
/-- all objects kept -/
theorem Inv.kept {t' : Nat} (I : Inv X pins σ H s) (k : ∀ b u, s.heap.get? b = some u → h'.get? b = some u) : Inv X pins σ H { s with heap := h', toks := t' } := I.un (Un.kept k) (I.hok.kept k)
/-- a new object laid and tracked -/
theorem Inv.laid {a : Addr} {o : HO} {t' : Nat} (I : Inv X pins σ H s) (k : ∀ b u, s.heap.get? b = some u → h'.get? b = some u) (hp : s.heap.objs.size ≤ a) (new : ObjOk X.prog X.w (upd H a o) h' a o) :
    Inv X pins σ (upd H a o) { s with heap := h', toks := t' } := I.un (Un.laid k hp (I.hok.fresh hp)) (I.hok.laid k hp new)
/-- an object written -/
theorem Inv.write {x e : Addr} {o : HO} {t' : Nat} (I : Inv X pins σ H s) (mu : Mut (H x)) (he : e = x ∨ H e = some (.own x)) (k : ∀ b u, b ≠ e → s.heap.get? b = some u → h'.get? b = some u) (heo : ∃ u, h'.get? e = some u)
    (new : ObjOk X.prog X.w (upd H x o) h' x o) : Inv X pins σ (upd H x o) { s with heap := h', toks := t' } := I.un (Un.write mu he k heo) (I.hok.write mu he k heo new)
/-- forgetting slots, pins -/
theorem Inv.weak {σ' : List (Option V)} (I : Inv X pins σ H s) (hl : σ'.length = σ.length) (w : ∀ (i : Nat) v, σ'[i]? = some (some v) → σ[i]? = some (some v)) : Inv X pins σ' H s :=
  ⟨I.ok, I.os, I.bare, I.base, let ⟨m, hn, hl'⟩ := I.loc; ⟨m, hn, fun i x v e1 e2 e3 => hl' i x v e1 (w i v e2) e3⟩, I.cell, I.free, I.freeC, I.pin, I.hok, hl.trans I.len, I.hdk⟩
theorem Inv.pins_of {pins' : List (Addr × Obj)} (I : Inv X pins σ H s) (h : ∀ p ∈ pins', s.heap.get? p.1 = some p.2 ∧ H p.1 = none ∧ p.1 ≠ X.env.locals ∧ p.1 ∉ X.fs ∧ ∀ v, p.2.data ≠ .cell v) : Inv X pins' σ H s :=
  ⟨I.ok, I.os, I.bare, I.base, I.loc, I.cell, I.free, I.freeC, fun p hp => (List.mem_append.mp hp).elim (fun z => I.pin p (List.mem_append_left _ z)) (h p), I.hok, I.len, I.hdk⟩

theorem nodup_ix {N : List Str} (hN : N.Nodup) {i j : Nat} {x : Str} (a : N[i]? = some x) (b : N[j]? = some x) : i = j := by
  obtain ⟨h1, e1⟩ := List.getElem?_eq_some_iff.mp a
  obtain ⟨h2, e2⟩ := List.getElem?_eq_some_iff.mp b
  exact (List.getElem_inj hN).mp (e1.trans e2.symm)

/-- a name is stored; what changed -/
theorem store_ok2 {M : Model} {A : Around} {E : Value → Shared → Prop} {i : Nat} {x : Str} {v : V} {u : Value} {Q : Unit → Shared → Prop} (I : Inv X pins σ H s) (hN : X.N.Nodup) (hi : X.N[i]? = some x) (hx : Loc X.env.scope x) (r : RelV v u)
    (h : ∀ s', Inv X pins (σ.set i (some v)) H s' → (∃ a, Heap.SameBut a s.heap s'.heap ∧ (a = X.env.locals ∨ X.env.cells.lookup x = some a)) → Q () s') (hf : X.fn x = true ∨ X.env.scope.names.lookup x = some .local := by first | exact .inl rfl | exact .inr rfl | assumption) : wpAny M A (storeName X.env x u) Q E s := by
  obtain ⟨m, hn, hl⟩ := id I.loc
  have hcls : (X.env.scope.kind == .class || (X.env.scope.kind == .module && X.env.locals != X.env.globals)) = false := by rw [I.ok.kind]; rfl
  have hiσ : i < σ.length := by rw [I.len]; exact (List.getElem?_eq_some_iff.mp hi).1
  have cne := I.cne
  have tracked : ∀ {a : Addr} {h' : Heap}, (∃ o, s.heap.get? a = some o ∧ H a = none) → Heap.SameBut a s.heap h' → HOk X.prog X.w H h' := fun {a h'} ha hs b ob e => by
    obtain ⟨_, _, hfree⟩ := ha
    refine (I.hok b ob e).stay (fun c w' hc q => (hs.2 c ?_).trans q) (fun _ q => q) fun _ _ q => q
    rintro rfl
    rcases hc with rfl | hc
    · rw [hfree] at e; cases e
    · rw [hfree] at hc; cases hc
  rcases hx with hk | hk
  · refine wpAny_storeName_local hk hn (fun h' hn' hs => ?_) hcls
    obtain ⟨oL, _, _, hoL, _⟩ := id hn
    refine h _ ⟨I.ok, I.os, I.bare, ⟨fun b o e n hb hx => ?_, fun b o e n hb hx => ?_, I.base.free, fun b o e hx => ?_, I.base.tups, I.base.frzs, I.base.tbls⟩, ⟨_, hn', fun j y v' e1 e2 e3 => ?_⟩, fun y c e => ?_, I.free, I.freeC, fun p hp => ?_, tracked ⟨oL, hoL, I.free⟩ hs, by simpa using I.len, I.hdk⟩ ⟨_, hs, .inl rfl⟩
    · exact (hs.2 b (Nat.ne_of_lt (Nat.lt_of_lt_of_le (Heap.lt_size e) I.ok.above))).trans (I.base.keep b o e n hb hx)
    · obtain ⟨sl, e1⟩ := I.base.slot b o e n hb hx
      exact ⟨sl, (hs.2 b (Nat.ne_of_lt (Nat.lt_of_lt_of_le (Heap.lt_size e) I.ok.above))).trans e1⟩
    · obtain ⟨o', e1⟩ := I.base.there b o e hx
      exact ⟨o', (hs.2 b (Nat.ne_of_lt (Nat.lt_of_lt_of_le (Heap.lt_size e) I.ok.above))).trans e1⟩
    · by_cases hj : j = i
      · subst hj
        rw [hi] at e1; cases e1
        rw [List.getElem?_set_self hiσ] at e2
        cases e2
        exact ⟨u, r, .inl ⟨hk, by simp⟩⟩
      · rw [List.getElem?_set_ne (Ne.symm hj)] at e2
        obtain ⟨u', r', q⟩ := hl j y v' e1 e2 e3
        refine ⟨u', r', ?_⟩
        rcases q with ⟨k, e⟩ | ⟨k, c, e, z⟩
        · refine .inl ⟨k, ?_⟩
          have : y ≠ x := fun e => hj (nodup_ix hN e1 (e ▸ hi))
          simp [this, e]
        · exact .inr ⟨k, c, e, z.sameBut hs (cne y c e)⟩
    · obtain ⟨w', z⟩ := I.cell y c e
      exact ⟨w', z.sameBut hs (cne y c e)⟩
    · obtain ⟨e, n, ne, nf, d⟩ := I.pin p hp
      exact ⟨(hs.2 p.1 ne).trans e, n, ne, nf, d⟩
  · have hfn : X.fn x = true := by
      rcases hf with z | z
      · exact z
      · rw [z] at hk; cases hk
    obtain ⟨c, hc⟩ := I.ok.has x (.inl hk)
    obtain ⟨w', z⟩ := I.cell x c hc
    refine wpAny_storeName_cell I.ok.kind hk hc z (fun h' hc' hs => ?_)
    obtain ⟨oc, hoc, hocd⟩ := id z
    refine h { s with heap := h' } ⟨I.ok, I.os, I.bare, ⟨fun b o e n hb hx => ?_, fun b o e n hb hx => ?_, I.base.free, fun b o e hx => ?_, I.base.tups, I.base.frzs, I.base.tbls⟩, ⟨m, hn.sameBut hs (Ne.symm (cne x c hc)), fun j y v' e1 e2 e3 => ?_⟩, fun y c' e => ?_, I.free, I.freeC, fun p hp => ?_, tracked ⟨oc, hoc, I.freeC x c hc⟩ hs, by simpa using I.len, I.hdk⟩ ⟨c, hs, .inr hc⟩
    · exact (hs.2 b (Nat.ne_of_lt (Nat.lt_of_lt_of_le (Heap.lt_size e) (I.ok.cab x c hfn hc)))).trans (I.base.keep b o e n hb hx)
    · obtain ⟨sl, e1⟩ := I.base.slot b o e n hb hx
      exact ⟨sl, (hs.2 b (Nat.ne_of_lt (Nat.lt_of_lt_of_le (Heap.lt_size e) (I.ok.cab x c hfn hc)))).trans e1⟩
    · obtain ⟨o', e1⟩ := I.base.there b o e hx
      exact ⟨o', (hs.2 b (Nat.ne_of_lt (Nat.lt_of_lt_of_le (Heap.lt_size e) (I.ok.cab x c hfn hc)))).trans e1⟩
    · by_cases hj : j = i
      · subst hj
        rw [hi] at e1; cases e1
        rw [List.getElem?_set_self hiσ] at e2
        cases e2
        exact ⟨u, r, .inr ⟨.inl hk, c, hc, hc'⟩⟩
      · rw [List.getElem?_set_ne (Ne.symm hj)] at e2
        obtain ⟨u', r', q⟩ := hl j y v' e1 e2 e3
        refine ⟨u', r', ?_⟩
        rcases q with q | ⟨k, c', e, z'⟩
        · exact .inl q
        · refine .inr ⟨k, c', e, z'.sameBut hs ?_⟩
          rintro rfl
          exact hj (nodup_ix hN e1 (I.ok.inj _ _ _ e hc ▸ hi))
    · by_cases hcc : c' = c
      · subst hcc; exact ⟨_, hc'⟩
      · obtain ⟨w2, z2⟩ := I.cell y c' e
        exact ⟨w2, z2.sameBut hs hcc⟩
    · obtain ⟨e, n, ne, nf, d⟩ := I.pin p hp
      refine ⟨(hs.2 p.1 ?_).trans e, n, ne, nf, d⟩
      intro q
      rw [q, hoc] at e
      have q' : oc = p.2 := Option.some.inj e
      exact d w' (by rw [← q']; exact hocd)
theorem store_ok {M : Model} {A : Around} {E : Value → Shared → Prop} {i : Nat} {x : Str} {v : V} {u : Value} {Q : Unit → Shared → Prop} (I : Inv X pins σ H s) (hN : X.N.Nodup) (hi : X.N[i]? = some x) (hx : Loc X.env.scope x) (r : RelV v u)
    (h : ∀ s', Inv X pins (σ.set i (some v)) H s' → Q () s') (hf : X.fn x = true ∨ X.env.scope.names.lookup x = some .local := by first | exact .inl rfl | exact .inr rfl | assumption) : wpAny M A (storeName X.env x u) Q E s :=
  store_ok2 I hN hi hx r (fun s' I' _ => h s' I') hf
/-- behind a call or a block, the state as it is -/
theorem Inv.call' {s' : Shared} {ch : List Addr} (I : Inv X pins σ H s) (ho : s'.os = s.os) (u : Un (frs X.stack) ch H H' s.heap s'.heap) (hok : HOk X.prog X.w H' s'.heap) (hg : AllBare s'.gens)
    (hch : ∀ b ∈ ch, (b ∈ X.ex ∨ X.s₀.heap.objs.size ≤ b) ∧ b ≠ X.env.locals ∧ (∀ x c, X.env.cells.lookup x = some c → c ≠ b) ∧ ∀ p ∈ X.pn ++ pins, p.1 ≠ b) : Inv X pins σ H' s' := by
  obtain ⟨h', g', d', t', o'⟩ := s'
  have e : o' = s.os := ho
  subst e
  exact I.call (g' := g') (t' := t') (d' := d') u hok hg hch
end

/-! ### the judgements -/
/-- an exception: its class, its own dict's address (where it has one), the abstract heap behind it -/
abbrev XK := Value → Option Addr → Hp → Prop
abbrev St := List (Option V)
abbrev VK := V → Hp → Prop
/-- an expression's reading; a test's; an argument list's -/
abbrev TE := St → Hp → VK → Prop
abbrev TT := St → Hp → (Bool → Hp → Prop) → Prop
abbrev TA := St → Hp → (List V → Hp → Prop) → Prop
/-- what is wanted behind a statement -/
structure Ends where
  nx : St → Hp → Prop
  rt : VK
  bk : St → Hp → Prop := fun _ _ => False
  ct : St → Hp → Prop := fun _ _ => False
abbrev TS := Ends → St → Hp → Prop

def EP (X : Cx) (pins : List (Addr × Obj)) (σ : St) (Q : VK) (u : Value) (s' : Shared) : Prop := ∃ v H', Inv X pins σ H' s' ∧ RelV v u ∧ Q v H'
def TP (X : Cx) (pins : List (Addr × Obj)) (σ : St) (Q : Bool → Hp → Prop) (b : Bool) (s' : Shared) : Prop := ∃ H', Inv X pins σ H' s' ∧ Q b H'
def AP (X : Cx) (pins : List (Addr × Obj)) (σ : St) (Q : List V → Hp → Prop) (us : List Value) (s' : Shared) : Prop := ∃ vs H', Inv X pins σ H' s' ∧ Vals vs us ∧ Q vs H'
def SP (X : Cx) (pins : List (Addr × Obj)) (D : Ends) (f : Flow) (s' : Shared) : Prop :=
  match f with
  | .next => ∃ σ' H', Inv X pins σ' H' s' ∧ D.nx σ' H'
  | .brk => ∃ σ' H', Inv X pins σ' H' s' ∧ D.bk σ' H'
  | .cont => ∃ σ' H', Inv X pins σ' H' s' ∧ D.ct σ' H'
  | .ret u => ∃ v σ' H', Inv X pins σ' H' s' ∧ RelV v u ∧ D.rt v H'

def PE (X : Cx) (e : Expr) (t : TE) : Prop :=
  ∀ (pins : List (Addr × Obj)) (s : Shared) (σ : St) (H : Hp) (Q : VK), Inv X pins σ H s → t σ H Q → wpAny (model X.prog X.w) X.A (eval e X.env) (EP X pins σ Q) X.xe s
def PT (X : Cx) (e : Expr) (t : TT) : Prop :=
  ∀ (pins : List (Addr × Obj)) (s : Shared) (σ : St) (H : Hp) (Q : Bool → Hp → Prop), Inv X pins σ H s → t σ H Q → wpAny (model X.prog X.w) X.A (isTrue e X.env (eval e X.env)) (TP X pins σ Q) X.xe s
/-- a test whatever its 'whole' is (and, or) -/
def PW (X : Cx) (e : Expr) (t : TT) : Prop :=
  ∀ (whole : Sem Value) (pins : List (Addr × Obj)) (s : Shared) (σ : St) (H : Hp) (Q : Bool → Hp → Prop), Inv X pins σ H s → t σ H Q → wpAny (model X.prog X.w) X.A (isTrue e X.env whole) (TP X pins σ Q) X.xe s
theorem PW.pt {X : Cx} {e : Expr} {t : TT} (h : PW X e t) : PT X e t := h _
/-- an argument list (no star), from the left -/
def PA (X : Cx) (es : List Expr) (t : TA) : Prop :=
  ∀ (pos : Pos) (pins : List (Addr × Obj)) (s : Shared) (σ : St) (H : Hp) (Q : List V → Hp → Prop), Inv X pins σ H s → t σ H Q → wpAny (model X.prog X.w) X.A (spliced (backTo pos (starEach es X.env))) (AP X pins σ Q) X.xe s
def PS (X : Cx) (st : Stmt) (t : TS) : Prop :=
  ∀ (pins : List (Addr × Obj)) (s : Shared) (σ : St) (H : Hp) (D : Ends), Inv X pins σ H s → t D σ H → wpAny (model X.prog X.w) X.A (exec st X.env) (SP X pins D) X.xe s
def PSs (X : Cx) (st : List Stmt) (t : TS) : Prop :=
  ∀ (pins : List (Addr × Obj)) (s : Shared) (σ : St) (H : Hp) (D : Ends), Inv X pins σ H s → t D σ H → wpAny (model X.prog X.w) X.A (execs st X.env) (SP X pins D) X.xe s
/-- weaken the end -/
theorem thn {α : Type} {t : Sem α} {Q Q' : α → Shared → Prop} {M : Model} {A : Around} {E : Value → Shared → Prop} {s : Shared} (h : wpAny M A t Q E s) (hQ : ∀ a s, Q a s → Q' a s) : wpAny M A t Q' E s := wpAny_mono h hQ fun _ _ x => x
end L2

namespace L2
open PySem PySem.Spec PyProof.Rows
section
variable {X : Cx}

/-- two expressions in a row -/
theorem bin {a b : Expr} {ta tb : TE} (ha : PE X a ta) (hb : PE X b tb) {pins : List (Addr × Obj)} {s : Shared} {σ : St} {H : Hp} {R : V → V → Hp → Prop} (I : Inv X pins σ H s) (h : ta σ H fun x H1 => tb σ H1 fun y H2 => R x y H2)
    {α : Type} {Q : α → Shared → Prop} {f : Value → Value → Sem α}
    (hf : ∀ v u s2 x y H2, Inv X pins σ H2 s2 → RelV x v → RelV y u → R x y H2 → wpAny (model X.prog X.w) X.A (f v u) Q X.xe s2) :
    wpAny (model X.prog X.w) X.A (eval a X.env) (fun v s₁ => wpAny (model X.prog X.w) X.A (eval b X.env) (fun u s₂ => wpAny (model X.prog X.w) X.A (f v u) Q X.xe s₂) X.xe s₁) X.xe s := by
  refine thn (ha pins s σ H _ I h) fun v s1 ⟨x, H1, I1, r1, q1⟩ => ?_
  refine thn (hb pins s1 σ H1 _ I1 q1) fun u s2 ⟨y, H2, I2, r2, q2⟩ => ?_
  exact hf v u s2 x y H2 I2 r1 r2 q2

/-! ### names and constants -/
def tVar (i : Nat) : TE := fun σ H Q => ∃ v, σ[i]? = some (some v) ∧ Q v H
def tC (v : V) : TE := fun _ H Q => Q v H
theorem pe_var {i : Nat} {x : Str} {pos : Pos} (hN : X.N[i]? = some x) (hv : Vis X.env.scope x) (hd : (x == ("__debug__" : Str)) = false := by decide) (hcd : (x == ("__classdict__" : Str)) = false := by decide) : PE X (.Name x pos) (tVar i) := by
  intro pins s σ H Q I h
  obtain ⟨v, e, h⟩ := h
  obtain ⟨m, hn, hl⟩ := I.loc
  obtain ⟨u, r, l⟩ := hl i x v hN e hv
  have fin : EP X pins σ Q u s := ⟨v, H, I, r, h⟩
  rcases l with ⟨hk, hm⟩ | ⟨hk, c, hc, hcell⟩
  · exact wpAny_Name (wpAny_loadName_local I.ok.kind hk hn hm fin) hd
  · rcases hk with hk | hk
    · exact wpAny_Name (wpAny_loadName_cell I.ok.kind hk hc hcell fin) hd
    · exact wpAny_Name (wpAny_loadName_free I.ok.kind hk hc hcell fin hcd) hd
theorem pe_int {i j pos} : PE X (.Constant (.int i) j pos) (tC (.int i)) := fun _ _ _ H _ I h => wpAny_Constant_int ⟨.int i, H, I.tok _, ⟨_, rfl⟩, h⟩
theorem pe_bl {b j pos} : PE X (.Constant (.bool b) j pos) (tC (.bl b)) := fun _ _ _ H _ I h => Constant_bool ⟨.bl b, H, I, rfl, h⟩
theorem pe_non {j pos} : PE X (.Constant .none j pos) (tC .non) := fun _ _ _ H _ I h => Constant_none ⟨.non, H, I, rfl, h⟩
theorem pe_str {x j pos} : PE X (.Constant (.str x) j pos) (tC (.str x)) := fun _ _ _ H _ I h => Calls.Constant_str ⟨.str x, H, I.tok _, ⟨_, rfl⟩, h⟩

/-- a global name of the def -/
def Gl (X : Cx) (x : Str) : Prop := X.env.kindOf x = some .globalImplicit
theorem ld_glob {E : Value → Shared → Prop} {pins : List (Addr × Obj)} {s : Shared} {σ : St} {H : Hp} {x : Str} {u : Value} {pos : Pos} {Q : Value → Shared → Prop} (I : Inv X pins σ H s) (hg : Gl X x) (hm : X.mg x = some u) (h : Q u s)
    (hd : (x == ("__debug__" : Str)) = false := by decide) : wpAny (model X.prog X.w) X.A (eval (.Name x pos) X.env) Q E s :=
  Calls.Name_function_global I.ok.kind hg (Calls.loadGlobal_global (by rw [I.ok.glob]; exact I.mod.glob.keeps I.bk) hm h) hd
theorem ld_blt {E : Value → Shared → Prop} {pins : List (Addr × Obj)} {s : Shared} {σ : St} {H : Hp} {x : Str} {u : Value} {pos : Pos} {Q : Value → Shared → Prop} (I : Inv X pins σ H s) (hg : Gl X x) (hm : X.mg x = none) (hv : bootBuiltins x = some u) (h : Q u s)
    (hn : x ≠ "__name__" := by decide) (hd : (x == ("__debug__" : Str)) = false := by decide) : wpAny (model X.prog X.w) X.A (eval (.Name x pos) X.env) Q E s := by
  obtain ⟨mb, h1, h2⟩ := I.mod.blt
  exact Calls.Name_function_global I.ok.kind hg (Calls.loadGlobal_builtin (by rw [I.ok.glob]; exact I.mod.glob.keeps I.bk) hm (by rw [I.ok.blt]; exact h1.keeps I.bk) ((h2 x hn).trans hv) h) hd
/-- a module's constant, a class, a function, as a value -/
theorem pe_glob {x : Str} {v : V} {u : Value} {pos : Pos} (hg : Gl X x) (hm : X.mg x = some u) (r : RelV v u) (hd : (x == ("__debug__" : Str)) = false := by decide) : PE X (.Name x pos) (tC v) :=
  fun _ _ _ H _ I h => ld_glob I hg hm ⟨v, H, I, r, h⟩ hd
theorem pe_bltn {x : Str} {v : V} {u : Value} {pos : Pos} (hg : Gl X x) (hm : X.mg x = none) (hv : bootBuiltins x = some u) (r : RelV v u) (hn : x ≠ "__name__" := by decide) (hd : (x == ("__debug__" : Str)) = false := by decide) : PE X (.Name x pos) (tC v) :=
  fun _ _ _ H _ I h => ld_blt I hg hm hv ⟨v, H, I, r, h⟩ hn hd

/-! ### arithmetic -/
variable {a b : Expr} {ta tb : TE} {pos : Pos}
/-! ### comparisons -/
/-- a comparison as a value, as a test -/
def tB (t : TE) : TT := fun σ H Q => t σ H fun x H1 => ∃ c, x = .bl c ∧ Q c H1
/-! ### and, or, not -/
variable {tA tB' : TT} {rest : List Expr}
def tAnd (t u : TT) : TT := fun σ H Q => t σ H fun c H1 => if c = true then u σ H1 Q else Q false H1
def tOr (t u : TT) : TT := fun σ H Q => t σ H fun c H1 => if c = true then Q true H1 else u σ H1 Q
def tNot (t : TT) : TT := fun σ H Q => t σ H fun c H1 => Q (!c) H1
theorem pw_and1 (ha : PT X a tA) : PW X (.BoolOp .And [a] pos) tA := by
  intro wh pins s σ H Q I h
  refine isTrue_and (thn (ha pins s σ H Q I h) fun c s1 e => ?_)
  cases c with
  | true => exact isTrue_and_nil e
  | false => exact e
theorem pw_or1 (ha : PT X a tA) : PW X (.BoolOp .Or [a] pos) tA := by
  intro wh pins s σ H Q I h
  refine isTrue_or (thn (ha pins s σ H Q I h) fun c s1 e => ?_)
  cases c with
  | false => exact isTrue_or_nil e
  | true => exact e
theorem pw_and (ha : PT X a tA) (hb : PW X (.BoolOp .And (b :: rest) pos) tB') : PW X (.BoolOp .And (a :: b :: rest) pos) (tAnd tA tB') := by
  intro wh pins s σ H Q I h
  refine isTrue_and (thn (ha pins s σ H _ I h) fun c s1 ⟨H1, I1, q1⟩ => ?_)
  cases c with
  | true => exact hb wh pins s1 σ H1 Q I1 q1
  | false => exact ⟨H1, I1, q1⟩
theorem pw_or (ha : PT X a tA) (hb : PW X (.BoolOp .Or (b :: rest) pos) tB') : PW X (.BoolOp .Or (a :: b :: rest) pos) (tOr tA tB') := by
  intro wh pins s σ H Q I h
  refine isTrue_or (thn (ha pins s σ H _ I h) fun c s1 ⟨H1, I1, q1⟩ => ?_)
  cases c with
  | true => exact ⟨H1, I1, q1⟩
  | false => exact hb wh pins s1 σ H1 Q I1 q1
theorem pt_not (ha : PT X a tA) : PT X (.UnaryOp .Not a pos) (tNot tA) := by
  intro pins s σ H Q I h
  exact isTrue_not (ha pins s σ H (fun c H1 => Q (!c) H1) I h)
/-- .. as values (bools) -/
def tAndV (ta tb : TE) : TE := fun σ H Q => ta σ H fun x H1 => ∃ c, x = .bl c ∧ if c = true then tb σ H1 Q else Q (.bl false) H1
def tOrV (ta tb : TE) : TE := fun σ H Q => ta σ H fun x H1 => ∃ c, x = .bl c ∧ if c = true then Q (.bl true) H1 else tb σ H1 Q
def tNotV (ta : TE) : TE := fun σ H Q => ta σ H fun x H1 => ∃ c, x = .bl c ∧ Q (.bl (!c)) H1
theorem pe_one {op} {t : TE} (h : PE X a t) : PE X (.BoolOp op [a] pos) t := fun pins s σ H Q I hw => BoolOp_one (h pins s σ H Q I hw)
theorem pe_and (ha : PE X a ta) (hb : PE X (.BoolOp .And (b :: rest) pos) tb) : PE X (.BoolOp .And (a :: b :: rest) pos) (tAndV ta tb) := by
  intro pins s σ H Q I h
  refine BoolOp_and (thn (ha pins s σ H _ I h) fun v s1 ⟨x, H1, I1, r1, q1⟩ => ?_)
  obtain ⟨c, rfl, q1⟩ := q1
  cases r1
  refine wpAny_truthy_bool ?_
  cases c with
  | true => exact hb pins s1 σ H1 Q I1 q1
  | false => exact ⟨.bl false, H1, I1, rfl, q1⟩
theorem pe_or (ha : PE X a ta) (hb : PE X (.BoolOp .Or (b :: rest) pos) tb) : PE X (.BoolOp .Or (a :: b :: rest) pos) (tOrV ta tb) := by
  intro pins s σ H Q I h
  refine BoolOp_or (thn (ha pins s σ H _ I h) fun v s1 ⟨x, H1, I1, r1, q1⟩ => ?_)
  obtain ⟨c, rfl, q1⟩ := q1
  cases r1
  refine wpAny_truthy_bool ?_
  cases c with
  | false => exact hb pins s1 σ H1 Q I1 q1
  | true => exact ⟨.bl true, H1, I1, rfl, q1⟩
theorem pe_not (ha : PE X a ta) : PE X (.UnaryOp .Not a pos) (tNotV ta) := by
  intro pins s σ H Q I h
  refine UnaryOp_ (thn (ha pins s σ H _ I h) fun v s1 ⟨x, H1, I1, r1, q1⟩ => ?_)
  obtain ⟨c, rfl, q1⟩ := q1
  cases r1
  exact not_of (wpAny_truthy_bool ⟨.bl (!c), H1, I1, rfl, q1⟩)
/-- a if t else b -/
def tIf (t : TT) (ta tb : TE) : TE := fun σ H Q => t σ H fun c H1 => if c = true then ta σ H1 Q else tb σ H1 Q
theorem pe_ifExp {c : Expr} (hc : PT X c tA) (ha : PE X a ta) (hb : PE X b tb) : PE X (.IfExp c a b pos) (tIf tA ta tb) := by
  intro pins s σ H Q I h
  refine wpAny_IfExp (thn (hc pins s σ H _ I h) fun d s1 ⟨H1, I1, q1⟩ => ?_)
  cases d with
  | true => exact ha pins s1 σ H1 Q I1 q1
  | false => exact hb pins s1 σ H1 Q I1 q1
end
end L2

namespace L2
open PySem PySem.Spec PyProof.Rows

/-! ### a list, a tuple that is read: tracked, frozen, or an object of the module -/
def SqL (K : PySem.W.Frag) (H : Hp) (a : Addr) (xs : List V) : Prop :=
  Rd H a (.lst xs) ∨
    ∃ (o : Obj) (its : Array Value) (n : Nat), K.lookup a = some o ∧ o.cls = .type "list" ∧ o.dict = none ∧ o.data = .seq its n ∧ its.size ≤ sizeLine ∧ Vals xs its.toList
def SqT (K : PySem.W.Frag) (H : Hp) (a : Addr) (xs : List V) : Prop :=
  Rd H a (.tup xs) ∨
    ∃ (o : Obj) (its : Array Value) (n : Nat), K.lookup a = some o ∧ o.cls = .type "tuple" ∧ o.data = .seq its n ∧ its.size ≤ sizeLine ∧ Vals xs its.toList
def absV : Value → Option V
  | .none => some .non
  | .bool b => some (.bl b)
  | .int i _ => some (.int i)
  | .str x _ => some (.str x)
  | .bytes b _ => some (.byt b)
  | .float b _ => some (.flt b)
  | .ref a => some (.ref a)
  | .type n => some (.ty n)
  | _ => none
theorem RelV.abs {x : V} {u : Value} (r : RelV x u) : absV u = some x := by
  cases x with
  | non => cases r; rfl
  | bl _ => cases r; rfl
  | int _ => obtain ⟨t, rfl⟩ := r; rfl
  | str _ => obtain ⟨t, rfl⟩ := r; rfl
  | byt _ => obtain ⟨t, rfl⟩ := r; rfl
  | flt _ => obtain ⟨t, rfl⟩ := r; rfl
  | ref _ => cases r; rfl
  | ty _ => cases r; rfl
theorem RelV.inj {x y : V} {u : Value} (r : RelV x u) (q : RelV y u) : x = y := Option.some.inj (r.abs.symm.trans q.abs)
theorem Vals.inj : ∀ {xs ys : List V} {us : List Value}, Vals xs us → Vals ys us → xs = ys
  | _, _, _, .nil, .nil => rfl
  | _, _, _, .cons r t, .cons r' t' => by rw [r.inj r', Vals.inj t t']
section
variable {X : Cx} {pins : List (Addr × Obj)} {σ : St} {H : Hp} {s : Shared} {a : Addr} {xs ys : List V}
theorem SqL.of {K : PySem.W.Frag} (h : H a = some (.lst xs)) : SqL K H a xs := .inl (.inl h)
theorem SqT.of {K : PySem.W.Frag} (h : H a = some (.tup xs)) : SqT K H a xs := .inl (.inl h)
theorem Inv.list (I : Inv X pins σ H s) (h : SqL X.K H a xs) : ∃ its : List Value, Vals xs its ∧ PlainL s.heap a its.toArray ∧ xs.length ≤ sizeLine := by
  rcases h with h | ⟨o, its, n, hk, hc, hd, hs, hz, r⟩
  · obtain ⟨z, its, n, r, e⟩ := h.ok I.hok
    exact ⟨its, r, ⟨_, n, e, rfl, rfl, rfl⟩, z⟩
  · refine ⟨its.toList, r, ⟨o, n, I.kIn a o hk, hc, hd, by simpa using hs⟩, ?_⟩
    have e := r.length
    simp only [Array.length_toList] at e
    omega
theorem Inv.tuple (I : Inv X pins σ H s) (h : SqT X.K H a xs) : ∃ its : List Value, Vals xs its ∧ IsTup s.heap a its.toArray ∧ xs.length ≤ sizeLine := by
  rcases h with h | ⟨o, its, n, hk, hc, hs, hz, r⟩
  · obtain ⟨z, its, r, p⟩ := h.ok I.hok
    exact ⟨its, r, p, z⟩
  · refine ⟨its.toList, r, ⟨o, I.kIn a o hk, hc, n, by simpa using hs⟩, ?_⟩
    have e := r.length
    simp only [Array.length_toList] at e
    omega
theorem Inv.list_inj (I : Inv X pins σ H s) (h : SqL X.K H a xs) (h' : SqL X.K H a ys) : xs = ys := by
  obtain ⟨its, r, ⟨o, n, e, _, _, d⟩, _⟩ := I.list h
  obtain ⟨its', r', ⟨o', n', e', _, _, d'⟩, _⟩ := I.list h'
  rw [e] at e'; cases e'
  rw [d] at d'
  injection d' with d1 _
  have : its = its' := by simpa using congrArg Array.toList d1
  subst this
  exact r.inj r'
theorem Inv.tuple_inj (I : Inv X pins σ H s) (h : SqT X.K H a xs) (h' : SqT X.K H a ys) : xs = ys := by
  obtain ⟨its, r, ⟨o, e, _, n, d⟩, _⟩ := I.tuple h
  obtain ⟨its', r', ⟨o', e', _, n', d'⟩, _⟩ := I.tuple h'
  rw [e] at e'; cases e'
  rw [d] at d'
  injection d' with d1 _
  have : its = its' := by simpa using congrArg Array.toList d1
  subst this
  exact r.inj r'
end

/-! ### another wish about exceptions -/
abbrev Cx.wish (X : Cx) (E : Value → Shared → Prop) : Cx := { X with xe := E }
/-- no exception leaves -/
abbrev Cx.nox (X : Cx) : Cx := X.wish fun _ _ => False
theorem Cx.Ok.wish {X : Cx} (ok : X.Ok) (E : Value → Shared → Prop) : (X.wish E).Ok :=
  ⟨ok.mod, ok.kind, ok.glob, ok.blt, ok.above, ok.inj, ok.has, ok.cab, ok.hd, ok.frames, ok.stk, ok.exf, ok.bs, ok.bsz, ok.noex, ok.exfs, ok.funs, ok.frf⟩
theorem Cx.Ok.unwish {X : Cx} {E : Value → Shared → Prop} (ok : (X.wish E).Ok) : X.Ok :=
  ⟨ok.mod, ok.kind, ok.glob, ok.blt, ok.above, ok.inj, ok.has, ok.cab, ok.hd, ok.frames, ok.stk, ok.exf, ok.bs, ok.bsz, ok.noex, ok.exfs, ok.funs, ok.frf⟩
section
variable {X : Cx} {pins : List (Addr × Obj)} {σ : St} {H : Hp} {s : Shared} {E : Value → Shared → Prop}
theorem Inv.wish (I : Inv X pins σ H s) (E : Value → Shared → Prop) : Inv (X.wish E) pins σ H s := ⟨I.ok.wish E, I.os, I.bare, I.base, I.loc, I.cell, I.free, I.freeC, I.pin, I.hok, I.len, I.hdk⟩
theorem Inv.unwish (I : Inv (X.wish E) pins σ H s) : Inv X pins σ H s := ⟨I.ok.unwish, I.os, I.bare, I.base, I.loc, I.cell, I.free, I.freeC, I.pin, I.hok, I.len, I.hdk⟩
theorem SP.unwish {D : Ends} {f : Flow} {s' : Shared} (h : SP (X.wish E) pins D f s') : SP X pins D f s' := by
  cases f with
  | next => obtain ⟨σ', H', I, q⟩ := h; exact ⟨σ', H', I.unwish, q⟩
  | brk => obtain ⟨σ', H', I, q⟩ := h; exact ⟨σ', H', I.unwish, q⟩
  | cont => obtain ⟨σ', H', I, q⟩ := h; exact ⟨σ', H', I.unwish, q⟩
  | ret u => obtain ⟨v, σ', H', I, r, q⟩ := h; exact ⟨v, σ', H', I.unwish, r, q⟩
theorem PE.nox {e : Expr} {t : TE} (h : PE X.nox e t) : PE X e t := fun pins s σ H Q I hw =>
  wpAny_mono (h pins s σ H Q (I.wish _) hw) (fun _ _ ⟨v, H', I', r, q⟩ => ⟨v, H', I'.unwish, r, q⟩) fun _ _ z => False.elim z
theorem PT.nox {e : Expr} {t : TT} (h : PT X.nox e t) : PT X e t := fun pins s σ H Q I hw =>
  wpAny_mono (h pins s σ H Q (I.wish _) hw) (fun _ _ ⟨H', I', q⟩ => ⟨H', I'.unwish, q⟩) fun _ _ z => False.elim z
theorem PSs.nox {st : List Stmt} {t : TS} (h : PSs X.nox st t) : PSs X st t := fun pins s σ H D I hw =>
  wpAny_mono (h pins s σ H D (I.wish _) hw) (fun _ _ q => q.unwish) fun _ _ z => False.elim z
end

/-! ### blocks and small statements -/
section
variable {X : Cx} {st : Stmt} {rest : List Stmt} {t u : TS} {e : Expr} {te : TE} {pos : Pos}
def tNext : TS := fun D σ H => D.nx σ H
def tSeq (t u : TS) : TS := fun D σ H => t { D with nx := u D } σ H
theorem pss_nil : PSs X [] tNext := fun _ _ σ H _ I h => wpAny_execs_nil ⟨σ, H, I, h⟩
theorem pss_cons (h1 : PS X st t) (h2 : PSs X rest u) : PSs X (st :: rest) (tSeq t u) := by
  intro pins s σ H D I h
  refine wpAny_execs_cons (thn (h1 pins s σ H { D with nx := u D } I h) fun f s1 q => ?_)
  cases f with
  | next =>
    obtain ⟨σ', H', I', q⟩ := q
    exact h2 pins s1 σ' H' D I' q
  | ret v => exact q
  | brk => exact q
  | cont => exact q
theorem pss_one (h1 : PS X st t) : PSs X [st] t := by
  intro pins s σ H D I h
  refine wpAny_execs_cons (thn (h1 pins s σ H D I h) fun f s1 q => ?_)
  cases f with
  | next => exact wpAny_execs_nil q
  | ret v => exact q
  | brk => exact q
  | cont => exact q
def tBreak : TS := fun D σ H => D.bk σ H
def tCont : TS := fun D σ H => D.ct σ H
/-- in a def's body nothing is shown -/
theorem Inv.quiet {pins : List (Addr × Obj)} {σ : St} {H : Hp} {s : Shared} (I : Inv X pins σ H s) : interactive X.env = false := by simp [interactive, I.ok.kind]
/-- an expression whose value is dropped -/
def tDrop (te : TE) : TS := fun D σ H => te σ H fun _ H1 => D.nx σ H1
theorem ps_expr (he : PE X e te) (hs : swapsWith e none pos.line X.env = pure false := by rfl) : PS X (.Expr e pos) (tDrop te) := by
  intro pins s σ H D I h
  exact wpAny_Expr_any (thn (he pins s σ H _ I h) fun v s1 ⟨x, H1, I1, r1, q1⟩ => ⟨σ, H1, I1, q1⟩) I.quiet hs
def tRet (te : TE) : TS := fun D σ H => te σ H D.rt
theorem ps_ret (he : PE X e te) : PS X (.Return (some e) pos) (tRet te) := by
  intro pins s σ H D I h
  exact wpAny_Return_some (thn (he pins s σ H _ I h) fun v s1 ⟨x, H1, I1, r1, q1⟩ => ⟨x, σ, H1, I1, r1, q1⟩)
def tRetN : TS := fun D _ H => D.rt .non H
def tIfS (c : TT) (t u : TS) : TS := fun D σ H => c σ H fun b H1 => if b = true then t D σ H1 else u D σ H1
theorem ps_if {c : Expr} {a b : List Stmt} {tc : TT} (hc : PT X c tc) (ha : PSs X a t) (hb : PSs X b u) : PS X (.If c a b pos) (tIfS tc t u) := by
  intro pins s σ H D I h
  refine wpAny_If (thn (hc pins s σ H _ I h) fun d s1 ⟨H1, I1, q1⟩ => ?_)
  cases d with
  | true => exact ha pins s1 σ H1 D I1 q1
  | false => exact hb pins s1 σ H1 D I1 q1
end

/-! ### targets -/
abbrev TG := V → St → Hp → (St → Hp → Prop) → Prop
abbrev TGs := List V → St → Hp → (St → Hp → Prop) → Prop
def PG (X : Cx) (target : Expr) (t : TG) : Prop :=
  ∀ (pins : List (Addr × Obj)) (s : Shared) (σ : St) (H : Hp) (v : V) (u : Value) (Q : St → Hp → Prop), Inv X pins σ H s → RelV v u → t v σ H Q →
    wpAny (model X.prog X.w) X.A (assign target X.env u) (fun _ s' => ∃ σ' H', Inv X pins σ' H' s' ∧ Q σ' H') X.xe s
/-- several targets, one after another -/
def PGs (X : Cx) (ts : List Expr) (t : TGs) : Prop :=
  ∀ (pins : List (Addr × Obj)) (s : Shared) (σ : St) (H : Hp) (vs : List V) (us : List Value) (Q : St → Hp → Prop), Inv X pins σ H s → Vals vs us → t vs σ H Q →
    wpAny (model X.prog X.w) X.A (assignInOrder ((assignEach ts X.env).map (·.2)) us) (fun _ s' => ∃ σ' H', Inv X pins σ' H' s' ∧ Q σ' H') X.xe s
/-- o[i] = v, by values -/
abbrev TSet := V → V → V → Hp → (Hp → Prop) → Prop
/-- a op= b, by values -/
abbrev TIp := V → V → Hp → VK → Prop
def PIp (X : Cx) (op : Operator) (t : TIp) : Prop :=
  ∀ (pins : List (Addr × Obj)) (s : Shared) (σ : St) (H : Hp) (x y : V) (v u : Value) (Q : VK), Inv X pins σ H s → RelV x v → RelV y u → t x y H Q →
    wpAny (model X.prog X.w) X.A (inplaceOp op v u) (EP X pins σ Q) X.xe s
section
variable {X : Cx} {pos : Pos}
def gName (i : Nat) : TG := fun v σ H Q => Q (σ.set i (some v)) H
theorem pg_name {i : Nat} {x : Str} (hN : X.N.Nodup) (hi : X.N[i]? = some x) (hx : Loc X.env.scope x) (hf : X.fn x = true ∨ X.env.scope.names.lookup x = some .local := by first | exact .inl rfl | exact .inr rfl | assumption) : PG X (.Name x pos) (gName i) := by
  intro pins s σ H v u Q I r h
  exact wpAny_assign_Name (store_ok I hN hi hx r (fun s' I' => ⟨_, H, I', h⟩) hf)
def gNil : TGs := fun vs σ H Q => vs = [] ∧ Q σ H
def gCons (t : TG) (u : TGs) : TGs := fun vs σ H Q => ∃ v r, vs = v :: r ∧ t v σ H fun σ' H' => u r σ' H' Q
theorem pgs_nil : PGs X [] gNil := by
  intro pins s σ H vs us Q I r h
  obtain ⟨e, h⟩ := h
  subst e
  cases r
  exact assignInOrder_nil ⟨σ, H, I, h⟩
theorem pgs_cons {e : Expr} {es : List Expr} {t : TG} {u : TGs} (h1 : PG X e t) (h2 : PGs X es u)
    (hs : (assignEach (e :: es) X.env).map (·.2) = assign e X.env :: (assignEach es X.env).map (·.2) := by rfl) : PGs X (e :: es) (gCons t u) := by
  intro pins s σ H vs us Q I r h
  obtain ⟨v, vr, e1, h⟩ := h
  subst e1
  cases r with
  | cons r rr =>
    rw [hs]
    refine assignInOrder_cons (thn (h1 pins s σ H _ _ _ I r h) fun _ s1 ⟨σ1, H1, I1, q1⟩ => ?_)
    exact h2 pins s1 σ1 H1 _ _ Q I1 rr q1
/-- (a, b, ..) = a tuple of that length -/
def gTup (K : PySem.W.Frag) (n : Nat) (t : TGs) : TG := fun v σ H Q => ∃ a xs, v = .ref a ∧ SqT K H a xs ∧ xs.length = n ∧ t xs σ H Q
/-- o[i] = .. -/
def gSub (to ti : TE) (t : TSet) : TG := fun v σ H Q => to σ H fun o H1 => ti σ H1 fun i H2 => t o i v H2 fun H3 => Q σ H3
/-- target = value -/
def tAsg (te : TE) (g : TG) : TS := fun D σ H => te σ H fun x H1 => g x σ H1 D.nx
theorem ps_asg {tg e : Expr} {te : TE} {g : TG} (he : PE X e te) (hg : PG X tg g) (hs : swapsWithSole [tg] e pos.line X.env = pure false := by rfl) (hw : swappedStores [tg] e X.env = pure none := by rfl)
    (h1 : (assignEach [tg] X.env).map (·.2) = [assign tg X.env] := by rfl) : PS X (.Assign [tg] e pos) (tAsg te g) := by
  intro pins s σ H D I h
  refine wpAny_Assign_stores (thn (he pins s σ H _ I h) fun v s1 ⟨x, H1, I1, r1, q1⟩ => ?_) hs hw
  rw [h1]
  exact thn (hg pins s1 σ H1 x v _ I1 r1 q1) fun _ s2 q => q
/-- name = value -/
theorem ps_set {i : Nat} {x : Str} {e : Expr} {te : TE} {pos' : Pos} (hN : X.N.Nodup) (hi : X.N[i]? = some x) (hx : Loc X.env.scope x) (he : PE X e te) (hs : swapsWith e (some (.Name x pos')) pos.line X.env = pure false := by rfl) (hf : X.fn x = true ∨ X.env.scope.names.lookup x = some .local := by first | exact .inl rfl | exact .inr rfl | assumption) :
    PS X (.Assign [.Name x pos'] e pos) (tAsg te (gName i)) := by
  intro pins s σ H D I h
  refine wpAny_Assign_Name (thn (he pins s σ H _ I h) fun v s1 ⟨y, H1, I1, r1, q1⟩ => ?_) hs
  exact store_ok I1 hN hi hx r1 (fun s2 I2 => ⟨_, H1, I2, q1⟩) hf
/-- name op= e -/
def tAug (i : Nat) (te : TE) (ti : TIp) : TS := fun D σ H => ∃ x, σ[i]? = some (some x) ∧ te σ H fun y H1 => ti x y H1 fun z H2 => D.nx (σ.set i (some z)) H2
theorem ps_aug {i : Nat} {x : Str} {e : Expr} {te : TE} {op : Operator} {ti : TIp} {pos' : Pos} (hN : X.N.Nodup) (hi : X.N[i]? = some x) (hx : Loc X.env.scope x) (he : PE X e te) (ho : PIp X op ti) (hf : X.fn x = true ∨ X.env.scope.names.lookup x = some .local := by first | exact .inl rfl | exact .inr rfl | assumption) :
    PS X (.AugAssign (.Name x pos') op e pos) (tAug i te ti) := by
  intro pins s σ H D I h
  obtain ⟨v, e1, h⟩ := h
  obtain ⟨m, hn, hl⟩ := I.loc
  have vis : Vis X.env.scope x := by rcases hx with k | k; exact .inl k; exact .inr (.inl k)
  obtain ⟨u, r, l⟩ := hl i x v hi e1 vis
  refine wpAny_AugAssign_Name ?_
  have go : wpAny (model X.prog X.w) X.A (eval e X.env) (fun w s₂ => wpAny (model X.prog X.w) X.A (inplaceOp op u w) (fun r s₃ => wpAny (model X.prog X.w) X.A (storeName X.env x r) (fun _ => SP X pins D .next) X.xe s₃) X.xe s₂) X.xe s := by
    refine thn (he pins s σ H _ I h) fun w s1 ⟨y, H1, I1, r1, q1⟩ => ?_
    refine thn (ho pins s1 σ H1 v y u w _ I1 r r1 q1) fun z s2 ⟨zv, H2, I2, r2, q2⟩ => ?_
    exact store_ok I2 hN hi hx r2 (fun s3 I3 => ⟨_, H2, I3, q2⟩) hf
  rcases l with ⟨hk, hm⟩ | ⟨hk, c, hc, hcell⟩
  · exact wpAny_loadName_local I.ok.kind hk hn hm go
  · rcases hk with hk | hk
    · exact wpAny_loadName_cell I.ok.kind hk hc hcell go
    · rcases hx with k | k
      · have : X.env.scope.names.lookup x = some .free := hk
        rw [k] at this; cases this
      · have : X.env.scope.names.lookup x = some .free := hk
        rw [k] at this; cases this
/-- ints -/
def ipI (f : Int → Int → Int) : TIp := fun x y H Q => ∃ i j, x = .int i ∧ y = .int j ∧ Q (.int (f i j)) H
theorem ip_add : PIp X .Add (ipI fun i j => i + j) := by
  intro pins s σ H x y v u Q I r1 r2 h
  obtain ⟨i, j, e1, e2, q⟩ := h
  subst e1; subst e2
  obtain ⟨t, rfl⟩ := r1
  obtain ⟨t', rfl⟩ := r2
  exact iadd_int ⟨.int _, H, I.tok _, ⟨_, rfl⟩, q⟩
end

/-! ### while -/
section
variable {X : Cx} {pos : Pos}
end

/-! ### what a loop or a comprehension walks -/
/-- at turn i: it yields x (the heap may grow), or it stops -/
structure It where
  go : Nat → Hp → Prop
  yld : Nat → Hp → V → Hp → Prop
  stop : Nat → Hp → Prop
/-- the iterator's own objects may turn: they are not the frame's, not pinned, younger than the entry (or a comprehension's own) -/
def FpOk (X : Cx) (pins : List (Addr × Obj)) (H : Hp) (b : Addr) : Prop :=
  H b = none ∧ b ≠ X.env.locals ∧ b ∉ X.fs ∧ (b ∈ X.ex ∨ X.s₀.heap.objs.size ≤ b) ∧ (∀ x c, X.env.cells.lookup x = some c → c ≠ b) ∧ ∀ p ∈ X.pn ++ pins, p.1 ≠ b
theorem Inv.fpOk {X : Cx} {pins : List (Addr × Obj)} {σ : St} {H H' : Hp} {s : Shared} {b : Addr} (I : Inv X pins σ H s) (hb : s.heap.objs.size ≤ b) (hn : H' b = none) : FpOk X pins H' b := by
  refine ⟨hn, Nat.ne_of_gt (Nat.lt_of_lt_of_le I.lt hb), I.nofs hb, .inr (Nat.le_trans I.sz hb), fun x c e z => ?_, fun p hp z => ?_⟩
  · obtain ⟨v, q⟩ := I.cell x c e
    exact absurd (Nat.lt_of_lt_of_le q.lt (by rw [z]; exact hb)) (Nat.lt_irrefl _)
  · exact absurd (Nat.lt_of_lt_of_le (Heap.lt_size (I.pin p hp).1) (by rw [z]; exact hb)) (Nat.lt_irrefl _)
structure Turn (c : Bool) (P : Program) (w : World) (K : PySem.W.Frag) (tg : Expr) (J : It) (fp : List Addr) (it : Addr) (tn : Nat → Heap → Prop) : Prop where
  mem : it ∈ fp
  obj : ∀ i h, tn i h → ∀ b ∈ fp, ∃ o, h.get? b = some o ∧ ∀ v, o.data ≠ .cell v
  keep : ∀ i h h', tn i h → (∀ b ∈ fp, ∀ o, h.get? b = some o → h'.get? b = some o) → tn i h'
  item : ∀ (X : Cx), X.prog = P → X.w = w → X.K = K → (c = true → X.calm = true) → ∀ (i : Nat) (pins : List (Addr × Obj)) (s : Shared) (σ : St) (H : Hp) (E : Value → Shared → Prop), Inv X pins σ H s → (∀ b ∈ fp, FpOk X pins H b) → tn i s.heap → J.go i H →
    wpAny (model P w) X.A (pyNext (.ref it)) (fun r s1 => ∃ u, r = some u ∧
      wpAny (model P w) X.A (letOwnedTupleGo tg (.ref it) u) (fun _ s2 => ∃ x H', Inv X pins σ H' s2 ∧ RelV x u ∧ J.yld i H x H' ∧ tn (i + 1) s2.heap ∧ ∀ b ∈ fp, H' b = none) E s1) E s
  done : ∀ (X : Cx), X.prog = P → X.w = w → X.K = K → (c = true → X.calm = true) → ∀ (i : Nat) (pins : List (Addr × Obj)) (s : Shared) (σ : St) (H : Hp) (E : Value → Shared → Prop), Inv X pins σ H s → (∀ b ∈ fp, FpOk X pins H b) → tn i s.heap → J.stop i H →
    wpAny (model P w) X.A (pyNext (.ref it)) (fun r s1 => r = none ∧ Inv X pins σ H s1) E s
  self : ∀ (A : Around) (i : Nat) (s : Shared) (Q : Value → Shared → Prop) (E : Value → Shared → Prop), tn i s.heap → Q (.ref it) s → wpAny (model P w) A (pyIter (.ref it)) Q E s
abbrev TI := St → Hp → (It → Hp → Prop) → Prop
/-- an iterator has come -/
def PIE (c : Bool) (X : Cx) (pins : List (Addr × Obj)) (σ : St) (tg : Expr) (R : It → Hp → Prop) (itv : Value) (s2 : Shared) : Prop :=
  ∃ (it : Addr) (fp : List Addr) (tn : Nat → Heap → Prop) (J : It) (H' : Hp), itv = .ref it ∧ Inv X pins σ H' s2 ∧ Turn c X.prog X.w X.K tg J fp it tn ∧ tn 0 s2.heap ∧ (∀ b ∈ fp, FpOk X pins H' b) ∧ R J H'
def PIc (c : Bool) (X : Cx) (tg iter : Expr) (wi : TI) : Prop :=
  ∀ (pins : List (Addr × Obj)) (s : Shared) (σ : St) (H : Hp) (R : It → Hp → Prop), Inv X pins σ H s → wi σ H R →
    wpAny (model X.prog X.w) X.A (eval iter X.env) (fun v s1 => wpAny (model X.prog X.w) X.A (pyIter v) (PIE c X pins σ tg R) X.xe s1) X.xe s
abbrev PI := PIc true

/-- the step ahead of the store is nothing for an iterator that keeps no tuple -/
theorem go_of {M : Model} {A : Around} {E : Value → Shared → Prop} {s : Shared} {tg : Expr} {it : Addr} {u : Value} {o : Obj} {n : String} {vs : Array Value} {Q : Unit → Shared → Prop} (ho : s.heap.get? it = some o) (hc : o.cls = .type n) (hd : o.data = .fields vs)
    (hn : ["enumerate", "zip", "dict_itemiterator", "dict_reverseitemiterator", "odict_iterator", "itertools.zip_longest", "itertools.pairwise"].contains n = false) (hQ : Q () s) : wpAny M A (letOwnedTupleGo tg (.ref it) u) Q E s := by
  unfold letOwnedTupleGo
  cases tg <;> first
    | exact wpAny_pure hQ
    | (cases u <;> first
        | exact wpAny_pure hQ
        | (refine wpAny_bind (wpAny_load ho ?_)
           rw [hc, hd]
           show wpAny M A (if (["enumerate", "zip", "dict_itemiterator", "dict_reverseitemiterator", "odict_iterator", "itertools.zip_longest", "itertools.pairwise"].contains n && vs[0]? == some (rawInt _)) = true then _ else _) Q E s
           rw [if_neg (by intro h; rw [hn, Bool.false_and] at h; cases h)]
           exact wpAny_pure hQ))

/-- the list at a, as it stands at each turn (a loop may append to it) -/
def Itl (K : PySem.W.Frag) (a : Addr) : It :=
  ⟨fun i H => ∃ xs x, SqL K H a xs ∧ xs[i]? = some x, fun i H x H' => H' = H ∧ ∀ xs, SqL K H a xs → xs[i]? = some x, fun i H => ∃ xs, SqL K H a xs ∧ xs.length ≤ i⟩
def Itt (K : PySem.W.Frag) (a : Addr) : It :=
  ⟨fun i H => ∃ xs x, SqT K H a xs ∧ xs[i]? = some x, fun i H x H' => H' = H ∧ ∀ xs, SqT K H a xs → xs[i]? = some x, fun i H => ∃ xs, SqT K H a xs ∧ xs.length ≤ i⟩
/-- lo, lo + 1, .. (n of them) -/
def Itr (lo : Int) (n : Nat) : It := ⟨fun i _ => i < n, fun i H x H' => H' = H ∧ x = .int (lo + i), fun i _ => n ≤ i⟩
theorem turn_list {P : Program} {w : World} {K : PySem.W.Frag} {tg : Expr} (a it : Addr) : Turn true P w K tg (Itl K a) [it] it (fun i h => h.IsListIter it a i) where
  mem := by simp
  obj := fun i h st b hb => by
    have e : b = it := by simpa using hb
    subst e
    obtain ⟨o, e, c, d⟩ := st
    exact ⟨o, e, fun v z => by rw [d] at z; cases z⟩
  keep := fun i h h' st k => st.at fun o e => k it (by simp) o e
  item := by
    intro X hP hw hK hc i pins s σ H E I hf st hg
    subst hP hw hK
    obtain ⟨xs, x, hq, hx⟩ := hg
    obtain ⟨its, rv, p, hz⟩ := I.list hq
    obtain ⟨u, hu, ru⟩ := rv.get hx
    obtain ⟨f0, f1, f2, f3, f4, f5⟩ := hf it (by simp)
    refine wpAny_pyNext_list_item st p.isList (x := u) (by simpa using hu) fun h' st' sb => ?_
    have I1 : Inv X pins σ H { s with heap := h' } := I.turned (t' := s.toks) (fun b o hb e => (sb.2 b hb).trans e) f0 f1 f3 f4 f5
    obtain ⟨o, e, c, d⟩ := id st'
    exact ⟨u, rfl, go_of (s := { s with heap := h' }) e c d (by decide) ⟨x, H, I1, ru, ⟨rfl, fun ys hy => by rw [I.list_inj hy hq]; exact hx⟩, st', fun b hb => (hf b hb).1⟩⟩
  done := by
    intro X hP hw hK hc i pins s σ H E I hf st hg
    subst hP hw hK
    obtain ⟨xs, hq, hx⟩ := hg
    obtain ⟨its, rv, p, hz⟩ := I.list hq
    obtain ⟨f0, f1, f2, f3, f4, f5⟩ := hf it (by simp)
    have hl := rv.length
    exact wpAny_pyNext_list_end (I.ok.hd (hc rfl)) st p.isList (by simp; omega) fun h' eb => ⟨rfl, I.turned (t' := s.toks) (fun b o hb e => eb b o hb e) f0 f1 f3 f4 f5⟩
  self := fun _ _ _ _ _ st h => wpAny_pyIter_listiter st h
theorem turn_tuple {P : Program} {w : World} {K : PySem.W.Frag} {tg : Expr} (a it : Addr) : Turn true P w K tg (Itt K a) [it] it (fun i h => h.IsTupleIter it a i) where
  mem := by simp
  obj := fun i h st b hb => by
    have e : b = it := by simpa using hb
    subst e
    obtain ⟨o, e, c, d⟩ := st
    exact ⟨o, e, fun v z => by rw [d] at z; cases z⟩
  keep := fun i h h' st k => st.at fun o e => k it (by simp) o e
  item := by
    intro X hP hw hK hc i pins s σ H E I hf st hg
    subst hP hw hK
    obtain ⟨xs, x, hq, hx⟩ := hg
    obtain ⟨its, rv, p, hz⟩ := I.tuple hq
    obtain ⟨u, hu, ru⟩ := rv.get hx
    obtain ⟨f0, f1, f2, f3, f4, f5⟩ := hf it (by simp)
    refine wpAny_pyNext_tuple_item st (show s.heap.IsTuple a its.toArray from p) (x := u) (by simpa using hu) fun h' st' sb => ?_
    have I1 : Inv X pins σ H { s with heap := h' } := I.turned (t' := s.toks) (fun b o hb e => (sb.2 b hb).trans e) f0 f1 f3 f4 f5
    obtain ⟨o, e, c, d⟩ := id st'
    exact ⟨u, rfl, go_of (s := { s with heap := h' }) e c d (by decide) ⟨x, H, I1, ru, ⟨rfl, fun ys hy => by rw [I.tuple_inj hy hq]; exact hx⟩, st', fun b hb => (hf b hb).1⟩⟩
  done := by
    intro X hP hw hK hc i pins s σ H E I hf st hg
    subst hP hw hK
    obtain ⟨xs, hq, hx⟩ := hg
    obtain ⟨its, rv, p, hz⟩ := I.tuple hq
    obtain ⟨f0, f1, f2, f3, f4, f5⟩ := hf it (by simp)
    have hl := rv.length
    exact wpAny_pyNext_tuple_end (I.ok.hd (hc rfl)) st (show s.heap.IsTuple a its.toArray from p) (by simp; omega) fun h' eb => ⟨rfl, I.turned (t' := s.toks) (fun b o hb e => eb b o hb e) f0 f1 f3 f4 f5⟩
  self := fun _ _ _ _ _ st h => wpAny_pyIter_tupleiter st h
theorem turn_range {P : Program} {w : World} {K : PySem.W.Frag} {tg : Expr} (it : Addr) (lo : Int) (n : Nat) : Turn true P w K tg (Itr lo n) [it] it (fun i h => IsRangeIter h it (lo + (i : Nat) * 1) ((n : Int) - (i : Nat)) 1) where
  mem := by simp
  obj := fun i h st b hb => by
    have e : b = it := by simpa using hb
    subst e
    exact ⟨_, st, fun v z => by
      have z' : Data.fields _ = Data.cell v := z
      cases z'⟩
  keep := fun i h h' st k => k it (by simp) _ st
  item := by
    intro X hP hw hK hc i pins s σ H E I hf st hg
    subst hP hw hK
    obtain ⟨f0, f1, f2, f3, f4, f5⟩ := hf it (by simp)
    have W := Walks.range (prog := X.prog) (w := X.w) (I.ok.hd (hc rfl)) it lo 1 n
    refine W.item i s _ _ hg st fun v h' tk hv st' kk => ?_
    obtain ⟨t, rfl⟩ := hv
    have I1 : Inv X pins σ H { s with heap := h', toks := tk } := I.turned (fun b o hb e => kk b o (by simpa using hb) e) f0 f1 f3 f4 f5
    refine ⟨_, rfl, go_of (s := { s with heap := h', toks := tk }) (n := "range_iterator") st' rfl rfl (by decide) ⟨.int (lo + i), H, I1, ⟨t, ?_⟩, ⟨rfl, rfl⟩, st', fun b hb => (hf b hb).1⟩⟩
    rw [Int.mul_one]
  done := by
    intro X hP hw hK hc i pins s σ H E I hf st hg
    subst hP hw hK
    obtain ⟨f0, f1, f2, f3, f4, f5⟩ := hf it (by simp)
    exact wpAny_pyNext_range_end (I.ok.hd (hc rfl)) st (by have : n ≤ i := hg; omega) fun h' eb => ⟨rfl, I.turned (t' := s.toks) (fun b o hb e => eb b o hb e) f0 f1 f3 f4 f5⟩
  self := fun _ _ _ _ _ st h => wpAny_pyIter_rangeiter st h
end L2

namespace L2
open PySem PySem.Spec PyProof.Rows
section
variable {X : Cx} {tg : Expr}
def iList (K : PySem.W.Frag) (tl : TE) : TI := fun σ H R => tl σ H fun x H1 => ∃ a, x = .ref a ∧ (∃ xs, SqL K H1 a xs) ∧ R (Itl K a) H1
def iTup (K : PySem.W.Frag) (tl : TE) : TI := fun σ H R => tl σ H fun x H1 => ∃ a, x = .ref a ∧ (∃ xs, SqT K H1 a xs) ∧ R (Itt K a) H1
theorem pi_list {l : Expr} {tl : TE} (hl : PE X l tl) : PI X tg l (iList X.K tl) := by
  intro pins s σ H R I h
  refine thn (hl pins s σ H _ I h) fun v s1 ⟨x, H1, I1, r1, q1⟩ => ?_
  obtain ⟨a, e, ⟨xs, hq⟩, q⟩ := q1
  subst e
  cases r1
  obtain ⟨its, rv, p, hz⟩ := I1.list hq
  refine wpAny_pyIter_list p.isList ?_
  refine ⟨s1.heap.objs.size, [s1.heap.objs.size], _, _, H1, rfl, I1.kept (t' := s1.toks) fun b o e => Heap.get?_push_of_some _ e, turn_list a _, ⟨_, Heap.get?_push_size _ rfl, rfl, rfl⟩, fun b hb => ?_, q⟩
  have e : b = s1.heap.objs.size := by simpa using hb
  subst e
  exact I1.fpOk (Nat.le_refl _) (I1.hok.fresh (Nat.le_refl _))
theorem pi_tup {l : Expr} {tl : TE} (hl : PE X l tl) : PI X tg l (iTup X.K tl) := by
  intro pins s σ H R I h
  refine thn (hl pins s σ H _ I h) fun v s1 ⟨x, H1, I1, r1, q1⟩ => ?_
  obtain ⟨a, e, ⟨xs, hq⟩, q⟩ := q1
  subst e
  cases r1
  obtain ⟨its, rv, p, hz⟩ := I1.tuple hq
  refine wpAny_pyIter_tuple (show s1.heap.IsTuple a its.toArray from p) ?_
  refine ⟨s1.heap.objs.size, [s1.heap.objs.size], _, _, H1, rfl, I1.kept (t' := s1.toks) fun b o e => Heap.get?_push_of_some _ e, turn_tuple a _, ⟨_, Heap.get?_push_size _ rfl, rfl, rfl⟩, fun b hb => ?_, q⟩
  have e : b = s1.heap.objs.size := by simpa using hb
  subst e
  exact I1.fpOk (Nat.le_refl _) (I1.hok.fresh (Nat.le_refl _))
/-- a range object just made, walked -/
theorem range_it {pins : List (Addr × Obj)} {σ : St} {H : Hp} {s : Shared} {R : It → Hp → Prop} {E : Value → Shared → Prop} {lo hi : Int} {t u v : Tok} {tk : Nat} (I : Inv X pins σ H s) (h1 : -(2 ^ 62) ≤ lo) (h2 : lo < 2 ^ 62) (h3 : -(2 ^ 62) ≤ hi) (h4 : hi < 2 ^ 62)
    (q : R (Itr lo (hi - lo).toNat) H) : wpAny (model X.prog X.w) X.A (pyIter (.ref s.heap.objs.size)) (PIE true X pins σ tg R) E { s with heap := s.heap.push { cls := .type "range", data := .fields #[.int lo t, .int hi u, .int 1 v] }, toks := tk } := by
  refine wpAny_pyIter_range (IsRange.new ..) (small_one h1 h2 h3 h4) ?_
  have I1 : Inv X pins σ H { s with heap := s.heap.push { cls := .type "range", data := .fields #[.int lo t, .int hi u, .int 1 v] }, toks := tk } := I.kept fun b o e => Heap.get?_push_of_some _ e
  refine ⟨(s.heap.push { cls := .type "range", data := .fields #[.int lo t, .int hi u, .int 1 v] }).objs.size, [(s.heap.push { cls := .type "range", data := .fields #[.int lo t, .int hi u, .int 1 v] }).objs.size], _, _, H, rfl,
    I1.kept (t' := tk) fun b o e => Heap.get?_push_of_some _ e, turn_range _ lo (hi - lo).toNat, ?_, fun b hb => ?_, q⟩
  · have e1 : lo + ((0 : Nat) : Int) * 1 = lo := by simp
    have e2 : (((hi - lo).toNat : Nat) : Int) - ((0 : Nat) : Int) = Builtin.Range.rangeSize lo hi 1 := by rw [rangeSize_one]; split <;> omega
    show IsRangeIter _ _ (lo + ((0 : Nat) : Int) * 1) ((((hi - lo).toNat : Nat) : Int) - ((0 : Nat) : Int)) 1
    rw [e1, e2]
    exact Heap.get?_push_size _ rfl
  · have e : b = (s.heap.push { cls := .type "range", data := .fields #[.int lo t, .int hi u, .int 1 v] }).objs.size := by simpa using hb
    subst e
    exact I1.fpOk (Nat.le_refl _) (I1.hok.fresh (Nat.le_refl _))
def iRng1 (ta : TA) : TI := fun σ H R => ta σ H fun vs H1 => ∃ j : Int, vs = [.int j] ∧ -(2 ^ 62) ≤ j ∧ j < 2 ^ 62 ∧ R (Itr 0 j.toNat) H1
def iRng2 (ta : TA) : TI := fun σ H R => ta σ H fun vs H1 => ∃ i j : Int, vs = [.int i, .int j] ∧ (-(2 ^ 62) ≤ i ∧ i < 2 ^ 62 ∧ -(2 ^ 62) ≤ j ∧ j < 2 ^ 62) ∧ R (Itr i (j - i).toNat) H1
theorem pi_range1 {a : Expr} {ta : TA} {p pos : Pos} (hg : Gl X "range") (hm : X.mg "range" = none) (ha : PA X [a] ta) (hs : starEach [a] X.env = [(false, eval a X.env)] := by rfl) : PI X tg (.Call (.Name "range" p) [a] [] pos) (iRng1 ta) := by
  intro pins s σ H R I h
  refine Call_ (ld_blt I hg hm boot_range (PyProof.Rows.callWith_type1 (thn (ha pos pins s σ H _ I h) fun us s1 ⟨vs, H1, I1, r1, q1⟩ => ?_) hs rfl))
  obtain ⟨j, e, q1, q2, q⟩ := q1
  subst e
  cases r1 with
  | cons r rr =>
    cases rr
    obtain ⟨t, rfl⟩ := r
    exact call_range_1 (range_it I1 (by omega) (by omega) q1 q2 (by simpa using q))
/-! ### for -/
/-- W: the invariant by the turn and a measure; N: what the body is to reach -/
def tFor (wi : TI) (g : TG) (tb : TS) : TS := fun D σ H => wi σ H fun J H1 => ∃ W : Nat → Nat → St → Hp → Prop, (∃ m, W 0 m σ H1) ∧ ∀ i m σ H, W i m σ H →
  (J.stop i H ∧ D.nx σ H) ∨ (J.go i H ∧ ∃ N : St → Hp → Prop, (∀ σ' H', N σ' H' → ∃ m', m' < m ∧ W (i + 1) m' σ' H') ∧ ∀ x H', J.yld i H x H' → g x σ H' fun σ2 H2 => tb { D with nx := N, ct := N, bk := D.nx } σ2 H2)
/-- the records at fp as they stand -/
def pinsAt (fp : List Addr) (h : Heap) : List (Addr × Obj) := fp.filterMap fun b => (h.get? b).map fun o => (b, o)
theorem mem_pinsAt {fp : List Addr} {h : Heap} {b : Addr} {o : Obj} (hb : b ∈ fp) (e : h.get? b = some o) : (b, o) ∈ pinsAt fp h := List.mem_filterMap.mpr ⟨b, hb, by rw [e]; rfl⟩
theorem of_pinsAt {fp : List Addr} {h : Heap} {p : Addr × Obj} (hp : p ∈ pinsAt fp h) : p.1 ∈ fp ∧ h.get? p.1 = some p.2 := by
  obtain ⟨b, hb, e⟩ := List.mem_filterMap.mp hp
  cases q : h.get? b with
  | none => rw [q] at e; cases e
  | some o =>
    rw [q] at e
    have e' : (b, o) = p := Option.some.inj e
    subst e'
    exact ⟨hb, q⟩
theorem Inv.pinned {pins : List (Addr × Obj)} {σ : St} {H : Hp} {s : Shared} {fp : List Addr} (I : Inv X pins σ H s) (hf : ∀ b ∈ fp, FpOk X pins H b) (ho : ∀ b ∈ fp, ∃ o, s.heap.get? b = some o ∧ ∀ v, o.data ≠ .cell v) : Inv X (pins ++ pinsAt fp s.heap) σ H s :=
  I.pins_of fun p hp => (List.mem_append.mp hp).elim (fun z => I.pin p (List.mem_append_right _ z)) fun z => by
    obtain ⟨hb, e⟩ := of_pinsAt z
    obtain ⟨f0, f1, f2, _⟩ := hf p.1 hb
    obtain ⟨o, e', d⟩ := ho p.1 hb
    rw [e] at e'; cases e'
    exact ⟨e, f0, f1, f2, d⟩
theorem Inv.unpinned {pins pl : List (Addr × Obj)} {σ : St} {H : Hp} {s : Shared} (I : Inv X (pins ++ pl) σ H s) : Inv X pins σ H s := I.pins_of fun p hp => I.pin p (List.mem_append_right _ (List.mem_append_left _ hp))
theorem ps_for {c : Bool} {iter : Expr} {body : List Stmt} {wi : TI} {g : TG} {tb : TS} {pos : Pos} (hp : PassesOwn (model X.prog X.w) X.A X.env X.xe) (hc : c = true → X.calm = true) (hi : PIc c X tg iter wi) (hg : PG X tg g) (hb : PSs X body tb)
    (hs : ∀ x, foldedSetIterable iter X.env x = pure x := by intro _; rfl) : PS X (.For tg iter body [] pos) (tFor wi g tb) := by
  intro pins s σ H D I h
  refine wpAny_For (thn (hi pins s σ H _ I h) fun v s1 h1 => thn h1 fun itv s2 h2 => ?_) hs
  obtain ⟨it, fp, tn, J, H2, e, I2, T, st2, f2, W, ⟨m0, w0⟩, turn⟩ := h2
  subst e
  -- what stays true of the iterator's objects through the loop
  have stat : ∀ {H' : Hp}, (∀ b ∈ fp, H' b = none) → ∀ b ∈ fp, FpOk X pins H' b := fun hn b hb => ⟨hn b hb, (f2 b hb).2⟩
  refine codeAny_forLoop_any (fun n s' => ∃ i σ' H', Inv X pins σ' H' s' ∧ tn i s'.heap ∧ (∀ b ∈ fp, H' b = none) ∧ W i n σ' H') ?_ m0 ⟨0, σ, H2, I2, st2, fun b hb => (f2 b hb).1, w0⟩
  rintro n s3 ⟨i, σ3, H3, I3, st3, fr3, w3⟩
  rcases turn i n σ3 H3 w3 with ⟨stop, qn⟩ | ⟨go, N, hN, step⟩
  · refine wpAny_passesOwn hp (thn (T.done X rfl rfl rfl hc i pins s3 σ3 H3 X.xe I3 (stat fr3) st3 stop) fun r s4 ⟨hr, I4⟩ => ?_)
    subst hr
    exact wpAny_execs_nil ⟨σ3, H3, I4, qn⟩
  · refine wpAny_passesOwn hp (thn (T.item X rfl rfl rfl hc i pins s3 σ3 H3 X.xe I3 (stat fr3) st3 go) fun r s4 ⟨u, hr, h4⟩ => ?_)
    subst hr
    refine wpAny_passesOwn hp (thn h4 fun _ s5 ⟨x, H5, I5, r5, y5, st5, fr5⟩ => ?_)
    have I5' := I5.pinned (stat fr5) (T.obj _ _ st5)
    refine wpAny_passesOwn hp (thn (hg _ s5 σ3 H5 x u _ I5' r5 (step x H5 y5)) fun _ s6 ⟨σ6, H6, I6, q6⟩ => ?_)
    refine wpAny_passesOwn hp (thn (hb _ s6 σ6 H6 _ I6 q6) fun f s7 q7 => ?_)
    have again : ∀ {σ7 : St} {H7 : Hp}, Inv X (pins ++ pinsAt fp s5.heap) σ7 H7 s7 → N σ7 H7 → ∃ m, m < n ∧ ∃ i σ' H', Inv X pins σ' H' s7 ∧ tn i s7.heap ∧ (∀ b ∈ fp, H' b = none) ∧ W i m σ' H' := fun {σ7 H7} I7 n7 => by
      obtain ⟨m', hm, w7⟩ := hN σ7 H7 n7
      refine ⟨m', hm, i + 1, σ7, H7, I7.unpinned, T.keep _ _ _ st5 fun b hb o e => (I7.pin (b, o) (List.mem_append_right _ (List.mem_append_right _ (mem_pinsAt hb e)))).1, fun b hb => ?_, w7⟩
      obtain ⟨o, e, d⟩ := T.obj _ _ st5 b hb
      exact (I7.pin (b, o) (List.mem_append_right _ (List.mem_append_right _ (mem_pinsAt hb e)))).2.1
    cases f with
    | next => obtain ⟨σ7, H7, I7, n7⟩ := q7; exact again I7 n7
    | cont => obtain ⟨σ7, H7, I7, n7⟩ := q7; exact again I7 n7
    | brk => obtain ⟨σ7, H7, I7, q7⟩ := q7; exact ⟨σ7, H7, I7.unpinned, q7⟩
    | ret v => obtain ⟨x7, σ7, H7, I7, r7, q7⟩ := q7; exact ⟨x7, σ7, H7, I7.unpinned, r7, q7⟩
end

/-! ### the forms one uses -/
/-- over a list that the body leaves as it is -/
theorem for_list {K : PySem.W.Frag} {a : Addr} {xs : List V} {g : TG} {tb : TS} {D : Ends} {σ : St} {H : Hp} (Pv : Nat → St → Hp → Prop) (h0 : Pv 0 σ H) (hl : ∀ i σ H, i ≤ xs.length → Pv i σ H → SqL K H a xs)
    (hs : ∀ i x σ H, xs[i]? = some x → Pv i σ H → g x σ H fun σ2 H2 => tb { D with nx := Pv (i + 1), ct := Pv (i + 1), bk := D.nx } σ2 H2) (hd : ∀ σ H, Pv xs.length σ H → D.nx σ H) :
    ∃ W : Nat → Nat → St → Hp → Prop, (∃ m, W 0 m σ H) ∧ ∀ i m σ H, W i m σ H →
      ((Itl K a).stop i H ∧ D.nx σ H) ∨ ((Itl K a).go i H ∧ ∃ N : St → Hp → Prop, (∀ σ' H', N σ' H' → ∃ m', m' < m ∧ W (i + 1) m' σ' H') ∧ ∀ x H', (Itl K a).yld i H x H' → g x σ H' fun σ2 H2 => tb { D with nx := N, ct := N, bk := D.nx } σ2 H2) := by
  refine ⟨fun i m σ H => m = xs.length - i ∧ i ≤ xs.length ∧ Pv i σ H, ⟨xs.length, by simp, Nat.zero_le _, h0⟩, ?_⟩
  rintro i m σ H ⟨rfl, hi, p⟩
  have q := hl i σ H hi p
  by_cases hlt : i < xs.length
  · refine .inr ⟨⟨xs, xs[i], q, by simp [hlt]⟩, Pv (i + 1), fun σ' H' p' => ⟨xs.length - (i + 1), by omega, rfl, hlt, p'⟩, fun x H' y => ?_⟩
    obtain ⟨e, y⟩ := y
    subst e
    exact hs i x σ _ (y xs q) p
  · have e : i = xs.length := by omega
    subst e
    exact .inl ⟨⟨xs, q, Nat.le_refl _⟩, hd σ H p⟩
theorem for_tup {K : PySem.W.Frag} {a : Addr} {xs : List V} {g : TG} {tb : TS} {D : Ends} {σ : St} {H : Hp} (Pv : Nat → St → Hp → Prop) (h0 : Pv 0 σ H) (hl : ∀ i σ H, i ≤ xs.length → Pv i σ H → SqT K H a xs)
    (hs : ∀ i x σ H, xs[i]? = some x → Pv i σ H → g x σ H fun σ2 H2 => tb { D with nx := Pv (i + 1), ct := Pv (i + 1), bk := D.nx } σ2 H2) (hd : ∀ σ H, Pv xs.length σ H → D.nx σ H) :
    ∃ W : Nat → Nat → St → Hp → Prop, (∃ m, W 0 m σ H) ∧ ∀ i m σ H, W i m σ H →
      ((Itt K a).stop i H ∧ D.nx σ H) ∨ ((Itt K a).go i H ∧ ∃ N : St → Hp → Prop, (∀ σ' H', N σ' H' → ∃ m', m' < m ∧ W (i + 1) m' σ' H') ∧ ∀ x H', (Itt K a).yld i H x H' → g x σ H' fun σ2 H2 => tb { D with nx := N, ct := N, bk := D.nx } σ2 H2) := by
  refine ⟨fun i m σ H => m = xs.length - i ∧ i ≤ xs.length ∧ Pv i σ H, ⟨xs.length, by simp, Nat.zero_le _, h0⟩, ?_⟩
  rintro i m σ H ⟨rfl, hi, p⟩
  have q := hl i σ H hi p
  by_cases hlt : i < xs.length
  · refine .inr ⟨⟨xs, xs[i], q, by simp [hlt]⟩, Pv (i + 1), fun σ' H' p' => ⟨xs.length - (i + 1), by omega, rfl, hlt, p'⟩, fun x H' y => ?_⟩
    obtain ⟨e, y⟩ := y
    subst e
    exact hs i x σ _ (y xs q) p
  · have e : i = xs.length := by omega
    subst e
    exact .inl ⟨⟨xs, q, Nat.le_refl _⟩, hd σ H p⟩
theorem for_range {lo : Int} {n : Nat} {g : TG} {tb : TS} {D : Ends} {σ : St} {H : Hp} (Pv : Nat → St → Hp → Prop) (h0 : Pv 0 σ H)
    (hs : ∀ i σ H, i < n → Pv i σ H → g (.int (lo + i)) σ H fun σ2 H2 => tb { D with nx := Pv (i + 1), ct := Pv (i + 1), bk := D.nx } σ2 H2) (hd : ∀ σ H, Pv n σ H → D.nx σ H) :
    ∃ W : Nat → Nat → St → Hp → Prop, (∃ m, W 0 m σ H) ∧ ∀ i m σ H, W i m σ H →
      ((Itr lo n).stop i H ∧ D.nx σ H) ∨ ((Itr lo n).go i H ∧ ∃ N : St → Hp → Prop, (∀ σ' H', N σ' H' → ∃ m', m' < m ∧ W (i + 1) m' σ' H') ∧ ∀ x H', (Itr lo n).yld i H x H' → g x σ H' fun σ2 H2 => tb { D with nx := N, ct := N, bk := D.nx } σ2 H2) := by
  refine ⟨fun i m σ H => m = n - i ∧ i ≤ n ∧ Pv i σ H, ⟨n, by simp, Nat.zero_le _, h0⟩, ?_⟩
  rintro i m σ H ⟨rfl, hi, p⟩
  by_cases hlt : i < n
  · refine .inr ⟨hlt, Pv (i + 1), fun σ' H' p' => ⟨n - (i + 1), by omega, rfl, hlt, p'⟩, fun x H' y => ?_⟩
    obtain ⟨e, y⟩ := y
    subst e y
    exact hs i σ _ hlt p
  · have e : i = n := by omega
    subst e
    exact .inl ⟨Nat.le_refl _, hd σ H p⟩
end L2

namespace L2
open PySem PySem.Spec PyProof.Rows

abbrev R2 := V → V → Hp → VK → Prop
/-- a two-place operation on values: f is binaryOp op, inplaceOp op or compareOp op -/
def OpR (X : Cx) (f : Value → Value → Sem Value) (r : R2) : Prop :=
  ∀ (pins : List (Addr × Obj)) (s : Shared) (σ : St) (H : Hp) (x y : V) (v u : Value) (Q : VK), Inv X pins σ H s → RelV x v → RelV y u → r x y H Q →
    wpAny (model X.prog X.w) X.A (f v u) (EP X pins σ Q) X.xe s
/-- a one-place operation -/
def UnR (X : Cx) (f : Value → Sem Value) (r : V → Hp → VK → Prop) : Prop :=
  ∀ (pins : List (Addr × Obj)) (s : Shared) (σ : St) (H : Hp) (x : V) (v : Value) (Q : VK), Inv X pins σ H s → RelV x v → r x H Q →
    wpAny (model X.prog X.w) X.A (f v) (EP X pins σ Q) X.xe s
/-- a call of a value that is known (a builtin, a type) with values -/
def CallR (X : Cx) (f : Value) (r : List V → Hp → VK → Prop) : Prop :=
  ∀ (pins : List (Addr × Obj)) (s : Shared) (σ : St) (H : Hp) (xs : List V) (us : List Value) (Q : VK), Inv X pins σ H s → Vals xs us → r xs H Q →
    wpAny (model X.prog X.w) X.A (call f us) (EP X pins σ Q) X.xe s
/-- a value's truth -/
def TruR (X : Cx) (r : V → Hp → (Bool → Hp → Prop) → Prop) : Prop :=
  ∀ (pins : List (Addr × Obj)) (s : Shared) (σ : St) (H : Hp) (x : V) (v : Value) (Q : Bool → Hp → Prop), Inv X pins σ H s → RelV x v → r x H Q →
    wpAny (model X.prog X.w) X.A (truthy v) (TP X pins σ Q) X.xe s

def tOp (r : R2) (ta tb : TE) : TE := fun σ H Q => ta σ H fun x H1 => tb σ H1 fun y H2 => r x y H2 Q
def tUn (r : V → Hp → VK → Prop) (ta : TE) : TE := fun σ H Q => ta σ H fun x H1 => r x H1 Q
/-- ints in, under C, and a value out -/
def rI (C : Int → Int → Prop) (g : Int → Int → V) : R2 := fun x y H Q => ∃ i j, x = .int i ∧ y = .int j ∧ C i j ∧ Q (g i j) H
def rI0 (g : Int → Int → V) : R2 := fun x y H Q => ∃ i j, x = .int i ∧ y = .int j ∧ Q (g i j) H
def rU (g : Int → V) : V → Hp → VK → Prop := fun x H Q => ∃ i, x = .int i ∧ Q (g i) H

section
variable {X : Cx} {a b c : Expr} {ta tb tc : TE} {pos : Pos}

theorem binT (ha : PE X a ta) (hb : PE X b tb) {pins : List (Addr × Obj)} {s : Shared} {σ : St} {H : Hp} {R : V → V → Hp → Prop} (I : Inv X pins σ H s)
    (h : ta σ H fun x H1 => tb σ H1 fun y H2 => R x y H2) {Q : Value → Shared → Prop} {f : Value → Value → Sem Value}
    (hf : ∀ v u s2 x y H2, Inv X pins σ H2 s2 → RelV x v → RelV y u → R x y H2 → wpAny (model X.prog X.w) X.A (f v u) Q X.xe s2) :
    wpAny (model X.prog X.w) X.A (eval a X.env) (fun v s₁ => wpAny (model X.prog X.w) X.A (eval b X.env) (fun u s₂ => wpAny (model X.prog X.w) X.A (f v u) Q X.xe s₂) X.xe s₁) X.xe s := by
  refine thn (ha pins s σ H _ I h) fun v s1 ⟨x, H1, I1, r1, q1⟩ => ?_
  refine thn (hb pins s1 σ H1 _ I1 q1) fun u s2 ⟨y, H2, I2, r2, q2⟩ => ?_
  exact hf v u s2 x y H2 I2 r1 r2 q2

theorem pe_op {op : Operator} {r : R2} (ho : OpR X (binaryOp op) r) (ha : PE X a ta) (hb : PE X b tb) : PE X (.BinOp a op b pos) (tOp r ta tb) := by
  intro pins s σ H Q I h
  exact wpAny_BinOp (binT ha hb I h fun v u s2 x y H2 I2 rx ry q => ho pins s2 σ H2 x y v u Q I2 rx ry q)
theorem pe_un {op : UnaryOp} {r : V → Hp → VK → Prop} (ho : UnR X (unaryOp op) r) (ha : PE X a ta) : PE X (.UnaryOp op a pos) (tUn r ta) := by
  intro pins s σ H Q I h
  exact UnaryOp_ (thn (ha pins s σ H _ I h) fun v s1 ⟨x, H1, I1, r1, q1⟩ => ho pins s1 σ H1 x v Q I1 r1 q1)
/-! ### ints -/
theorem opI {f : Value → Value → Sem Value} {C : Int → Int → Prop} {g : Int → Int → Int}
    (rule : ∀ (i j : Int) (t u : Tok) (s : Shared) (Q : Value → Shared → Prop) (E : Value → Shared → Prop), C i j → Q (.int (g i j) s.toks) { s with toks := s.toks + 1 } → wpAny (model X.prog X.w) X.A (f (.int i t) (.int j u)) Q E s) :
    OpR X f (rI C fun i j => .int (g i j)) := by
  intro pins s σ H x y v u Q I rx ry h
  obtain ⟨i, j, rfl, rfl, hc, q⟩ := h
  obtain ⟨t, rfl⟩ := rx
  obtain ⟨t', rfl⟩ := ry
  exact rule i j t t' s _ _ hc ⟨.int (g i j), H, I.tok _, ⟨_, rfl⟩, q⟩
theorem opI0 {f : Value → Value → Sem Value} {g : Int → Int → Int}
    (rule : ∀ (i j : Int) (t u : Tok) (s : Shared) (Q : Value → Shared → Prop) (E : Value → Shared → Prop), Q (.int (g i j) s.toks) { s with toks := s.toks + 1 } → wpAny (model X.prog X.w) X.A (f (.int i t) (.int j u)) Q E s) :
    OpR X f (rI0 fun i j => .int (g i j)) := by
  intro pins s σ H x y v u Q I rx ry h
  obtain ⟨i, j, rfl, rfl, q⟩ := h
  obtain ⟨t, rfl⟩ := rx
  obtain ⟨t', rfl⟩ := ry
  exact rule i j t t' s _ _ ⟨.int (g i j), H, I.tok _, ⟨_, rfl⟩, q⟩
theorem opB0 {f : Value → Value → Sem Value} {g : Int → Int → Bool}
    (rule : ∀ (i j : Int) (t u : Tok) (s : Shared) (Q : Value → Shared → Prop) (E : Value → Shared → Prop), Q (.bool (g i j)) s → wpAny (model X.prog X.w) X.A (f (.int i t) (.int j u)) Q E s) :
    OpR X f (rI0 fun i j => .bl (g i j)) := by
  intro pins s σ H x y v u Q I rx ry h
  obtain ⟨i, j, rfl, rfl, q⟩ := h
  obtain ⟨t, rfl⟩ := rx
  obtain ⟨t', rfl⟩ := ry
  exact rule i j t t' s _ _ ⟨.bl (g i j), H, I, rfl, q⟩

def CDiv (i j : Int) : Prop := 0 < j ∧ j < 1073741824
def CPow (i j : Int) : Prop := 0 ≤ j ∧ j ≤ 1000000 ∧ i.natAbs < 2 ^ 64
def CMul (i j : Int) : Prop := (-(2 ^ 64) < i ∧ i < 2 ^ 64) ∨ (-(2 ^ 64) < j ∧ j < 2 ^ 64)
theorem CMul.ok {i j : Int} (h : CMul i j) : IntMulOk i j := by
  rcases h with ⟨h1, h2⟩ | ⟨h1, h2⟩
  · exact .of_left (intBits_le_64 h1 h2)
  · exact .of_right (intBits_le_64 h1 h2)
theorem op_add : OpR X (binaryOp .Add) (rI0 fun i j => .int (i + j)) := opI0 fun _ _ _ _ _ _ _ q => add_int q
theorem op_sub : OpR X (binaryOp .Sub) (rI0 fun i j => .int (i - j)) := opI0 fun _ _ _ _ _ _ _ q => sub_int q
theorem op_mul : OpR X (binaryOp .Mult) (rI CMul fun i j => .int (i * j)) := opI fun _ _ _ _ _ _ _ hc q => mul_int q hc.ok
/-- // by a positive divisor -/
theorem op_fdiv : OpR X (binaryOp .FloorDiv) (rI CDiv fun i j => .int (i / j)) := opI fun i j _ _ _ _ _ hc q => by
  have h1 : (0 : Int) < j := hc.1
  have h2 : j < 1073741824 := hc.2
  exact floordiv_int (by omega) (by rw [Int.fdiv_eq_ediv_of_nonneg i (by omega)]; exact q) (.inl (PyProof.noPylong_small (by omega)))
/-- % by a positive divisor of any size -/
theorem op_mod : OpR X (binaryOp .Mod) (rI (fun _ j => 0 < j) fun i j => .int (i % j)) := opI fun i j _ _ _ _ _ hc q => by
  have h1 : (0 : Int) < j := hc
  exact mod_int' (by omega) (by rw [Int.fmod_eq_emod_of_nonneg i (by omega)]; exact q)
theorem op_pow : OpR X (binaryOp .Pow) (rI CPow fun i j => .int (i ^ j.toNat)) := opI fun _ _ _ _ _ _ _ hc q => pow_int_small hc.1 hc.2.1 hc.2.2 q
theorem unI {f : Value → Sem Value} {g : Int → Int}
    (rule : ∀ (i : Int) (t : Tok) (s : Shared) (Q : Value → Shared → Prop) (E : Value → Shared → Prop), Q (.int (g i) s.toks) { s with toks := s.toks + 1 } → wpAny (model X.prog X.w) X.A (f (.int i t)) Q E s) :
    UnR X f (rU fun i => .int (g i)) := by
  intro pins s σ H x v Q I rx h
  obtain ⟨i, rfl, q⟩ := h
  obtain ⟨t, rfl⟩ := rx
  exact rule i t s _ _ ⟨.int (g i), H, I.tok _, ⟨_, rfl⟩, q⟩
theorem un_neg : UnR X (unaryOp .USub) (rU fun i => .int (-i)) := unI fun _ _ _ _ _ q => neg_int q
/-! ### bools among ints: n += (a < b) -/
end

/-! ### comparisons -/
/-- the scalars that == tells apart as data does -/
def scal : V → V → Bool
  | .non, .non => true | .non, .int _ => true | .int _, .non => true | .non, .bl _ => true | .bl _, .non => true | .non, .str _ => true | .str _, .non => true
  | .int _, .int _ => true | .bl _, .bl _ => true | .str _, .str _ => true | .byt _, .byt _ => true
  | .int _, .str _ => true | .str _, .int _ => true | .bl _, .str _ => true | .str _, .bl _ => true
  | _, _ => false
def rEq : R2 := fun x y H Q => scal x y = true ∧ Q (.bl (decide (x = y))) H
def rNe : R2 := fun x y H Q => scal x y = true ∧ Q (.bl (!decide (x = y))) H

theorem dec_int {i j : Int} : decide (V.int i = V.int j) = (i == j) := by
  rw [Bool.eq_iff_iff]
  simp
theorem dec_bl {i j : Bool} : decide (V.bl i = V.bl j) = (i == j) := by
  rw [Bool.eq_iff_iff]
  simp
theorem dec_str {i j : Str} : decide (V.str i = V.str j) = (i == j) := by
  rw [Bool.eq_iff_iff]
  simp
theorem dec_byt {i j : Array UInt8} : decide (V.byt i = V.byt j) = (i.toList == j.toList) := by
  rw [Bool.eq_iff_iff]
  cases i
  cases j
  simp

section
variable {X : Cx} {a b c : Expr} {ta tb tc : TE} {pos : Pos}
theorem fin_bl {pins : List (Addr × Obj)} {σ : St} {H : Hp} {s : Shared} {Q : VK} {k k' : Bool} (I : Inv X pins σ H s) (q : Q (.bl k) H) (e : k = k') : EP X pins σ Q (.bool k') s := by
  subst e
  exact ⟨.bl k, H, I, rfl, q⟩
theorem op_eq : OpR X (compareOp .Eq) rEq := by
  intro pins s σ H x y v u Q I rx ry h
  obtain ⟨hs, q⟩ := h
  cases x with
  | non =>
    cases rx
    cases y with
    | non => cases ry; exact PySem.EqNone.eq_none_none (fin_bl I q (by simp))
    | bl j => cases ry; exact PySem.EqNone.eq_none_bool (fin_bl I q (by simp))
    | int j => obtain ⟨t', rfl⟩ := ry; exact PySem.EqNone.eq_none_int (fin_bl I q (by simp))
    | str j => obtain ⟨t', rfl⟩ := ry; exact PySem.EqNone.eq_none_str (fin_bl I q (by simp))
    | _ => exact absurd (show false = true from hs) Bool.false_ne_true
  | bl i =>
    cases rx
    cases y with
    | non => cases ry; exact PySem.EqNone.eq_bool_none (fin_bl I q (by simp))
    | bl j => cases ry; exact eq_bool (fin_bl I q dec_bl)
    | str j => obtain ⟨t', rfl⟩ := ry; exact PySem.EqMixed.eq_bool_str (fin_bl I q (by simp))
    | _ => exact absurd (show false = true from hs) Bool.false_ne_true
  | int i =>
    obtain ⟨t, rfl⟩ := rx
    cases y with
    | non => cases ry; exact PySem.EqNone.eq_int_none (fin_bl I q (by simp))
    | int j => obtain ⟨t', rfl⟩ := ry; exact eq_int (fin_bl I q dec_int)
    | str j => obtain ⟨t', rfl⟩ := ry; exact PySem.EqMixed.eq_int_str (fin_bl I q (by simp))
    | _ => exact absurd (show false = true from hs) Bool.false_ne_true
  | str i =>
    obtain ⟨t, rfl⟩ := rx
    cases y with
    | non => cases ry; exact PySem.EqNone.eq_str_none (fin_bl I q (by simp))
    | bl j => cases ry; exact PySem.EqMixed.eq_str_bool (fin_bl I q (by simp))
    | int j => obtain ⟨t', rfl⟩ := ry; exact PySem.EqMixed.eq_str_int (fin_bl I q (by simp))
    | str j => obtain ⟨t', rfl⟩ := ry; exact eq_str (fin_bl I q dec_str)
    | _ => exact absurd (show false = true from hs) Bool.false_ne_true
  | byt i =>
    obtain ⟨t, rfl⟩ := rx
    cases y with
    | byt j => obtain ⟨t', rfl⟩ := ry; exact PySem.W.eq_bytes (fin_bl I q dec_byt)
    | _ => exact absurd (show false = true from hs) Bool.false_ne_true
  | _ => cases y <;> exact absurd (show false = true from hs) Bool.false_ne_true
theorem op_ne : OpR X (compareOp .NotEq) rNe := by
  intro pins s σ H x y v u Q I rx ry h
  obtain ⟨hs, q⟩ := h
  cases x with
  | non =>
    cases rx
    cases y with
    | non => cases ry; exact PySem.EqNone.ne_none_none (fin_bl I q (by simp))
    | bl j => cases ry; exact PySem.EqNone.ne_none_bool (fin_bl I q (by simp))
    | int j => obtain ⟨t', rfl⟩ := ry; exact PySem.EqNone.ne_none_int (fin_bl I q (by simp))
    | str j => obtain ⟨t', rfl⟩ := ry; exact PySem.EqNone.ne_none_str (fin_bl I q (by simp))
    | _ => exact absurd (show false = true from hs) Bool.false_ne_true
  | bl i =>
    cases rx
    cases y with
    | non => cases ry; exact PySem.EqNone.ne_bool_none (fin_bl I q (by simp))
    | bl j => cases ry; exact ne_bool (fin_bl I q (congrArg not dec_bl))
    | str j => obtain ⟨t', rfl⟩ := ry; exact PySem.EqMixed.ne_bool_str (fin_bl I q (by simp))
    | _ => exact absurd (show false = true from hs) Bool.false_ne_true
  | int i =>
    obtain ⟨t, rfl⟩ := rx
    cases y with
    | non => cases ry; exact PySem.EqNone.ne_int_none (fin_bl I q (by simp))
    | int j => obtain ⟨t', rfl⟩ := ry; exact ne_int (fin_bl I q (congrArg not dec_int))
    | str j => obtain ⟨t', rfl⟩ := ry; exact PySem.EqMixed.ne_int_str (fin_bl I q (by simp))
    | _ => exact absurd (show false = true from hs) Bool.false_ne_true
  | str i =>
    obtain ⟨t, rfl⟩ := rx
    cases y with
    | non => cases ry; exact PySem.EqNone.ne_str_none (fin_bl I q (by simp))
    | bl j => cases ry; exact PySem.EqMixed.ne_str_bool (fin_bl I q (by simp))
    | int j => obtain ⟨t', rfl⟩ := ry; exact PySem.EqMixed.ne_str_int (fin_bl I q (by simp))
    | str j => obtain ⟨t', rfl⟩ := ry; exact ne_str (fin_bl I q (congrArg not dec_str))
    | _ => exact absurd (show false = true from hs) Bool.false_ne_true
  | byt i =>
    obtain ⟨t, rfl⟩ := rx
    cases y with
    | byt j => obtain ⟨t', rfl⟩ := ry; exact PySem.W.ne_bytes (fin_bl I q (congrArg not dec_byt))
    | _ => exact absurd (show false = true from hs) Bool.false_ne_true
  | _ => cases y <;> exact absurd (show false = true from hs) Bool.false_ne_true

theorem op_lt : OpR X (compareOp .Lt) (rI0 fun i j => .bl (decide (i < j))) := opB0 fun _ _ _ _ _ _ _ q => lt_int q
theorem op_le : OpR X (compareOp .LtE) (rI0 fun i j => .bl (decide (i ≤ j))) := opB0 fun _ _ _ _ _ _ _ q => le_int q
/-- the one string within the other -/
theorem op_in_str : OpR X (compareOp .In) (fun x y H Q => ∃ i j, x = .str i ∧ y = .str j ∧ Q (.bl (!(Builtin.Str.occurrences j i 0 j.length 1).isEmpty)) H) := by
  intro pins s σ H x y v u Q I rx ry h
  obtain ⟨i, j, rfl, rfl, q⟩ := h
  obtain ⟨t, rfl⟩ := rx
  obtain ⟨t', rfl⟩ := ry
  exact in_str (fin_bl I q rfl)

/-- is None, is not None: the right side a value none -/
theorem op_isN : OpR X (compareOp .Is) (fun x y H Q => y = .non ∧ Q (.bl (decide (x = .non))) H) := by
  intro pins s σ H x y v u Q I rx ry h
  obtain ⟨rfl, q⟩ := h
  cases ry
  refine is_none_gen (fin_bl I q ?_)
  cases x <;> first
    | (cases rx; rfl)
    | (obtain ⟨t, rfl⟩ := rx; rfl)
/-- two rules for one operation: by cases -/
theorem OpR.or {f : Value → Value → Sem Value} {r r' : R2} (h : OpR X f r) (h' : OpR X f r') : OpR X f (fun x y H Q => r x y H Q ∨ r' x y H Q) := by
  intro pins s σ H x y v u Q I rx ry q
  rcases q with q | q
  · exact h pins s σ H x y v u Q I rx ry q
  · exact h' pins s σ H x y v u Q I rx ry q

theorem nomark (b : Expr) {op : CmpOp} (h : op ≠ .In := by decide) (h2 : op ≠ .NotIn := by decide) : behindInMarks op b = false := by
  have e1 : (op == CmpOp.In) = false := by cases op <;> first | rfl | exact absurd rfl h
  have e2 : (op == CmpOp.NotIn) = false := by cases op <;> first | rfl | exact absurd rfl h2
  cases b <;> simp [behindInMarks, e1, e2]
/-- a comparison as a value; hm: nomark b, or (for in, not in) by with_unfolding_all rfl -/
theorem pe_cmpR {op : CmpOp} {r : R2} (ho : OpR X (compareOp op) r) (ha : PE X a ta) (hb : PE X b tb) (hm : behindInMarks op b = false) : PE X (.Compare a [op] [b] pos) (tOp r ta tb) := by
  intro pins s σ H Q I h
  exact wpAny_Compare1 (binT ha hb I h fun v u s2 x y H2 I2 rx ry q => ho pins s2 σ H2 x y v u Q I2 rx ry q) hm
/-- a reading of a value as a test -/
def tTest (t : TE) : TT := fun σ H Q => t σ H fun x H' => ∃ k, x = .bl k ∧ Q k H'
theorem pt_cmpR {op : CmpOp} {r : R2} (ho : OpR X (compareOp op) r) (ha : PE X a ta) (hb : PE X b tb) (hm : behindInMarks op b = false) : PT X (.Compare a [op] [b] pos) (tTest (tOp r ta tb)) := by
  intro pins s σ H Q I h
  refine wpAny_isTrue_Compare1 (thn (ha pins s σ H _ I h) fun v s1 ⟨x, H1, I1, r1, q1⟩ => thn (hb pins s1 σ H1 _ I1 q1) fun u s2 ⟨y, H2, I2, r2, q2⟩ =>
    thn (ho pins s2 σ H2 x y v u _ I2 r1 r2 q2) fun c s3 ⟨z, H3, I3, r3, k, e, q3⟩ => ?_) hm
  subst e
  cases r3
  exact wpAny_truthy_bool ⟨H3, I3, q3⟩
/-- a op1 b op2 c -/
def tChain (r r' : R2) (ta tb tc : TE) : TE := fun σ H Q => ta σ H fun x H1 => tb σ H1 fun y H2 => r x y H2 fun z H3 => ∃ k, z = .bl k ∧
  (if k = true then tc σ H3 fun w' H4 => r' y w' H4 Q else Q (.bl false) H3)
theorem pe_chain {op op' : CmpOp} {r r' : R2} (ho : OpR X (compareOp op) r) (ho' : OpR X (compareOp op') r') (ha : PE X a ta) (hb : PE X b tb) (hc : PE X c tc)
    (hm : lastMarks [op, op'] [b, c] = false := by with_unfolding_all rfl) : PE X (.Compare a [op, op'] [b, c] pos) (tChain r r' ta tb tc) := by
  intro pins s σ H Q I h
  refine Compare_chain (thn (ha pins s σ H _ I h) fun v s1 ⟨x, H1, I1, r1, q1⟩ => chain_link (thn (hb pins s1 σ H1 _ I1 q1) fun u s2 ⟨y, H2, I2, r2, q2⟩ =>
    thn (ho pins s2 σ H2 x y v u _ I2 r1 r2 q2) fun d s3 ⟨z, H3, I3, r3, k, e, q3⟩ => ?_)) hm
  subst e
  cases r3
  refine wpAny_truthy_bool ?_
  cases k with
  | false => exact ite_ff ⟨.bl false, H3, I3, rfl, q3⟩
  | true => exact ite_tt (chain_last (thn (hc pins s3 σ H3 _ I3 q3) fun w' s4 ⟨z', H4, I4, r4, q4⟩ => ho' pins s4 σ H4 y z' u w' Q I4 r2 r4 q4))
/-! ### truth -/
/-- a value's truth by the abstract heap -/
def TruV (K : PySem.W.Frag) (x : V) (H : Hp) (k : Bool) : Prop :=
  match x with
  | .non => k = false
  | .bl b => k = b
  | .int i => k = (i != 0)
  | .str y => y.length ≤ sizeLine ∧ k = ((y.length : Int) != 0)
  | .byt y => y.size ≤ sizeLine ∧ k = ((y.size : Int) != 0)
  | .ref p => (∃ xs, SqL K H p xs ∧ k = !xs.isEmpty) ∨ (∃ xs, SqT K H p xs ∧ k = !xs.isEmpty) ∨ ∃ kvs, H p = some (.dK kvs) ∧ k = !kvs.isEmpty
  | _ => False
theorem isEmpty_kv {κ : Type} {kvs : List (κ × V)} {vs : List (κ × Value)} (r : KV kvs vs) : (!vs.isEmpty) = !kvs.isEmpty := by
  cases r <;> rfl
theorem isEmpty_of {xs : List V} {its : List Value} (r : Vals xs its) : (!its.toArray.isEmpty) = !xs.isEmpty := by
  cases r <;> simp
theorem line63 : (sizeLine : Nat) < 2 ^ 63 := by rw [sizeLine_eq]; decide
theorem tru_ok : TruR X (fun x H Q => ∃ k, TruV X.K x H k ∧ Q k H) := by
  intro pins s σ H x v Q I rx h
  obtain ⟨k, e, q⟩ := h
  have hl := line63
  have hs : sizeLine = 16777216 := sizeLine_eq
  cases x with
  | non =>
    cases rx
    have e' : k = false := e
    subst e'
    exact truthy_none ⟨H, I, q⟩
  | bl b =>
    cases rx
    have e' : k = b := e
    subst e'
    exact wpAny_truthy_bool ⟨H, I, q⟩
  | int i =>
    obtain ⟨t, rfl⟩ := rx
    have e' : k = (i != 0) := e
    subst e'
    exact PySem.P.truthy_int ⟨H, I, q⟩
  | str y =>
    obtain ⟨t, rfl⟩ := rx
    obtain ⟨hy, e'⟩ : y.length ≤ sizeLine ∧ k = ((y.length : Int) != 0) := e
    subst e'
    exact PySem.P.truthy_str (by omega) ⟨H, I.tok _, q⟩
  | byt y =>
    obtain ⟨t, rfl⟩ := rx
    obtain ⟨hy, e'⟩ : y.size ≤ sizeLine ∧ k = ((y.size : Int) != 0) := e
    subst e'
    exact PySem.W.truthy_bytes (by omega) ⟨H, I.tok _, q⟩
  | ref p =>
    cases rx
    have e' : (∃ xs, SqL X.K H p xs ∧ k = !xs.isEmpty) ∨ (∃ xs, SqT X.K H p xs ∧ k = !xs.isEmpty) ∨ ∃ kvs, H p = some (.dK kvs) ∧ k = !kvs.isEmpty := e
    rcases e' with ⟨xs, hx, e'⟩ | ⟨xs, hx, e'⟩ | ⟨kvs, hx, e'⟩
    · subst e'
      obtain ⟨its, r, pl, hz⟩ := I.list hx
      have hlen := r.length
      exact wpAny_truthy_list pl.isList (by simp only [List.size_toArray]; omega) ⟨H, I.tok _, by rw [isEmpty_of r]; exact q⟩
    · subst e'
      obtain ⟨its, r, pl, hz⟩ := I.tuple hx
      have hlen := r.length
      exact truthy_tuple pl (by simp only [List.size_toArray]; omega) ⟨H, I.tok _, by rw [isEmpty_of r]; exact q⟩
    · subst e'
      obtain ⟨hz, hS, vs, r, m⟩ : kvs.length ≤ sizeLine ∧ (p == sysModules) = false ∧ ∃ vs, KV kvs vs ∧ s.heap.DictOf (mixKind X.prog X.w) p vs := I.hok p _ hx
      have hlen : kvs.length = vs.length := Paired.length r
      exact wpAny_truthy_dict hS m (by omega) ⟨H, I.tok _, by rw [isEmpty_kv r]; exact q⟩
  | _ => exact (show False from e).elim
/-- any expression whose test is its value's truth (a name, a call, a subscript, a field ..: he by fun _ => rfl) -/
theorem pt_truth (ha : PE X a ta) (he : ∀ whole, isTrue a X.env whole = (do let v ← whole; standAt a.pos; holding [v] (truthy v))) :
    PT X a (fun σ H Q => ta σ H fun x H' => ∃ k, TruV X.K x H' k ∧ Q k H') := by
  intro pins s σ H Q I h
  exact isTrue_plain (thn (ha pins s σ H _ I h) fun v s1 ⟨x, H1, I1, r1, q1⟩ => tru_ok pins s1 σ H1 x v Q I1 r1 q1) (he _)

/-! ### strs and bytes -/
theorem op_add_str : OpR X (binaryOp .Add) (fun x y H Q => ∃ i j, x = .str i ∧ y = .str j ∧ i.length + j.length ≤ sizeLine ∧ Q (.str (i ++ j)) H) := by
  intro pins s σ H x y v u Q I rx ry h
  obtain ⟨i, j, rfl, rfl, hz, q⟩ := h
  obtain ⟨t, rfl⟩ := rx
  obtain ⟨t', rfl⟩ := ry
  exact add_str (fun t' tk => ⟨.str (i ++ j), H, I.tok _, ⟨_, rfl⟩, q⟩) hz
/-! ### scalar builtins, by CallR -/
theorem vals1 {x : V} {us : List Value} (r : Vals [x] us) : ∃ u, us = [u] ∧ RelV x u := by
  cases r with
  | cons r1 r2 => cases r2; exact ⟨_, rfl, r1⟩
theorem vals2 {x y : V} {us : List Value} (r : Vals [x, y] us) : ∃ u w', us = [u, w'] ∧ RelV x u ∧ RelV y w' := by
  cases r with
  | cons r1 r2 =>
    cases r2 with
    | cons r3 r4 => cases r4; exact ⟨_, _, rfl, r1, r3⟩
theorem call_max2 (hc : X.calm = true) : CallR X (.builtin "max") (fun xs H Q => ∃ i j, xs = [.int i, .int j] ∧ Q (.int (if j > i then j else i)) H) := by
  intro pins s σ H xs us Q I r h
  obtain ⟨i, j, rfl, q⟩ := h
  obtain ⟨u, w', rfl, ⟨t, rfl⟩, ⟨t', rfl⟩⟩ := vals2 r
  refine max_two_ints (I.ok.hd hc) fun h' tk k => ⟨_, H, I.kept k, ?_, q⟩
  by_cases hj : j > i
  · rw [if_pos hj, if_pos hj]; exact ⟨_, rfl⟩
  · rw [if_neg hj, if_neg hj]; exact ⟨_, rfl⟩
theorem call_min2 (hc : X.calm = true) : CallR X (.builtin "min") (fun xs H Q => ∃ i j, xs = [.int i, .int j] ∧ Q (.int (if j < i then j else i)) H) := by
  intro pins s σ H xs us Q I r h
  obtain ⟨i, j, rfl, q⟩ := h
  obtain ⟨u, w', rfl, ⟨t, rfl⟩, ⟨t', rfl⟩⟩ := vals2 r
  refine min_two_ints (I.ok.hd hc) fun h' tk k => ⟨_, H, I.kept k, ?_, q⟩
  by_cases hj : j < i
  · rw [if_pos hj, if_pos hj]; exact ⟨_, rfl⟩
  · rw [if_neg hj, if_neg hj]; exact ⟨_, rfl⟩
theorem call_int1 : CallR X (.type "int") (fun xs H Q => (∃ i, xs = [.int i] ∧ Q (.int i) H) ∨ ∃ k, xs = [.bl k] ∧ Q (.int (if k then 1 else 0)) H) := by
  intro pins s σ H xs us Q I r h
  rcases h with ⟨i, rfl, q⟩ | ⟨k, rfl, q⟩
  · obtain ⟨u, rfl, t, rfl⟩ := vals1 r
    exact call_int_int ⟨.int i, H, I, ⟨_, rfl⟩, q⟩
  · obtain ⟨u, rfl, r1⟩ := vals1 r
    cases r1
    exact call_int_bool ⟨.int (if k then 1 else 0), H, I.tok _, ⟨_, rfl⟩, q⟩
theorem call_str_int : CallR X (.type "str") (fun xs H Q => ∃ i, xs = [.int i] ∧ i.natAbs.log2 < 1920 ∧ Q (.str (toString i)) H) := by
  intro pins s σ H xs us Q I r h
  obtain ⟨i, rfl, hz, q⟩ := h
  obtain ⟨u, rfl, t, rfl⟩ := vals1 r
  exact PySem.P.str_of_int hz ⟨.str _, H, I.tok _, ⟨_, rfl⟩, q⟩
theorem call_ord : CallR X (.builtin "ord") (fun xs H Q => ∃ x, xs = [.str x] ∧ x.length = 1 ∧ Q (.int (x.cps.getD 0 0 : Nat)) H) := by
  intro pins s σ H xs us Q I r h
  obtain ⟨x, rfl, hz, q⟩ := h
  obtain ⟨u, rfl, t, rfl⟩ := vals1 r
  exact ord_of_one hz ⟨.int _, H, I.tok _, ⟨_, rfl⟩, q⟩
end
end L2

namespace L2
open PySem PySem.Spec PyProof.Rows

/-! ### an instance, its attributes a map -/
structure ObjM (h : Heap) (x dx C : Addr) (mA : Str → Option Value) : Prop where
  obj : h.get? x = some (PySem.W.instObj C dx)
  ns : h.Ns1 dx mA
  ne : dx ≠ x

theorem lookIn_ns {h : Heap} {dx : Addr} {mA : Str → Option Value} (n : h.Ns1 dx mA) : ∃ od, h.get? dx = some od ∧ ∀ name, PySem.W.lookIn name od = some (mA name) := by
  obtain ⟨o, es, ep, ho, hd, hk, _, hm⟩ := n
  refine ⟨o, ho, fun name => ?_⟩
  have e := hm name
  unfold nsFind findBy at e
  rw [← Array.find?_toList] at e
  unfold PySem.W.lookIn
  rw [hd]
  dsimp only
  split
  · rename_i y q
    rw [q] at e
    exact congrArg some e
  · rename_i q
    rw [q] at e
    have a : es.toList.any (·.refKey) = false := by
      rw [List.any_eq_false]
      intro y hy
      obtain ⟨z, t, hkey⟩ := hk y (Array.mem_toList_iff.mp hy)
      simp [DictEntry.refKey, hkey]
    have a' : ¬ es.toList.any (·.refKey) = true := by rw [a]; exact Bool.false_ne_true
    rw [if_neg a']
    exact congrArg some e

theorem ObjM.look {h : Heap} {x dx C : Addr} {mA : Str → Option Value} (I : ObjM h x dx C mA) : ∃ od, PySem.W.InstAt h x (PySem.W.instObj C dx) C (some od) ∧ ∀ name, PySem.W.lookIn name od = some (mA name) :=
  let ⟨od, ho, hl⟩ := lookIn_ns I.ns
  ⟨od, ⟨I.obj, rfl, rfl, ho⟩, hl⟩

section
variable {prog : Program} {w : World} {A : Around} {E : Value → Shared → Prop} {s : Shared} {K : PySem.W.Frag} {x dx C f : Addr} {mA : Str → Option Value} {name : Str} {v : Value}

end

/-! ### the attributes as a list of pairs -/
def putF (f : Str) (v : V) : List (Str × V) → List (Str × V)
  | [] => [(f, v)]
  | (g, x) :: r => if g = f then (g, v) :: r else (g, x) :: putF f v r
section
variable {P : Program} {w : World} {H H' : Hp} {h h' : Heap} {a C dx : Addr} {fs fs' : List (Str × V)}
theorem ins_get (hok : HOk P w H h) (e : H a = some (.ins C dx fs)) : ∃ mA, ObjM h a dx C mA ∧ (∀ f, RelO (fs.lookup f) (mA f)) ∧ PySem.Within mA (fs.map (·.1)) ∧ fs.length ≤ 1000 ∧ H dx = some (.own a) := by
  obtain ⟨d, z, ne, ob, mA, n, r, q⟩ := (show ObjOk P w H h a (.ins C dx fs) from hok a _ e)
  exact ⟨mA, ⟨ob, n, ne⟩, r, q, z, d⟩
end

/-! ### what of the text a class must have -/
structure Cls (K : PySem.W.Frag) (C : Addr) : Prop where
  pg : PySem.W.plainGet K C Str.empty = true
  hd : PySem.W.hasDictIn K C = true
  po : PySem.W.plainOver K C = true
  sa : PySem.W.findIn K (.ref C) "__setattr__" = some (some (.builtin "object.__setattr__"))
theorem Cls.get {K : PySem.W.Frag} {C : Addr} (c : Cls K C) (f : Str) : PySem.W.plainGet K C f = true := c.pg
section
variable {X : Cx} {pins : List (Addr × Obj)} {σ : St} {H : Hp} {s : Shared} {a C dx : Addr} {fs : List (Str × V)} {f : Str} {v : V} {A : Around} {E : Value → Shared → Prop}

/-- a new instance, tracked, without attributes -/
theorem Inv.made (I : Inv X pins σ H s) : Inv X pins σ (upd (upd H s.heap.objs.size (.own (s.heap.objs.size + 1))) (s.heap.objs.size + 1) (.ins C s.heap.objs.size []))
    { s with heap := (s.heap.push PySem.W.emptyDict).push (PySem.W.instObj C s.heap.objs.size) } := by
  have e1 : (s.heap.push PySem.W.emptyDict).get? s.heap.objs.size = some PySem.W.emptyDict := Heap.get?_push_size s.heap rfl
  have e2 : ((s.heap.push PySem.W.emptyDict).push (PySem.W.instObj C s.heap.objs.size)).get? (s.heap.objs.size + 1) = some (PySem.W.instObj C s.heap.objs.size) := by
    have := Heap.get?_push_size (s.heap.push PySem.W.emptyDict) (o := PySem.W.instObj C s.heap.objs.size) rfl
    rwa [Heap.size_push] at this
  have e3 : (s.heap.push PySem.W.emptyDict).Ns s.heap.objs.size (fun _ => none) := ⟨PySem.W.emptyDict, #[], _, e1, rfl, (fun e he => absurd he (by simp)), fun _ => rfl⟩
  have I1 := I.laid (a := s.heap.objs.size) (o := .own (s.heap.objs.size + 1)) (h' := s.heap.push PySem.W.emptyDict) (t' := s.toks) (fun b u q => Heap.get?_push_of_some _ q) (Nat.le_refl _) ⟨_, e1⟩
  refine I1.laid (a := s.heap.objs.size + 1) (o := .ins C s.heap.objs.size []) (t' := s.toks) (fun b u q => Heap.get?_push_of_some _ q) (Nat.le_of_eq (Heap.size_push _ _)) ?_
  have ne : s.heap.objs.size ≠ s.heap.objs.size + 1 := Nat.ne_of_lt (Nat.lt_succ_self _)
  refine ⟨by rw [upd_ne ne, upd_same], Nat.zero_le _, ne, e2, fun _ => none, (Heap.Ns1.of_empty e3).at fun o q => Heap.get?_push_of_some _ q, fun _ => True.intro, fun y hy => absurd rfl hy⟩

end

/-! ### readings and rules -/
section
variable {X : Cx} {o e value : Expr} {f : Str} {pos pos' tpos : Pos} {ta tv : TE}
def rAdd : V → V → Hp → VK → Prop := fun x y H Q => ∃ i j, x = .int i ∧ y = .int j ∧ Q (.int (i + j)) H
def rSub : V → V → Hp → VK → Prop := fun x y H Q => ∃ i j, x = .int i ∧ y = .int j ∧ Q (.int (i - j)) H
end

/-! ### isinstance -/
section
variable {X : Cx} {pins : List (Addr × Obj)} {σ : St} {H : Hp} {s : Shared} {A : Around} {E : Value → Shared → Prop} {Q : Value → Shared → Prop} {c : Value} {b : Bool}
/-- the type of a value, as the fragment's deciders take it; for an instance its class -/
inductive TyOf (K : PySem.W.Frag) (H : Hp) : V → Value → Prop where
  | non : TyOf K H .non (.type "NoneType")
  | bl (x : Bool) : TyOf K H (.bl x) (.type "bool")
  | int (i : Int) : TyOf K H (.int i) (.type "int")
  | str (x : Str) : TyOf K H (.str x) (.type "str")
  | flt (x : UInt64) : TyOf K H (.flt x) (.type "float")
  | lst {a : Addr} {xs : List V} (e : H a = some (.lst xs)) : TyOf K H (.ref a) (.type "list")
  | frz {a : Addr} {o : Obj} {xs : List V} (e : H a = some (.frz o (.lst xs))) : TyOf K H (.ref a) (.type "list")
  | tup {a : Addr} {xs : List V} (e : H a = some (.tup xs)) : TyOf K H (.ref a) (.type "tuple")
  | dK {a : Addr} {kvs : List (Key × V)} (e : H a = some (.dK kvs)) : TyOf K H (.ref a) (.type "dict")
  | dT {a : Addr} {kvs : List (List Key × V)} (e : H a = some (.dT kvs)) : TyOf K H (.ref a) (.type "dict")
  | ins {a C dx : Addr} {fs : List (Str × V)} (e : H a = some (.ins C dx fs)) (cl : Cls K C) (ha : PySem.W.findIn K (.ref C) "__class__" = some (some (.builtin "object.__class__")))
      (hn : PySem.W.specialIn K (.builtin "object.__class__") "__get__" = some (some (.builtin "getset_descriptor.__get__"))) (htk : PySem.W.takesIn K (.builtin "object.__class__") = some true)
      (hm : PySem.W.mroIn K C (.type "object") = some true) : TyOf K H (.ref a) (.ref C)
/-- isinstance(x, c) for one class c, a built-in or an own one: kitOne's answer -/
theorem isinst_ok {x : V} {u t : Value} (I : Inv X pins σ H s) (rx : RelV x u) (ty : TyOf X.K H x t) (e : PySem.W.kitOne X.K t c = some b) (h : ∀ tk, Q (.bool b) { s with toks := tk }) :
    wpAny (model X.prog X.w) A (call (.builtin "isinstance") [u, c]) Q E s := by
  cases ty with
  | non => cases (show u = Value.none from rx); exact PySem.W.kia_one PySem.W.kitx_none I.kIn True.intro e (fun z => nomatch z) h
  | bl y => cases (show u = Value.bool y from rx); exact PySem.W.kia_one PySem.W.kitx_bool I.kIn True.intro e (fun z => nomatch z) h
  | int i => obtain ⟨t, q⟩ := (show ∃ t, u = Value.int i t from rx); cases q; exact PySem.W.kia_one PySem.W.kitx_int I.kIn True.intro e (fun z => nomatch z) h
  | str y => obtain ⟨t, q⟩ := (show ∃ t, u = Value.str y t from rx); cases q; exact PySem.W.kia_one PySem.W.kitx_str I.kIn True.intro e (fun z => nomatch z) h
  | flt y => obtain ⟨t, q⟩ := (show ∃ t, u = Value.float y t from rx); cases q; exact PySem.W.kia_one PySem.W.kitx_float I.kIn True.intro e (fun z => nomatch z) h
  | @lst a xs ea =>
    cases (show u = Value.ref a from rx)
    obtain ⟨_, _, n, _, h1⟩ := (show ObjOk X.prog X.w H s.heap a (.lst xs) from I.hok a _ ea)
    exact PySem.W.kia_one PySem.W.kitx_list I.kIn ⟨_, h1, rfl⟩ e (fun z => nomatch z) h
  | @frz a ob xs ea =>
    cases (show u = Value.ref a from rx)
    obtain ⟨_, _, _, n, _, h1⟩ := (show ObjOk X.prog X.w H s.heap a (.frz ob (.lst xs)) from I.hok a _ ea)
    exact PySem.W.kia_one PySem.W.kitx_list I.kIn ⟨_, h1, rfl⟩ e (fun z => nomatch z) h
  | @tup a xs ea =>
    cases (show u = Value.ref a from rx)
    obtain ⟨_, _, _, p⟩ := (show ObjOk X.prog X.w H s.heap a (.tup xs) from I.hok a _ ea)
    obtain ⟨o, h1, h2, _⟩ := p
    exact PySem.W.kia_one PySem.W.kitx_tuple I.kIn ⟨o, h1, h2⟩ e (fun z => nomatch z) h
  | @dK a kvs ea =>
    cases (show u = Value.ref a from rx)
    obtain ⟨_, _, vs, _, p⟩ := (show ObjOk X.prog X.w H s.heap a (.dK kvs) from I.hok a _ ea)
    obtain ⟨o, es, ep, h1, h2, _⟩ := p
    exact PySem.W.kia_one PySem.W.kitx_dict I.kIn ⟨o, h1, h2.1⟩ e (fun z => nomatch z) h
  | @dT a kvs ea =>
    cases (show u = Value.ref a from rx)
    obtain ⟨_, _, xs, _, o, es, ep, h1, h2, _⟩ := (show ObjOk X.prog X.w H s.heap a (.dT kvs) from I.hok a _ ea)
    exact PySem.W.kia_one PySem.W.kitx_dict I.kIn ⟨o, h1, h2.1⟩ e (fun z => nomatch z) h
  | @ins a C dx fs ea cl ha hn htk hm =>
    cases (show u = Value.ref a from rx)
    obtain ⟨mA, O, _⟩ := ins_get I.hok ea
    obtain ⟨od, J, _⟩ := O.look
    exact PySem.W.kia_one (PySem.W.kitx_own (cl.get _) cl.hd ha hn htk hm) I.kIn J e (fun z => nomatch z) h
end
end L2

namespace L2
open PySem PySem.Spec PyProof.Rows

/-! ### room -/
structure Room (c : Bool) (k : Nat) (A : Around) : Prop where
  hd : c = true → A.handled = none
  dp : A.depth + 3 * k + 5 < recursionLimit
  un : A.units + 16 * k + 200 < cLine
  gd : A.guards = some []
theorem Room.mono {c : Bool} {j k : Nat} {A : Around} (r : Room c k A) (h : j ≤ k) : Room c j A := ⟨r.hd, by have := r.dp; omega, by have := r.un; omega, r.gd⟩
theorem Room.weak {c : Bool} {k : Nat} {A : Around} (r : Room c k A) : Room false k A := ⟨fun h => (nomatch h), r.dp, r.un, r.gd⟩
theorem Room.deeper {c : Bool} {k : Nat} {A : Around} (r : Room c (k + 1) A) (env : Env) : Room c k (A.deeper env) :=
  ⟨r.hd, by have := r.dp; show A.depth + 1 + 3 * k + 5 < _; omega, by have := r.un; show A.units + 3 + 16 * k + 200 < _; omega, by first | exact r.gd | simpa [Around.deeper, Around.under, Code.isGuard] using r.gd⟩
theorem Room.in1 {c : Bool} {k : Nat} {A : Around} (r : Room c (k + 1) A) : Room c k A.in1 :=
  ⟨r.hd, by have := r.dp; show A.depth + 3 * k + 5 < _; omega, by have := r.un; show A.units + 1 + 16 * k + 200 < _; omega, r.gd⟩
theorem Room.depth {c : Bool} {k : Nat} {A : Around} (r : Room c k A) : A.depth < recursionLimit := by have := r.dp; omega
theorem Room.units {c : Bool} {k : Nat} {A : Around} (r : Room c k A) : A.units + 64 < cLine := by have := r.un; omega
/-! ### argument lists and displays -/
def tNil : TA := fun _ H Q => Q [] H
def tCons (ta : TE) (tr : TA) : TA := fun σ H Q => ta σ H fun x H1 => tr σ H1 fun xs H2 => Q (x :: xs) H2
section
variable {X : Cx} {e : Expr} {es : List Expr} {te : TE} {t : TA} {pos : Pos}
theorem pa_nil : PA X [] tNil := fun _ _ _ _ H Q I h => Calls.spliced_nil ⟨[], H, I, .nil, h⟩
theorem pa_cons (ha : PE X e te) (hr : PA X es t) (hs : starEach (e :: es) X.env = (false, eval e X.env) :: starEach es X.env := by rfl) : PA X (e :: es) (tCons te t) := by
  intro pos pins s σ H Q I h
  rw [hs]
  show wpAny _ _ (spliced ((false, eval e X.env) :: backTo pos (starEach es X.env))) _ _ s
  refine Calls.spliced_cons (thn (ha pins s σ H _ I h) fun u s1 ⟨x, H1, I1, r1, q1⟩ => ?_)
  exact thn (hr pos pins s1 σ H1 _ I1 q1) fun us s2 ⟨xs, H2, I2, r2, q2⟩ => ⟨x :: xs, H2, I2, .cons r1 r2, q2⟩

/-- a tuple, a list of written items -/
def tTup (t : TA) : TE := fun σ H Q => t σ H fun xs H1 => xs.length ≤ sizeLine ∧ ∀ p, H1 p = none → Q (.ref p) (upd H1 p (.tup xs))
theorem pe_tup {x1} (h : PA X es t) : PE X (.Tuple es x1 pos) (tTup t) := by
  intro pins s σ H Q I hq
  refine wpAny_Tuple_spliced (thn (h pos pins s σ H _ I hq) fun us s1 ⟨xs, H1, I1, r, z, q⟩ => ⟨by rw [← r.length]; exact z, ?_⟩)
  have hf : H1 s1.heap.objs.size = none := I1.hok.fresh (Nat.le_refl _)
  refine ⟨.ref s1.heap.objs.size, upd H1 s1.heap.objs.size (.tup xs), I1.laid (t' := s1.toks) (fun b u e => Heap.get?_push_of_some _ e) (Nat.le_refl _) ?_, rfl, q _ hf⟩
  exact ⟨z, us, r, ⟨_, Heap.get?_push_size _ rfl, rfl, _, rfl⟩⟩
end

/-! ### what a def promises -/
/-- a def's promise: the bound arguments in the parameters' order, the heap, the wanted end, the wanted exception -/
abbrev Sp := List V → Hp → VK → XK → Prop
/-- how an exception lies behind a call (file 08 gives it): the callers' frames, abstract heap and state ahead of the call, the wish, the exception, the state -/
abbrev CXT := List Env → Hp → Shared → XK → Value → Shared → Prop

/-- the state at a call -/
structure Env0 (P : Program) (w : World) (K : PySem.W.Frag) (mg : Str → Option Value) (base : Heap) (A : Around) (outer : List Env) (s : Shared) (H : Hp) : Prop where
  frames : A.frames = some outer
  hdk : HdOk A H
  mod : Mod K mg base
  bs : ∀ b o, base.get? b = some o → s.heap.get? b = some o ∧ H b = none
  bsz : base.objs.size ≤ s.heap.objs.size
  funs : s.heap.FunFrames base outer
  frf : ∀ b ∈ frs outer, H b = none
  hok : HOk P w H s.heap
  bare : AllBare s.gens
/-- a call's end -/
def CE (outer : List Env) (P : Program) (w : World) (H : Hp) (s : Shared) (Q : VK) (u : Value) (s' : Shared) : Prop :=
  ∃ v H', s'.os = s.os ∧ AllBare s'.gens ∧ Un (frs outer) [] H H' s.heap s'.heap ∧ HOk P w H' s'.heap ∧ RelV v u ∧ Q v H'
def CR (CX : CXT) (outer : List Env) (P : Program) (w : World) (H : Hp) (s : Shared) (Q : VK) (E : XK) (r : Result) (s' : Shared) : Prop :=
  match r with
  | .ok (.ret u) => CE outer P w H s Q u s'
  | .ok _ => False
  | .error e => CX outer H s E e s'
structure FnOk (P : Program) (w : World) (K : PySem.W.Frag) (mg : Str → Option Value) (base : Heap) (CX : CXT) (c : Bool) (k : Nat) (f : Addr) (fd : FuncData) (ps : List Str) (sp : Sp) : Prop where
  len : ∀ vs H Q E, sp vs H Q E → vs.length = ps.length
  run : ∀ (A : Around) (outer : List Env) (s : Shared) (H : Hp) (args : Args) (us : List Value) (vs : List V) (Q : VK) (E : XK), Room c k A → Env0 P w K mg base A outer s H → BindsTo s fd args (ps.zip us) → Vals vs us → sp vs H Q E →
    codeAny (model P w) A (.call (.ref f) args) (CR CX outer P w H s Q E) s
theorem FnOk.mono {P : Program} {w : World} {K : PySem.W.Frag} {mg : Str → Option Value} {base : Heap} {CX : CXT} {c : Bool} {j k : Nat} {f : Addr} {fd : FuncData} {ps : List Str} {sp : Sp} (F : FnOk P w K mg base CX c j f fd ps sp) (h : j ≤ k) :
    FnOk P w K mg base CX c k f fd ps sp := ⟨F.len, fun A outer s H args us vs Q E hr => F.run A outer s H args us vs Q E (hr.mono h)⟩
theorem FnOk.calm {P : Program} {w : World} {K : PySem.W.Frag} {mg : Str → Option Value} {base : Heap} {CX : CXT} {c : Bool} {k : Nat} {f : Addr} {fd : FuncData} {ps : List Str} {sp : Sp} (F : FnOk P w K mg base CX false k f fd ps sp) :
    FnOk P w K mg base CX c k f fd ps sp := ⟨F.len, fun A outer s H args us vs Q E hr => F.run A outer s H args us vs Q E hr.weak⟩
/-- a weaker promise -/
theorem FnOk.imp {P : Program} {w : World} {K : PySem.W.Frag} {mg : Str → Option Value} {base : Heap} {CX : CXT} {c : Bool} {k : Nat} {f : Addr} {fd : FuncData} {ps : List Str} {sp sp' : Sp} (F : FnOk P w K mg base CX c k f fd ps sp)
    (h : ∀ vs H Q E, sp' vs H Q E → sp vs H Q E) : FnOk P w K mg base CX c k f fd ps sp' :=
  ⟨fun vs H Q E q => F.len vs H Q E (h _ _ _ _ q), fun A outer s H args us vs Q E hr he hb hv hs => F.run A outer s H args us vs Q E hr he hb hv (h _ _ _ _ hs)⟩

theorem Env0.in1 {P : Program} {w : World} {K : PySem.W.Frag} {mg : Str → Option Value} {base : Heap} {A : Around} {outer : List Env} {s : Shared} {H : Hp} (e : Env0 P w K mg base A outer s H) :
    Env0 P w K mg base A.in1 outer s H := ⟨e.frames, e.hdk, e.mod, e.bs, e.bsz, e.funs, e.frf, e.hok, e.bare⟩

section
variable {X : Cx} {pins : List (Addr × Obj)} {σ : St} {H : Hp} {s s' : Shared}
/-- from a body: what a callee wants -/
theorem Inv.env0 (I : Inv X pins σ H s) : Env0 X.prog X.w X.K X.mg X.base X.A X.stack s H :=
  ⟨I.ok.frames, I.hdk, I.ok.mod, I.bs, Nat.le_trans I.ok.bsz I.sz, I.stack, I.stkFree, I.hok, I.bare⟩
/-- behind a call -/
theorem Inv.after {Q : VK} {u : Value} (I : Inv X pins σ H s) (h : CE X.stack X.prog X.w H s Q u s') : EP X pins σ Q u s' := by
  obtain ⟨v, H', os, bare, un, hok, r, q⟩ := h
  obtain ⟨hh, g, d, t, os'⟩ := s'
  obtain rfl : os' = s.os := os
  exact ⟨v, H', I.call (h' := hh) (g' := g) (d' := d) (t' := t) (ch := []) un hok bare (fun b z => absurd z (by simp)), r, q⟩
end

/-! ### calls -/
/-- f(..): the written arguments, then the defaults dvs; E: what is wanted of an exception -/
def tCall (sp : Sp) (dvs : List V) (E : XK) (t : TA) : TE := fun σ H Q => t σ H fun vs H1 => sp (vs ++ dvs) H1 Q E
/-- o.m(..) of an instance of the class at C -/
def tMeth (C : Addr) (m : Str) (sp : Sp) (dvs : List V) (E : XK) (ta : TE) (t : TA) : TE := fun σ H Q => ta σ H fun x H1 => ∃ a dx fs, x = .ref a ∧ H1 a = some (.ins C dx fs) ∧ fs.lookup m = none ∧
  t σ H1 fun vs H2 => sp (x :: (vs ++ dvs)) H2 Q E
/-- how the parameters are bound: us the positional arguments, kw the keywords' values by name, ds the defaults that fill up -/
def Binds (K : PySem.W.Frag) (fd : FuncData) (ps : List Str) (ds : List Value) : Prop :=
  ∀ (s : Shared) (us : List Value), K.In s.heap → (us ++ ds).length = ps.length → BindsTo s fd ⟨us, []⟩ (ps.zip (us ++ ds))
/-- every parameter is given -/
theorem Binds.all {K : PySem.W.Frag} {fd : FuncData} {ps : List Str} (h : ∀ us : List Value, us.length = ps.length → bindArgs fd ⟨us, []⟩ = pure (ps.zip us)) : Binds K fd ps [] := fun s us _ hl => by
  rw [List.append_nil] at hl ⊢
  exact .of_eq (h us hl)

/-- an exception of a callee reaches what this body wants of exceptions -/
def Passes (CX : CXT) (X : Cx) (E : XK) : Prop := ∀ (pins : List (Addr × Obj)) (σ : St) (H : Hp) (s : Shared) (e : Value) (s' : Shared), Inv X pins σ H s → CX X.stack H s E e s' → X.xe e s'

section
variable {X : Cx} {CX : CXT} {cm : Bool} {k : Nat} {f C : Addr} {fd : FuncData} {ps : List Str} {sp : Sp} {dvs : List V} {ds : List Value} {E : XK} {x m : Str} {p pos apos : Pos} {e o : Expr} {es : List Expr} {ta : TE} {t : TA}

/-- the callee runs -/
theorem run_fn {pins : List (Addr × Obj)} {σ : St} {H : Hp} {s : Shared} {Q : VK} {us : List Value} {vs : List V} (F : FnOk X.prog X.w X.K X.mg X.base CX cm k f fd ps sp) (hr : Room cm k X.A) (hb : Binds X.K fd ps ds) (hd : Vals dvs ds) (hx : Passes CX X E)
    (I : Inv X pins σ H s) (r : Vals vs us) (h : sp (vs ++ dvs) H Q E) : wpAny (model X.prog X.w) X.A (call (.ref f) us) (EP X pins σ Q) X.xe s := by
  have r2 : Vals (vs ++ dvs) (us ++ ds) := r.append hd
  have hl : (us ++ ds).length = ps.length := by rw [← r2.length]; exact F.len _ _ _ _ h
  refine wpAny_call (codeAny_mono (F.run X.A X.stack s H ⟨us, []⟩ (us ++ ds) (vs ++ dvs) Q E hr I.env0 (hb s us I.kIn hl) r2 h) fun r s' hq => ?_)
  cases r with
  | error e => exact hx pins σ H s e s' I hq
  | ok fl =>
    cases fl with
    | ret u => exact I.after hq
    | next => exact False.elim hq
    | brk => exact False.elim hq
    | cont => exact False.elim hq

theorem pe_call (F : FnOk X.prog X.w X.K X.mg X.base CX cm k f fd ps sp) (hr : Room cm k X.A) (hg : Gl X x) (hm : X.mg x = some (.ref f)) (hk : PySem.W.keepIn X.K (.ref f) = true) (hb : Binds X.K fd ps ds) (hd : Vals dvs ds) (hx : Passes CX X E)
    (ha : PA X (e :: es) t) (hdb : (x == ("__debug__" : Str)) = false := by decide) (he : starEach (e :: es) X.env = (false, eval e X.env) :: starEach es X.env := by rfl) (hpl : (backTo pos (starEach es X.env)).any (·.1) = false := by rfl) :
    PE X (.Call (.Name x p) (e :: es) [] pos) (tCall sp dvs E t) := by
  intro pins s σ H Q I h
  refine wpAny_Call_Name_kw (ld_glob I hg hm ?_ hdb)
  refine PySem.W.callWith_K (h₀ := X.base) I.ok.mod.kin hk (thn (ha pos pins s σ H _ I h) fun us s1 ⟨vs, H1, I1, r, q⟩ => ⟨I1.kIn, ?_⟩) he hpl
  exact run_fn F hr hb hd hx I1 r q
theorem pe_call0 (F : FnOk X.prog X.w X.K X.mg X.base CX cm k f fd ps sp) (hr : Room cm k X.A) (hg : Gl X x) (hm : X.mg x = some (.ref f)) (hk : PySem.W.keepIn X.K (.ref f) = true) (hb : Binds X.K fd ps ds) (hd : Vals dvs ds) (hx : Passes CX X E)
    (hdb : (x == ("__debug__" : Str)) = false := by decide) : PE X (.Call (.Name x p) [] [] pos) (tCall sp dvs E tNil) := by
  intro pins s σ H Q I h
  refine wpAny_Call_Name_kw (ld_glob I hg hm ?_ hdb)
  exact PySem.W.callWith_K0 I.kIn hk (run_fn (us := []) F hr hb hd hx I .nil h)

end

/-! ### keywords -/
section
variable {X : Cx} {CX : CXT} {cm : Bool} {k : Nat} {f C : Addr} {fd : FuncData} {ps ks : List Str} {sp : Sp} {E : XK} {x m : Str} {p pos apos kpos : Pos} {e o : Expr} {es : List Expr} {kws : List Keyword} {te ta : TE} {t tk : TA} {nm : Option Str}
variable {g : List Value → List Value → List Value} {gV : List V → List V → List V}
end

/-! ### a def's body keeps its promise -/
/-- names: the parameters first -/
structure FnScope (N P : List Str) (sc : Scope) : Prop where
  kind : sc.kind = .function
  co : sc.isCoroutine = false
  gen : sc.isGenerator = false
  nd : N.Nodup
  pre : N.take P.length = P
  par : ∀ x ∈ P, sc.names.lookup x = some .local ∨ sc.names.lookup x = some .cell
  nofree : ∀ y ∈ sc.names, y.2 ≠ .free

theorem bindL_out {kindOf : Str → Option NameKind} {x : Str} : ∀ {binds : List (Str × Value)} {m : Str → Option Value}, (∀ v, (x, v) ∉ binds) → bindL kindOf binds m x = m x
  | [], _, _ => rfl
  | (n, v) :: r, m, h => by
    unfold bindL
    rw [bindL_out fun w hw => h w (List.mem_cons_of_mem _ hw)]
    split
    · have : x ≠ n := by rintro rfl; exact h v List.mem_cons_self
      simp [this]
    · rfl
theorem bindC_out {kindOf : Str → Option NameKind} {x : Str} : ∀ {binds : List (Str × Value)} {m : Str → Option Value}, (∀ v, (x, v) ∉ binds) → bindC kindOf binds m x = m x
  | [], _, _ => rfl
  | (n, v) :: r, m, h => by
    unfold bindC
    rw [bindC_out fun w hw => h w (List.mem_cons_of_mem _ hw)]
    split
    · rfl
    · have : x ≠ n := by rintro rfl; exact h v List.mem_cons_self
      simp [this]
theorem bindL_get {kindOf : Str → Option NameKind} {x : Str} {v : Value} : ∀ {P : List Str} {vs : List Value} {i : Nat} {m : Str → Option Value}, P.Nodup → P[i]? = some x → vs[i]? = some v → kindOf x = some .local →
    bindL kindOf (P.zip vs) m x = some v
  | [], _, _, _, _, h, _, _ => by simp at h
  | _ :: _, [], _, _, _, _, h, _ => by simp at h
  | p :: P, w :: vs, 0, m, nd, h1, h2, hk => by
    simp at h1 h2; subst h1; subst h2
    show bindL kindOf ((p, w) :: P.zip vs) m p = _
    unfold bindL
    rw [bindL_out fun v hv => (List.nodup_cons.mp nd).1 (List.of_mem_zip hv).1, if_pos hk]
    simp
  | p :: P, w :: vs, i + 1, m, nd, h1, h2, hk => by
    show bindL kindOf ((p, w) :: P.zip vs) m x = _
    unfold bindL
    exact bindL_get (i := i) (List.nodup_cons.mp nd).2 (by simpa using h1) (by simpa using h2) hk
theorem bindC_get {kindOf : Str → Option NameKind} {x : Str} {v : Value} : ∀ {P : List Str} {vs : List Value} {i : Nat} {m : Str → Option Value}, P.Nodup → P[i]? = some x → vs[i]? = some v → kindOf x ≠ some .local →
    bindC kindOf (P.zip vs) m x = some v
  | [], _, _, _, _, h, _, _ => by simp at h
  | _ :: _, [], _, _, _, _, h, _ => by simp at h
  | p :: P, w :: vs, 0, m, nd, h1, h2, hk => by
    simp at h1 h2; subst h1; subst h2
    show bindC kindOf ((p, w) :: P.zip vs) m p = _
    unfold bindC
    rw [bindC_out fun v hv => (List.nodup_cons.mp nd).1 (List.of_mem_zip hv).1, if_neg hk]
    simp
  | p :: P, w :: vs, i + 1, m, nd, h1, h2, hk => by
    show bindC kindOf ((p, w) :: P.zip vs) m x = _
    unfold bindC
    exact bindC_get (i := i) (List.nodup_cons.mp nd).2 (by simpa using h1) (by simpa using h2) hk

/-- the names' values at the entry -/
def start (N : List Str) (vs : List V) : St := vs.map some ++ List.replicate (N.length - vs.length) none

/-- the context of a def's body, at its entry; an exception leaves the frame, then lies as CX says -/
def cxOf (CX : CXT) (cm : Bool) (P : Program) (w : World) (K : PySem.W.Frag) (mg : Str → Option Value) (base : Heap) (N : List Str) (qual : Str) (scope : Scope) (f : Addr) (cd : Value) (A : Around) (outer : List Env) (s : Shared) (H : Hp) (E : XK) : Cx where
  prog := P
  w := w
  K := K
  mg := mg
  base := base
  A := A.deeper (envOfC qual scope s.heap.objs.size f cd)
  N := N
  s₀ := s
  H₀ := H
  env := envOfC qual scope s.heap.objs.size f cd
  outer := outer
  stack := envOfC qual scope s.heap.objs.size f cd :: outer
  ex := []
  calm := cm
  fn := fun _ => true
  pn := []
  xe := fun e s' => wpAny (model P w) (A.deeper (envOfC qual scope s.heap.objs.size f cd)) (leaving (envOfC qual scope s.heap.objs.size f cd) e) (fun _ s'' => CX outer H s E e s'') (fun e' s'' => CX outer H s E e' s'') s'

theorem cell_has {sc : Scope} {n : Nat} {x : Str} (h : sc.names.lookup x = some .cell) : ∃ c, (cellsFrom n sc.names []).lookup x = some c := by
  have q := PySem.W.cellsFrom_some sc.names n [] (.inl h)
  exact Option.isSome_iff_exists.mp q

theorem inv_start {CX : CXT} {cm : Bool} {P : Program} {w : World} {K : PySem.W.Frag} {mg : Str → Option Value} {base : Heap} {N ps : List Str} {qual : Str} {scope : Scope} {f : Addr} {cd : Value} {A : Around} {outer : List Env} {s s1 : Shared} {H : Hp} {E : XK} {us : List Value} {vs : List V}
    (S : FnScope N ps scope) (hd : cm = true → A.handled = none) (e0 : Env0 P w K mg base A outer s H) (hl : vs.length = ps.length) (r : Vals vs us)
    (x : InCallC s s.heap.objs.size (bindL (envOfC qual scope s.heap.objs.size f cd).kindOf (ps.zip us) fun _ => none) (cellsFrom (s.heap.objs.size + 1) scope.names []) (bindC (envOfC qual scope s.heap.objs.size f cd).kindOf (ps.zip us) fun _ => none) s1) :
    Inv (cxOf CX cm P w K mg base N qual scope f cd A outer s H E) [] (start N vs) H s1 := by
  have hpl : ps.length ≤ N.length := by have := congrArg List.length S.pre; rw [List.length_take] at this; omega
  obtain ⟨h1, tk, rfl, hk⟩ := x.done
  have noA : ∀ b : Addr, b ∉ (cxOf CX cm P w K mg base N qual scope f cd A outer s H E).ex := fun b z => absurd (show b ∈ ([] : List Addr) from z) (by simp)
  refine ⟨⟨e0.mod, S.kind, rfl, rfl, Nat.le_refl _, fun y z c h1 h2 => ?_, fun y hy => ?_, fun y c _ h => ?_, hd, Around.frames_deeper e0.frames, .inr ⟨rfl, rfl⟩, fun b z => absurd z (noA b), e0.bs, e0.bsz, fun b _ _ => noA b, fun b z => absurd z (noA b), e0.funs, e0.frf⟩,
    rfl, e0.bare, Un.kept hk, ⟨_, x.toInCall.ns, fun i y v h1 h2 h3 => ?_⟩, fun y c h => ⟨_, x.cell y c h⟩, e0.hok.fresh (Nat.le_refl _), fun y c h => ?_, fun p hp => absurd (show p ∈ ([] : List (Addr × Obj)) from hp) (by simp), e0.hok.kept hk, ?_, e0.hdk⟩
  · exact name_of_addr x.apart (PySem.mem_of_lookup h1) (PySem.mem_of_lookup h2)
  · have hy : scope.names.lookup y = some .cell ∨ scope.names.lookup y = some .free := hy
    rcases hy with hy | hy
    · exact cell_has hy
    · exact absurd rfl (S.nofree _ (PySem.mem_of_lookup hy))
  · exact Nat.le_of_lt (x.above y c (PySem.mem_of_lookup h))
  · have hi : i < vs.length := by
      unfold start at h2
      by_cases hi : i < vs.length
      · exact hi
      · rw [List.getElem?_append_right (by simpa using hi)] at h2
        rw [List.getElem?_replicate] at h2
        split at h2 <;> cases h2
    have ha : vs[i]? = some v := by
      unfold start at h2
      rw [List.getElem?_append_left (by simpa using hi), List.getElem?_map] at h2
      cases e : vs[i]? with
      | none => rw [e] at h2; cases h2
      | some a => rw [e] at h2; cases h2; rfl
    obtain ⟨u, hu, rv⟩ := r.get ha
    have hp : ps[i]? = some y := by
      rw [← S.pre, List.getElem?_take_of_lt (by omega)]; exact h1
    have ndP : ps.Nodup := by rw [← S.pre]; exact S.nd.sublist (List.take_sublist _ _)
    refine ⟨u, rv, ?_⟩
    rcases S.par y (List.mem_of_getElem? hp) with k | k
    · exact .inl ⟨k, bindL_get ndP hp hu k⟩
    · obtain ⟨c, e⟩ := cell_has (n := s.heap.objs.size + 1) k
      refine .inr ⟨.inl k, c, e, ?_⟩
      have q := x.cell y c e
      rw [bindC_get ndP hp hu (by show scope.names.lookup y ≠ _; rw [k]; decide)] at q
      exact q
  · exact e0.hok.fresh (Nat.le_of_lt (x.above y c (PySem.mem_of_lookup h)))
  · unfold start
    show _ = N.length
    rw [List.length_append, List.length_map, List.length_replicate]
    omega

/-- THE RULE: a def (or a method) of the text, by its body. The body's reading t is chosen for each entry; it is run at the parameters' values -/
theorem fn_of {CX : CXT} {cm : Bool} {P : Program} {w : World} {K : PySem.W.Frag} {mg : Str → Option Value} {base : Heap} {k : Nat} {f : Addr} {name qual : Str} {params : Arguments} {body : List Stmt} {scope : Scope} {dV kV doc pm cdv ct oc : Value} {an od : Option Addr}
    {osl : Array (Option Value)} {N ps : List Str} {sp : Sp} (lk : K.lookup f = some ⟨oc, od, .func (PySem.W.fnOf name qual params body scope dV kV doc pm an cdv ct), osl⟩) (hcd : PySem.W.codeIn K cdv qual = true) (S : FnScope N ps scope)
    (len : ∀ vs H Q E, sp vs H Q E → vs.length = ps.length)
    (hbody : ∀ (A : Around) (outer : List Env) (s : Shared) (H : Hp) (vs : List V) (Q : VK) (E : XK), Room cm k (A.deeper (envOfC qual scope s.heap.objs.size f cdv)) → sp vs H Q E →
      ∃ t, PSs (cxOf CX cm P w K mg base N qual scope f cdv A outer s H E) body t ∧ t { nx := fun _ H' => Q .non H', rt := Q } (start N vs) H) :
    FnOk P w K mg base CX cm (k + 1) f (PySem.W.fnOf name qual params body scope dV kV doc pm an cdv ct) ps sp := by
  refine ⟨len, fun A outer s H args us vs Q E hr e0 hb r hsp => ?_⟩
  have hl := len _ _ _ _ hsp
  have KX : K.In s.heap := e0.mod.kin.keeps fun b o e => (e0.bs b o e).1
  have lim : s.heap.NoLimit := e0.mod.nolimit.keeps fun b o e => (e0.bs b o e).1
  have hkind : ∀ y ∈ ps.zip us, scope.names.lookup y.1 = some .local ∨ (scope.names.lookup y.1 = some .cell ∧ ((cellsFrom (s.heap.objs.size + 1) scope.names []).lookup y.1).isSome = true) := fun ⟨n, v⟩ hy => by
    rcases S.par n (List.of_mem_zip hy).1 with q | q
    · exact .inl q
    · exact .inr ⟨q, PySem.W.cellsFrom_some _ _ _ (.inl q)⟩
  refine codeAny_call_function hr.depth (KX _ _ lk) rfl S.co S.gen rfl (PySem.W.codeRec_of KX hcd) (hb _ _ _ _ ?_)
  refine wpAny_newFunctionEnv_cells S.kind hkind fun env he s1 x => ?_
  subst he
  refine ⟨lim.keeps x.toInCall.keep, codeAny_func ?_⟩
  obtain ⟨t, ht, hq⟩ := hbody A outer s H vs Q E (hr.deeper _) hsp
  have I : Inv (cxOf CX cm P w K mg base N qual scope f cdv A outer s H E) [] (start N vs) H s1 := inv_start S hr.hd e0 hl r x
  refine wpAny_mono (ht [] s1 (start N vs) H _ I hq) (fun fl s' hs => ?_) fun e s' hs => hs
  have fin : ∀ {σ' : St} {H' : Hp} {v : V} {u : Value}, Inv (cxOf CX cm P w K mg base N qual scope f cdv A outer s H E) [] σ' H' s' → RelV v u → Q v H' → CE outer P w H s Q u s' :=
    fun {σ' H' v u} J rv q => ⟨v, H', J.os, J.bare, J.base, J.hok, rv, q⟩
  cases fl with
  | ret u =>
    obtain ⟨v, σ', H', J, rv, q⟩ := hs
    exact fin J rv q
  | next =>
    obtain ⟨σ', H', J, q⟩ := hs
    exact fin (v := V.non) (u := Value.none) J rfl q
  | brk =>
    obtain ⟨_, _, _, q⟩ := hs
    exact False.elim q
  | cont =>
    obtain ⟨_, _, _, q⟩ := hs
    exact False.elim q
end L2

namespace L2
open PySem PySem.Spec PyProof.Rows
section
variable {X : Cx} {x : Str} {p pos : Pos} {e : Expr} {es : List Expr} {t : TA} {id T : String} {r : List V → Hp → VK → Prop}

def tCB (r : List V → Hp → VK → Prop) (t : TA) : TE := fun σ H Q => t σ H fun vs H1 => r vs H1 Q
/-- f(e, ..), f a built-in function -/
theorem pe_callB (hc : CallR X (.builtin id) r) (hg : Gl X x) (hm : X.mg x = none) (hv : bootBuiltins x = some (.builtin id)) (ha : PA X (e :: es) t) (hn : x ≠ "__name__" := by decide) (hdb : (x == ("__debug__" : Str)) = false := by decide)
    (he : starEach (e :: es) X.env = (false, eval e X.env) :: starEach es X.env := by rfl) (hpl : (backTo pos (starEach es X.env)).any (·.1) = false := by rfl) : PE X (.Call (.Name x p) (e :: es) [] pos) (tCB r t) := by
  intro pins s σ H Q I h
  refine wpAny_Call_Name_kw (ld_blt I hg hm hv ?_ hn hdb)
  exact PyProof.Rows.callWith_builtin1 (thn (ha pos pins s σ H _ I h) fun us s1 ⟨vs, H1, I1, r1, q1⟩ => hc pins s1 σ H1 vs us Q I1 r1 q1) he hpl
/-- T(e, ..), T a built-in type -/
theorem pe_callTy (hc : CallR X (.type T) r) (hg : Gl X x) (hm : X.mg x = none) (hv : bootBuiltins x = some (.type T)) (ha : PA X (e :: es) t) (hn : x ≠ "__name__" := by decide) (hdb : (x == ("__debug__" : Str)) = false := by decide)
    (he : starEach (e :: es) X.env = (false, eval e X.env) :: starEach es X.env := by rfl) (hpl : (backTo pos (starEach es X.env)).any (·.1) = false := by rfl) : PE X (.Call (.Name x p) (e :: es) [] pos) (tCB r t) := by
  intro pins s σ H Q I h
  refine wpAny_Call_Name_kw (ld_blt I hg hm hv ?_ hn hdb)
  exact PyProof.Rows.callWith_type1 (thn (ha pos pins s σ H _ I h) fun us s1 ⟨vs, H1, I1, r1, q1⟩ => hc pins s1 σ H1 vs us Q I1 r1 q1) he hpl
end
end L2

namespace HT
open PySem PyProof.Rows

section
open PySem.SeqAt
open PySem.AutoSeq1 (wpAny_loadPart')
open PySem.MeetsSeq PySem.MeetsSeq2 PySem.MeetsSeq3

end

section
variable {prog : Program} {w : World} {A : Around} {E : Value → Shared → Prop} {s : Shared}

/-! ### t[a:b], not the whole -/
/-- a slice's bound as a place among n (d where it is left out) -/
def sIx (n d : Nat) : Option Int → Nat
  | none => d
  | some v => if v < 0 then (v + (n : Int)).toNat else min v.toNat n
end
end HT

namespace L2
open PySem PySem.Spec PyProof.Rows

/-! ### the parts of a slice -/
abbrev TO := St → Hp → (Option Int → Hp → Prop) → Prop
/-- a slice's part (left out, or an int) -/
def PO (X : Cx) (e : Option Expr) (t : TO) : Prop :=
  ∀ (pins : List (Addr × Obj)) (s : Shared) (σ : St) (H : Hp) (Q : Option Int → Hp → Prop), Inv X pins σ H s → t σ H Q →
    wpAny (model X.prog X.w) X.A (evalPart e X.env) (fun u s' => ∃ o H', Inv X pins σ H' s' ∧ IsPart u o ∧ Q o H') X.xe s
def tNoPart : TO := fun _ H Q => Q none H
def tPart (t : TE) : TO := fun σ H Q => t σ H fun x H1 => ∃ i, x = .int i ∧ Q (some i) H1

section
variable {X : Cx} {e : Expr} {te : TE} {lo hi : Option Expr} {tl th : TO} {pos p2 : Pos}

theorem po_none : PO X none tNoPart := by
  intro pins s σ H Q I h
  rw [evalPart_none]
  exact wpAny_pure ⟨none, H, I, .none, h⟩
theorem po_some (h : PE X e te) : PO X (some e) (tPart te) := by
  intro pins s σ H Q I hw
  rw [evalPart_some]
  refine thn (h pins s σ H _ I hw) fun u s1 ⟨x, H1, I1, r1, q1⟩ => ?_
  obtain ⟨i, rfl, q⟩ := q1
  obtain ⟨t, rfl⟩ := r1
  exact ⟨some i, H1, I1, .int i t, q⟩

/-- what a slice of a value is, by values: the slice object stands at sl -/
def SlR (X : Cx) (r : V → Option Int → Option Int → Hp → VK → Prop) : Prop :=
  ∀ (pins : List (Addr × Obj)) (s : Shared) (σ : St) (H : Hp) (x : V) (v vl vu : Value) (lo hi : Option Int) (sl : Addr) (Q : VK), Inv X pins σ H s → RelV x v → s.heap.IsSliceOf sl vl vu .none → IsPart vl lo → IsPart vu hi → r x lo hi H Q →
    ∃ T id, typeLookup (.type T) "__getitem__" = pure (some (.builtin id)) ∧ s.TypeIs v T ∧ wpAny (model X.prog X.w) X.A (getItem v (.ref sl)) (EP X pins σ Q) X.xe s
theorem SlR.or {r r' : V → Option Int → Option Int → Hp → VK → Prop} (h : SlR X r) (h' : SlR X r') : SlR X (fun x lo hi H Q => r x lo hi H Q ∨ r' x lo hi H Q) := by
  intro pins s σ H x v vl vu lo hi sl Q I rx hs pl pu q
  rcases q with q | q
  · exact h pins s σ H x v vl vu lo hi sl Q I rx hs pl pu q
  · exact h' pins s σ H x v vl vu lo hi sl Q I rx hs pl pu q
def tSl (r : V → Option Int → Option Int → Hp → VK → Prop) (te : TE) (tl th : TO) : TE := fun σ H Q => te σ H fun x H1 => tl σ H1 fun l H2 => th σ H2 fun u H3 => r x l u H3 Q
/-- a[lo:hi], any a -/
theorem pe_slice {r : V → Option Int → Option Int → Hp → VK → Prop} (hr : SlR X r) (he : PE X e te) (hl : PO X lo tl) (hu : PO X hi th) : PE X (.Subscript e (.Slice lo hi none p2) pos) (tSl r te tl th) := by
  intro pins s σ H Q I h
  refine Subscript_ (thn (he pins s σ H _ I h) fun v s1 ⟨x, H1, I1, r1, q1⟩ => ?_)
  refine wpAny_Slice (thn (hl pins s1 σ H1 _ I1 q1) fun vl s2 ⟨l, H2, I2, pl, q2⟩ => thn (hu pins s2 σ H2 _ I2 q2) fun vu s3 ⟨u, H3, I3, pu, q3⟩ => ?_)
  rw [evalPart_none]
  refine wpAny_pure ?_
  have I4 : Inv X pins σ H3 { s3 with heap := s3.heap.push { cls := .type "slice", data := .fields #[vl, vu, .none] } } := I3.kept (t' := s3.toks) fun b ob q => Heap.get?_push_of_some _ q
  obtain ⟨T, id, hT, ht, hg⟩ := hr pins { s3 with heap := s3.heap.push { cls := .type "slice", data := .fields #[vl, vu, .none] } } σ H3 x v vl vu l u s3.heap.objs.size Q I4 r1 (Heap.IsSliceOf.new ..) pl pu q3
  show wpAny (model X.prog X.w) X.A (subscriptTail e (.Slice lo hi none p2) v (.ref s3.heap.objs.size)) (EP X pins σ Q) X.xe { s3 with heap := s3.heap.push { cls := .type "slice", data := .fields #[vl, vu, .none] } }
  exact tail_any (ops := [.ref s3.heap.objs.size, v]) ht hT hg (by with_unfolding_all rfl)

/-- the items of xs[lo:hi] -/
def cutV (xs : List V) (lo hi : Option Int) : List V := (xs.drop (HT.sIx xs.length 0 lo)).take (HT.sIx xs.length xs.length hi - HT.sIx xs.length 0 lo)
theorem cutV_length (xs : List V) (lo hi : Option Int) : (cutV xs lo hi).length ≤ xs.length := by
  unfold cutV
  rw [List.length_take, List.length_drop]
  omega
/-! ### t < u, t + u -/
end
end L2

namespace L2
open PySem PySem.Spec PyProof.Rows

/-! ### places -/
/-- the place that an index of any sign means -/
def ixN (n : Nat) (i : Int) : Option Nat := if 0 ≤ i then (if i < n then some i.toNat else none) else if -(n : Int) ≤ i then some (i + n).toNat else none
def atI {α : Type} (xs : List α) (i : Int) : Option α := (ixN xs.length i).bind fun j => xs[j]?
theorem ixN_seq {n : Nat} {i : Int} {j : Nat} (h : ixN n i = some j) : seqIndex? i n = some j ∧ j < n ∧ -(n : Int) ≤ i ∧ i < n := by
  unfold ixN at h
  by_cases h0 : 0 ≤ i
  · rw [if_pos h0] at h
    by_cases h1 : i < n
    · rw [if_pos h1] at h
      have e : i.toNat = j := Option.some.inj h
      exact ⟨by rw [seqIndex_of h0 h1, e], by omega, by omega, h1⟩
    · rw [if_neg h1] at h; cases h
  · rw [if_neg h0] at h
    by_cases h1 : -(n : Int) ≤ i
    · rw [if_pos h1] at h
      have e : (i + n).toNat = j := Option.some.inj h
      exact ⟨by rw [seqIndex_neg (by omega) h1, e], by omega, h1, by omega⟩
    · rw [if_neg h1] at h; cases h
theorem atI_get {α : Type} {xs : List α} {i : Int} {v : α} (h : atI xs i = some v) : ∃ j, seqIndex? i xs.length = some j ∧ xs[j]? = some v ∧ j < xs.length ∧ -(xs.length : Int) ≤ i ∧ i < xs.length := by
  unfold atI at h
  cases e : ixN xs.length i with
  | none => rw [e] at h; cases h
  | some j =>
    rw [e] at h
    obtain ⟨h1, h2, h3, h4⟩ := ixN_seq e
    exact ⟨j, h1, h, h2, h3, h4⟩
theorem atI_nat {α : Type} {xs : List α} {j : Nat} {v : α} (h : xs[j]? = some v) : atI xs (j : Int) = some v := by
  have hj : j < xs.length := (List.getElem?_eq_some_iff.mp h).1
  have e : ixN xs.length (j : Int) = some j := by
    unfold ixN
    rw [if_pos (by omega), if_pos (by omega)]; simp
  unfold atI; rw [e]; exact h
/-! ### what may be subscripted -/
/-- what stands as an index of a plain subscript -/
def PlainIx (b : Expr) : Prop := ∀ o i, subscripted b false o i = operate [o, i] (getItem o i)
/-- a subscript by values -/
def IxR (X : Cx) (r : R2) : Prop :=
  ∀ (value slice : Expr) (pins : List (Addr × Obj)) (s : Shared) (σ : St) (H : Hp) (x y : V) (v u : Value) (Q : VK), Inv X pins σ H s → RelV x v → RelV y u → r x y H Q →
    subscripted slice false v u = operate [v, u] (getItem v u) → wpAny (model X.prog X.w) X.A (subscriptTail value slice v u) (EP X pins σ Q) X.xe s
/-- a call of a builtin's method by values: the receiver, the arguments -/
def MtR (X : Cx) (id : String) (r : V → List V → Hp → VK → Prop) : Prop :=
  ∀ (pins : List (Addr × Obj)) (s : Shared) (σ : St) (H : Hp) (x : V) (xs : List V) (v : Value) (us : List Value) (Q : VK), Inv X pins σ H s → RelV x v → Vals xs us → r x xs H Q →
    wpAny (model X.prog X.w) X.A (call (.builtin id) (v :: us)) (EP X pins σ Q) X.xe s
section
variable {X : Cx} {a b : Expr} {ta tb : TE} {pos : Pos}
theorem IxR.or {r r' : R2} (h : IxR X r) (h' : IxR X r') : IxR X (fun x y H Q => r x y H Q ∨ r' x y H Q) := by
  intro value slice pins s σ H x y v u Q I rx ry q hs
  rcases q with q | q
  · exact h value slice pins s σ H x y v u Q I rx ry q hs
  · exact h' value slice pins s σ H x y v u Q I rx ry q hs
theorem MtR.or {id : String} {r r' : V → List V → Hp → VK → Prop} (h : MtR X id r) (h' : MtR X id r') : MtR X id (fun x xs H Q => r x xs H Q ∨ r' x xs H Q) := by
  intro pins s σ H x xs v us Q I rx rs q
  rcases q with q | q
  · exact h pins s σ H x xs v us Q I rx rs q
  · exact h' pins s σ H x xs v us Q I rx rs q
/-- a[b] -/
theorem pe_ix {r : R2} (hr : IxR X r) (ha : PE X a ta) (hb : PE X b tb) (hs : PlainIx b) : PE X (.Subscript a b pos) (tOp r ta tb) := by
  intro pins s σ H Q I h
  exact Subscript_ (binT ha hb I h fun v u s2 x y H2 I2 rx ry q => hr a b pins s2 σ H2 x y v u Q I2 rx ry q (hs _ _))

def rIxL (K : PySem.W.Frag) : R2 := fun x y H Q => ∃ p xs i v, x = .ref p ∧ y = .int i ∧ SqL K H p xs ∧ atI xs i = some v ∧ Q v H
def rIxT (K : PySem.W.Frag) : R2 := fun x y H Q => ∃ p xs i v, x = .ref p ∧ y = .int i ∧ SqT K H p xs ∧ atI xs i = some v ∧ Q v H
def rIxS : R2 := fun x y H Q => ∃ z i c, x = .str z ∧ y = .int i ∧ z.length ≤ sizeLine ∧ atI z.cps.toList i = some c ∧ Q (.str ⟨#[c]⟩) H
theorem ix_list : IxR X (rIxL X.K) := by
  intro value slice pins s σ H x y v u Q I rx ry h hs
  obtain ⟨p, xs, i, z, rfl, rfl, hq, he, q⟩ := h
  cases rx
  obtain ⟨t, rfl⟩ := ry
  obtain ⟨its, r, pl, hz⟩ := I.list hq
  obtain ⟨j, h1, h2, h3, h4, h5⟩ := atI_get he
  obtain ⟨w, ew, rw'⟩ := r.get h2
  have hl := r.length
  have hn := line63
  have fin : EP X pins σ Q w s := ⟨z, H, I, rw', q⟩
  by_cases h0 : 0 ≤ i
  · have hj : i.toNat = j := by
      rw [seqIndex_of h0 h5] at h1
      exact Option.some.inj h1
    exact item_listR pl.isList h0 (by omega) (by rw [hj]; simpa using ew) fin hs
  · have hj : (i + (its.toArray.size : Int)).toNat = j := by
      rw [seqIndex_neg (by omega) h4] at h1
      rw [List.size_toArray, ← hl]
      exact Option.some.inj h1
    exact subscriptTail_builtinR (x := w) pl.isList.typeIs slot_list_getitem.lookup
      (wpAny_getItem_list_neg (Q := fun r s' => r = w ∧ EP X pins σ Q r s') pl.isList (by omega) (by rw [List.size_toArray] <;> omega) (by omega) (by rw [hj]; simpa using ew) ⟨rfl, fin⟩) hs
theorem ix_tup : IxR X (rIxT X.K) := by
  intro value slice pins s σ H x y v u Q I rx ry h hs
  obtain ⟨p, xs, i, z, rfl, rfl, hq, he, q⟩ := h
  cases rx
  obtain ⟨t, rfl⟩ := ry
  obtain ⟨its, r, pl, hz⟩ := I.tuple hq
  obtain ⟨j, h1, h2, h3, h4, h5⟩ := atI_get he
  obtain ⟨w, ew, rw'⟩ := r.get h2
  have hl := r.length
  have hn := line63
  have fin : EP X pins σ Q w s := ⟨z, H, I, rw', q⟩
  exact subscriptTail_builtinR (x := w) pl.typeIs slot_tuple_getitem.lookup
    (getItem_tuple (j := j) (Q := fun r s' => r = w ∧ EP X pins σ Q r s') pl (by omega) (by omega) (by rw [List.size_toArray, ← hl]; exact h1) (by simpa using ew) ⟨rfl, fin⟩) hs
theorem ix_str : IxR X rIxS := by
  intro value slice pins s σ H x y v u Q I rx ry h hs
  obtain ⟨z, i, c, rfl, rfl, hz, he, q⟩ := h
  obtain ⟨t, rfl⟩ := rx
  obtain ⟨t', rfl⟩ := ry
  obtain ⟨j, h1, h2, h3, h4, h5⟩ := atI_get he
  have hl : z.cps.toList.length = z.length := by simp [Str.length]
  rw [hl] at h1 h4 h5
  have hn := line63
  exact tail_any (typeIs_str s z t) slot_str_getitem.lookup (getItem_str (c := c) (by
    have e1 : decide (i < -(2 ^ 63 : Int)) = false := decide_eq_false (by omega)
    have e2 : decide (i ≥ 2 ^ 63) = false := decide_eq_false (by omega)
    rw [e1, e2, Bool.or_false]) (by rw [h1]; simpa using h2) ⟨.str ⟨#[c]⟩, H, I.tok _, ⟨_, rfl⟩, q⟩) hs
/-- list, tuple or str -/
def rIx (K : PySem.W.Frag) : R2 := fun x y H Q => rIxL K x y H Q ∨ rIxT K x y H Q ∨ rIxS x y H Q
theorem ix_seq : IxR X (rIx X.K) := ix_list.or (ix_tup.or ix_str)

/-! ### xs[i] = v, any sign -/
theorem Inv.lst {pins : List (Addr × Obj)} {σ : St} {H : Hp} {s : Shared} {p : Addr} {xs : List V} (I : Inv X pins σ H s) (h : H p = some (.lst xs)) :
    ∃ (its : List Value) (n : Nat), Vals xs its ∧ s.heap.get? p = some { cls := .type "list", data := .seq its.toArray n } ∧ xs.length ≤ sizeLine := by
  obtain ⟨z, its, n, r, e⟩ := I.hok p _ h
  exact ⟨its, n, r, e, z⟩
def rSetL : V → V → V → Hp → (Hp → Prop) → Prop := fun o i v H Q => ∃ p xs k j, o = .ref p ∧ i = .int k ∧ H p = some (.lst xs) ∧ ixN xs.length k = some j ∧ Q (upd H p (.lst (xs.set j v)))
/-! ### slices -/
theorem slice_bounds (lo hi : Option Int) (n : Nat) : (sliceBounds lo hi none n).1 = ((HT.sIx n 0 lo : Nat) : Int) ∧ (sliceBounds lo hi none n).2.1 = ((HT.sIx n n hi : Nat) : Int) ∧ (sliceBounds lo hi none n).2.2 = 1 := by
  refine ⟨?_, ?_, rfl⟩
  · cases lo with
    | none => simp [sliceBounds, HT.sIx]
    | some i =>
      simp only [sliceBounds, HT.sIx, Option.getD_none, show (1 : Int) > 0 by decide, if_true]
      by_cases h : i < 0
      · simp only [h, if_true] <;> omega
      · simp only [h, if_false] <;> omega
  · cases hi with
    | none => simp [sliceBounds, HT.sIx]
    | some i =>
      simp only [sliceBounds, HT.sIx, Option.getD_none, show (1 : Int) > 0 by decide, if_true]
      by_cases h : i < 0
      · simp only [h, if_true] <;> omega
      · simp only [h, if_false] <;> omega
theorem slicePick_cut (its : List Value) (lo hi : Option Int) : slicePick its.toArray lo hi none = ((its.drop (HT.sIx its.length 0 lo)).take (HT.sIx its.length its.length hi - HT.sIx its.length 0 lo)).toArray := by
  obtain ⟨h1, h2, h3⟩ := slice_bounds lo hi its.toArray.size
  unfold slicePick
  rw [h1, h2, h3]
  simp only [sliceRange_one, pick_run, List.size_toArray] <;> rfl
/-- xs[lo:hi] of a list: a new list -/
def rSlL (K : PySem.W.Frag) : V → Option Int → Option Int → Hp → VK → Prop := fun x lo hi H Q => ∃ a xs, x = .ref a ∧ SqL K H a xs ∧ ∀ p, H p = none → Q (.ref p) (upd H p (.lst (cutV xs lo hi)))
theorem sl_list : SlR X (rSlL X.K) := by
  intro pins s σ H x v vl vu lo hi sl Q I rx hs pl pu h
  obtain ⟨a, xs, rfl, hx, q⟩ := h
  cases rx
  obtain ⟨its, r, ht, hz⟩ := I.list hx
  have hlen := r.length
  refine ⟨"list", _, slot_list_getitem.lookup, ht.isList.typeIs, ?_⟩
  refine wpAny_getItem_list_slice ht.isList hs pl pu .none (by simp) ?_ (by rw [List.size_toArray] <;> omega)
  rw [slicePick_cut, ← hlen]
  refine ⟨.ref s.heap.objs.size, _, I.laid (t' := s.toks) (o := .lst (cutV xs lo hi)) (fun b ob q => Heap.get?_push_of_some _ q) (Nat.le_refl _) ?_, rfl, q _ (I.hok.fresh (Nat.le_refl _))⟩
  exact ⟨Nat.le_trans (cutV_length xs lo hi) hz, _, 0, (r.drop (HT.sIx xs.length 0 lo)).take (HT.sIx xs.length xs.length hi - HT.sIx xs.length 0 lo), Heap.get?_push_size _ rfl⟩

/-! ### in, not in: flat items -/
def flatV : V → Bool
  | .non => true
  | .bl _ => true
  | .int _ => true
  | .str _ => true
  | _ => false
/-- == of flat values -/
def eqV : V → V → Bool
  | .non, .non => true
  | .bl a, .bl b => a == b
  | .bl a, .int b => (if a then 1 else 0) == b
  | .int a, .bl b => a == (if b then 1 else 0)
  | .int a, .int b => a == b
  | .str a, .str b => a == b
  | _, _ => false
theorem eqAt_V {A : Around} {s : Shared} {y x : V} {u v : Value} (ry : RelV y u) (rx : RelV x v) (fy : flatV y = true) (fx : flatV x = true) : SeqAt.EqAt A s u v (eqV y x) := by
  cases y with
  | non =>
    cases ry
    cases x with
    | non => cases rx; exact SeqAt.EqAt.same _
    | bl b => cases rx; exact SeqAt.EqAt.none_bool b
    | int b => obtain ⟨t, rfl⟩ := rx; exact SeqAt.EqAt.none_int b t
    | str b => obtain ⟨t, rfl⟩ := rx; exact SeqAt.EqAt.none_str b t
    | _ => exact absurd (show false = true from fx) Bool.false_ne_true
  | bl a =>
    cases ry
    cases x with
    | non => cases rx; exact SeqAt.EqAt.bool_none a
    | bl b => cases rx; exact SeqAt.EqAt.bool_bool a b
    | int b => obtain ⟨t, rfl⟩ := rx; exact SeqAt.EqAt.bool_int a b t
    | str b => obtain ⟨t, rfl⟩ := rx; exact SeqAt.EqAt.bool_str a b t
    | _ => exact absurd (show false = true from fx) Bool.false_ne_true
  | int a =>
    obtain ⟨t', rfl⟩ := ry
    cases x with
    | non => cases rx; exact SeqAt.EqAt.int_none a t'
    | bl b => cases rx; exact SeqAt.EqAt.int_bool a t' b
    | int b => obtain ⟨t, rfl⟩ := rx; exact SeqAt.EqAt.int_int a t' b t
    | str b => obtain ⟨t, rfl⟩ := rx; exact SeqAt.EqAt.int_str a t' b t
    | _ => exact absurd (show false = true from fx) Bool.false_ne_true
  | str a =>
    obtain ⟨t', rfl⟩ := ry
    cases x with
    | non => cases rx; exact SeqAt.EqAt.str_none a t'
    | bl b => cases rx; exact SeqAt.EqAt.str_bool a t' b
    | int b => obtain ⟨t, rfl⟩ := rx; exact SeqAt.EqAt.str_int a t' b t
    | str b => obtain ⟨t, rfl⟩ := rx; exact SeqAt.EqAt.str_str a t' b t
    | _ => exact absurd (show false = true from fx) Bool.false_ne_true
  | _ => exact absurd (show false = true from fy) Bool.false_ne_true
/-- the items' answers, read off the values (a value's own answer does not lean on its token) -/
def eqU (x : V) (u : Value) : Bool := match u with
  | .none => eqV .non x
  | .bool b => eqV (.bl b) x
  | .int i _ => eqV (.int i) x
  | .str z _ => eqV (.str z) x
  | _ => false
theorem eqU_of {x y : V} {u : Value} (r : RelV y u) (f : flatV y = true) : eqU x u = eqV y x := by
  cases y with
  | non => cases r; rfl
  | bl b => cases r; rfl
  | int i => obtain ⟨t, rfl⟩ := r; rfl
  | str z => obtain ⟨t, rfl⟩ := r; rfl
  | _ => exact absurd (show false = true from f) Bool.false_ne_true
theorem any_eqU {x : V} : ∀ {xs : List V} {us : List Value}, Vals xs us → xs.all flatV = true → us.any (eqU x) = xs.any fun y => eqV y x
  | _, _, .nil, _ => rfl
  | y :: xs, u :: us, .cons r t, f => by
    rw [List.all_cons, Bool.and_eq_true] at f
    rw [List.any_cons, List.any_cons, eqU_of r f.1, any_eqU t f.2]
theorem mem_eqAt {A : Around} {s : Shared} {x : V} {v : Value} (rx : RelV x v) (fx : flatV x = true) : ∀ {xs : List V} {us : List Value}, Vals xs us → xs.all flatV = true → ∀ u ∈ us, SeqAt.EqAt A s u v (eqU x u)
  | _, _, .nil, _ => fun u hu => by cases hu
  | y :: xs, u :: us, .cons r t, f => fun u' hu => by
    rw [List.all_cons, Bool.and_eq_true] at f
    rcases List.mem_cons.mp hu with rfl | hu
    · rw [eqU_of r f.1]; exact eqAt_V r rx f.1 fx
    · exact mem_eqAt rx fx t f.2 u' hu
def inV (x : V) (xs : List V) : Bool := xs.any fun y => eqV y x
/-- x in a list or tuple of flat items -/
def rIn (K : PySem.W.Frag) (neg : Bool) : R2 := fun x y H Q => ∃ p xs, y = .ref p ∧ (SqL K H p xs ∨ SqT K H p xs) ∧ flatV x = true ∧ xs.all flatV = true ∧ Q (.bl (if neg then !inV x xs else inV x xs)) H
theorem op_in_seq : OpR X (compareOp .In) (rIn X.K false) := by
  intro pins s σ H x y v u Q I rx ry h
  obtain ⟨p, xs, rfl, hq, fx, fs, q⟩ := h
  cases ry
  rcases hq with hq | hq
  · obtain ⟨its, r, pl, hz⟩ := I.list hq
    refine SeqAt.in_listAt (eqU x) pl.isList (fun w hw => mem_eqAt rx fx r fs w (by simpa using hw)) ⟨.bl _, H, I, rfl, ?_⟩
    rw [show its.toArray.any (eqU x) = its.any (eqU x) by simp, any_eqU r fs]
    exact q
  · obtain ⟨its, r, pl, hz⟩ := I.tuple hq
    refine SeqAt.in_tupleAt (eqU x) pl (fun w hw => mem_eqAt rx fx r fs w (by simpa using hw)) ⟨.bl _, H, I, rfl, ?_⟩
    rw [show its.toArray.any (eqU x) = its.any (eqU x) by simp, any_eqU r fs]
    exact q
/-! ### len, list(x), tuple(x) of any list or tuple that is read -/
theorem call_len_seq : CallR X (.builtin "len") (fun xs H Q => ∃ p ys, xs = [.ref p] ∧ (SqL X.K H p ys ∨ SqT X.K H p ys) ∧ Q (.int ys.length) H) := by
  intro pins s σ H xs us Q I r h
  obtain ⟨p, ys, rfl, hq, q⟩ := h
  obtain ⟨u, rfl, rx⟩ := vals1 r
  cases rx
  have hn := line63
  rcases hq with hq | hq
  · obtain ⟨its, r', pl, hz⟩ := I.list hq
    have hlen := r'.length
    exact Calls.call_len_list pl.isList (by simp only [List.size_toArray] <;> omega) ⟨.int ys.length, H, I.tok _, ⟨s.toks + 1, by rw [List.size_toArray, hlen]⟩, q⟩
  · obtain ⟨its, r', pl, hz⟩ := I.tuple hq
    have hlen := r'.length
    exact len_tuple pl (by simp only [List.size_toArray] <;> omega) ⟨.int ys.length, H, I.tok _, ⟨s.toks + 1, by rw [List.size_toArray, hlen]⟩, q⟩
theorem call_len_str : CallR X (.builtin "len") (fun xs H Q => ∃ z, xs = [.str z] ∧ z.length ≤ sizeLine ∧ Q (.int z.length) H) := by
  intro pins s σ H xs us Q I r h
  obtain ⟨z, rfl, hz, q⟩ := h
  obtain ⟨u, rfl, t, rfl⟩ := vals1 r
  have hn := line63
  exact len_str (by omega) ⟨.int z.length, H, I.tok _, ⟨_, rfl⟩, q⟩
theorem CallR.or {f : Value} {r r' : List V → Hp → VK → Prop} (h : CallR X f r) (h' : CallR X f r') : CallR X f (fun xs H Q => r xs H Q ∨ r' xs H Q) := by
  intro pins s σ H xs us Q I rs q
  rcases q with q | q
  · exact h pins s σ H xs us Q I rs q
  · exact h' pins s σ H xs us Q I rs q
theorem call_tuple_of : CallR X (.type "tuple") (fun xs H Q => ∃ p ys, xs = [.ref p] ∧ ((SqL X.K H p ys ∧ ∀ l, H l = none → Q (.ref l) (upd H l (.tup ys))) ∨ (SqT X.K H p ys ∧ Q (.ref p) H))) := by
  intro pins s σ H xs us Q I r h
  obtain ⟨p, ys, rfl, h⟩ := h
  obtain ⟨u, rfl, rx⟩ := vals1 r
  cases rx
  rcases h with ⟨hq, q⟩ | ⟨hq, q⟩
  · obtain ⟨its, r', pl, hz⟩ := I.list hq
    have hlen := r'.length
    refine call_tuple_list pl.isList (fun h' kp => ?_) (by simp only [List.size_toArray] <;> omega)
    have I1 : Inv X pins σ H { s with heap := h' } := I.kept (t' := s.toks) kp
    have I2 : Inv X pins σ (upd H h'.objs.size (.tup ys)) { s with heap := h'.push { cls := .type "tuple", data := .seq its.toArray } } :=
      I1.laid (t' := s.toks) (fun b o e => Heap.get?_push_of_some _ e) (Nat.le_refl _) (show ObjOk X.prog X.w _ _ _ (.tup ys) from ⟨hz, its, r', IsTup.new _ _⟩)
    exact ⟨.ref h'.objs.size, _, I2, rfl, q _ (I1.hok.fresh (Nat.le_refl _))⟩
  · obtain ⟨its, r', pl, hz⟩ := I.tuple hq
    exact call_tuple_same pl ⟨.ref p, H, I, rfl, q⟩

/-! ### the call of a builtin's method: o.m(..) -/
/-- the value is of that builtin type -/
def tyV (K : PySem.W.Frag) (T : String) (x : V) (H : Hp) : Prop := match x with
  | .str _ => T = "str"
  | .int _ => T = "int"
  | .ref p => (T = "list" ∧ ∃ xs, SqL K H p xs) ∨ (T = "tuple" ∧ ∃ o, K.lookup p = some o ∧ o.cls = .type "tuple" ∧ o.dict = none) ∨
      (T = "dict" ∧ ((∃ kvs, H p = some (.dK kvs)) ∨ ∃ kvs, H p = some (.dT kvs))) ∨ (T = "set" ∧ ∃ S n, H p = some (.set S n))
  | _ => False
theorem tyV_is {pins : List (Addr × Obj)} {σ : St} {H : Hp} {s : Shared} {T : String} {x : V} {v : Value} (I : Inv X pins σ H s) (r : RelV x v) (ty : tyV X.K T x H) :
    s.TypeIs v T ∧ ∀ a, v = .ref a → ∃ ob, s.heap.get? a = some ob ∧ ob.dict = none := by
  cases x with
  | str z =>
    obtain ⟨t, rfl⟩ := r
    cases (show T = "str" from ty)
    exact ⟨typeIs_str s z t, fun _ e => nomatch e⟩
  | int i =>
    obtain ⟨t, rfl⟩ := r
    cases (show T = "int" from ty)
    exact ⟨typeIs_int s i t, fun _ e => nomatch e⟩
  | ref p =>
    cases r
    rcases ty with ⟨rfl, xs, hq⟩ | ⟨rfl, o, hk, hc, hd⟩ | ⟨rfl, hk⟩ | ⟨rfl, S, n, hk⟩
    · obtain ⟨its, _, pl, _⟩ := I.list hq
      refine ⟨pl.isList.typeIs, fun a e => ?_⟩
      cases e
      obtain ⟨o, n, e, c, hd, _⟩ := pl
      exact ⟨o, e, hd⟩
    · refine ⟨⟨o, I.kIn p o hk, hc⟩, fun a e => ?_⟩
      cases e
      exact ⟨o, I.kIn _ o hk, hd⟩
    · have z : ∃ o, s.heap.get? p = some o ∧ o.ExactDict := by
        rcases hk with ⟨kvs, hk⟩ | ⟨kvs, hk⟩
        · obtain ⟨_, _, _, _, o, _, _, e, ex, _⟩ := I.hok p _ hk
          exact ⟨o, e, ex⟩
        · obtain ⟨_, _, _, _, o, _, _, e, ex, _⟩ := I.hok p _ hk
          exact ⟨o, e, ex⟩
      obtain ⟨o, e, ex⟩ := z
      refine ⟨⟨o, e, ex.1⟩, fun a e2 => ?_⟩
      cases e2
      exact ⟨o, e, ex.2.1⟩
    · obtain ⟨o, _, _, _, e, ex, _⟩ := I.hok p _ hk
      refine ⟨⟨o, e, ex.1⟩, fun a e2 => ?_⟩
      cases e2
      exact ⟨o, e, ex.2.1⟩
  | _ => exact False.elim ty
variable {o e : Expr} {es : List Expr} {to : TE} {t : TA} {name : Str} {apos cpos : Pos} {T id : String} {r : V → List V → Hp → VK → Prop}
/- xs.append(e), list.index on a module's tuple .. are MtR facts of 06m -/
end
end L2

namespace L2
open PySem PySem.Spec PyProof.Rows

def MtM (X : Cx) (id : String) (r : V → List V → Hp → VK → Prop) : Prop :=
  ∀ (pins : List (Addr × Obj)) (s : Shared) (σ : St) (H : Hp) (x : V) (xs : List V) (v : Value) (us : List Value) (Q : VK), Inv X pins σ H s → RelV x v → Vals xs us → r x xs H Q →
    wpAny (model X.prog X.w) X.A (call (.builtin id) (v :: us)) (EP X pins σ Q) X.xe s

/-! ### lists of values -/
theorem Vals.one : ∀ {x : V} {us : List Value}, Vals [x] us → ∃ u, us = [u] ∧ RelV x u
  | _, _, .cons r .nil => ⟨_, rfl, r⟩
theorem Vals.two : ∀ {x y : V} {us : List Value}, Vals [x, y] us → ∃ u v, us = [u, v] ∧ RelV x u ∧ RelV y v
  | _, _, _, .cons r (.cons q .nil) => ⟨_, _, rfl, r, q⟩
theorem Vals.zero : ∀ {us : List Value}, Vals [] us → us = []
  | _, .nil => rfl
theorem Vals.dropLast {xs : List V} {us : List Value} (h : Vals xs us) : Vals xs.dropLast us.dropLast := by
  induction h with
  | nil => exact .nil
  | cons r t ih =>
    cases t with
    | nil => exact .nil
    | cons q t' => exact .cons r ih
theorem Vals.rep {xs : List V} {us : List Value} (h : Vals xs us) : ∀ k : Nat, Vals (List.replicate k xs).flatten (List.replicate k us).flatten
  | 0 => .nil
  | k + 1 => by
    rw [List.replicate_succ, List.replicate_succ, List.flatten_cons, List.flatten_cons]
    exact Vals.append h (Vals.rep h k)
theorem foldl_rep (its : List Value) : ∀ (k : Nat) (acc : List Value),
    List.foldl (fun x1 x2 => x1 ++ x2) acc.toArray (List.replicate k its.toArray) = (acc ++ (List.replicate k its).flatten).toArray
  | 0, acc => by simp
  | k + 1, acc => by
    have e : acc.toArray ++ its.toArray = (acc ++ its).toArray := by simp
    have e2 : (acc ++ its) ++ (List.replicate k its).flatten = acc ++ (List.replicate (k + 1) its).flatten := by
      rw [List.replicate_succ, List.flatten_cons, List.append_assoc]
    rw [← e2, ← foldl_rep its k (acc ++ its), ← e, List.replicate_succ, List.foldl_cons]

section
variable {X : Cx} {pins : List (Addr × Obj)} {σ : St} {H : Hp} {s : Shared} {l b : Addr} {xs ys zs : List V}

/-! ### the two steps: a tracked list is rewritten, a new list is laid -/
theorem Inv.lset {its its' : List Value} {n : Nat} {f : Array Value → Array Value} {t' : Nat} (I : Inv X pins σ H s) (hH : H l = some (.lst xs))
    (e : s.heap.get? l = some { cls := .type "list", data := .seq its.toArray n }) (hf : f its.toArray = its'.toArray) (hv : Vals ys its') (hz : ys.length ≤ sizeLine) :
    Inv X pins σ (upd H l (.lst ys)) { s with heap := s.heap.update l (Obj.mapSeq f), toks := t' } := by
  have q := PySem.IsL.update e f
  rw [hf] at q
  refine I.write (x := l) (e := l) (by rw [hH]; exact trivial) (.inl rfl) (fun b' u hb hu => (Heap.get?_update_other s.heap (Obj.mapSeq f) (Ne.symm hb)).trans hu) ⟨_, q⟩ ?_
  exact ⟨hz, its', _, hv, q⟩
theorem Inv.lnew {its : List Value} {t' : Nat} (I : Inv X pins σ H s) (hv : Vals ys its) (hz : ys.length ≤ sizeLine) :
    Inv X pins σ (upd H s.heap.objs.size (.lst ys)) { s with heap := s.heap.push { cls := .type "list", data := .seq its.toArray }, toks := t' } :=
  I.laid (fun _ _ q => Heap.get?_push_of_some _ q) (Nat.le_refl _) ⟨hz, its, 0, hv, Heap.get?_push_size _ rfl⟩
theorem Inv.fresh (I : Inv X pins σ H s) : H s.heap.objs.size = none := I.hok.fresh (Nat.le_refl _)
theorem Inv.lstM (I : Inv X pins σ H s) (hH : H l = some (.lst xs)) : xs.length ≤ sizeLine ∧ ∃ (its : List Value) (n : Nat), Vals xs its ∧ xs.length = its.length ∧ s.heap.get? l = some { cls := .type "list", data := .seq its.toArray n } := by
  obtain ⟨z, its, n, r, e⟩ := I.hok l _ hH
  exact ⟨z, its, n, r, r.length, e⟩

theorem notLongL {n : Nat} (h : n ≤ sizeLine) : Builtin.List.listTooLong n = false := by
  unfold Builtin.List.listTooLong
  exact decide_eq_false (by omega)
end

section
variable {X : Cx}

/-! ### methods -/
def rAppend : V → List V → Hp → VK → Prop := fun x vs H Q => ∃ l xs y, x = .ref l ∧ vs = [y] ∧ H l = some (.lst xs) ∧ xs.length < sizeLine ∧ Q .non (upd H l (.lst (xs ++ [y])))
theorem mt_append : MtM X "list.append" rAppend := by
  intro pins s σ H x vs v us Q I rx rv h
  obtain ⟨l, xs, y, rfl, rfl, hH, hz, q⟩ := h
  cases rx
  obtain ⟨u, rfl, ru⟩ := rv.one
  obtain ⟨z, its, n, r, hl, e⟩ := I.lstM hH
  refine call_meets F.slot_list_append ⟨_, e, rfl⟩ F.entry_list_append (F.args_list_append_2 _ _) (PySem.list_append l its.toArray n u (by rw [List.size_toArray]; omega)) ⟨e, ?_⟩
  refine ⟨.non, _, I.lset (its' := its ++ [u]) hH e (by simp) (r.append (.cons ru .nil)) ?_, rfl, q⟩
  rw [List.length_append, List.length_singleton]
  omega

def rExtend : V → List V → Hp → VK → Prop := fun x vs H Q => ∃ l b xs zs, x = .ref l ∧ vs = [.ref b] ∧ H l = some (.lst xs) ∧ H b = some (.lst zs) ∧ xs.length + zs.length ≤ sizeLine ∧ Q .non (upd H l (.lst (xs ++ zs)))
theorem mt_extend : MtM X "list.extend" rExtend := by
  intro pins s σ H x vs v us Q I rx rv h
  obtain ⟨l, b, xs, zs, rfl, rfl, hH, hB, hz, q⟩ := h
  cases rx
  obtain ⟨u, rfl, ru⟩ := rv.one
  cases ru
  obtain ⟨z, its, n, r, hl, e⟩ := I.lstM hH
  obtain ⟨z2, its2, n2, r2, hl2, e2⟩ := I.lstM hB
  have hsz : its.toArray.size + its2.toArray.size ≤ sizeLine := by rw [List.size_toArray, List.size_toArray]; omega
  have hlong : ¬ (!its.toArray.isEmpty && Builtin.List.listTooLong (its.toArray.size + its2.toArray.size)) = true := by
    rw [notLongL hsz, Bool.and_false]
    exact Bool.false_ne_true
  refine call_meets F.slot_list_extend ⟨_, e, rfl⟩ F.entry_list_extend (F.args_list_extend_2 _ _)
    (AutoSeq1.list_extend_list_list_0 l its.toArray n b its2.toArray n2 hlong (by rw [List.size_toArray]; omega) (by omega)) ⟨e, e2, ?_⟩
  refine ⟨.non, _, I.lset (its' := its ++ its2) hH e (by simp) (r.append r2) ?_, rfl, q⟩
  rw [List.length_append]
  omega

/-! ### list + list, list += list, list * int -/
def rCat : R2 := fun x y H Q => ∃ l b xs zs, x = .ref l ∧ y = .ref b ∧ H l = some (.lst xs) ∧ H b = some (.lst zs) ∧ xs.length + zs.length ≤ sizeLine ∧ ∀ p, H p = none → Q (.ref p) (upd H p (.lst (xs ++ zs)))
theorem op_cat : OpR X (binaryOp .Add) rCat := by
  intro pins s σ H x y v u Q I rx ry h
  obtain ⟨l, b, xs, zs, rfl, rfl, hH, hB, hz, q⟩ := h
  cases rx
  cases ry
  obtain ⟨z, its, n, r, hl, e⟩ := I.lstM hH
  obtain ⟨z2, its2, n2, r2, hl2, e2⟩ := I.lstM hB
  refine PySem.P.add_list e e2 ?_ (by rw [List.size_toArray, List.size_toArray]; omega)
  have ea : its.toArray ++ its2.toArray = (its ++ its2).toArray := by simp
  rw [ea]
  exact ⟨.ref _, _, I.lnew (t' := s.toks) (r.append r2) (by rw [List.length_append]; omega), rfl, q _ I.fresh⟩
/-- a list times an int (a negative one is nothing) -/
def rRep : R2 := fun x y H Q => ∃ l k xs, x = .ref l ∧ y = .int k ∧ H l = some (.lst xs) ∧ -(2 ^ 63) ≤ k ∧ k < 2 ^ 63 ∧ xs.length * k.toNat ≤ sizeLine ∧
  ∀ p, H p = none → Q (.ref p) (upd H p (.lst (List.replicate k.toNat xs).flatten))
theorem len_rep {α : Type} (xs : List α) (k : Nat) : (List.replicate k xs).flatten.length = k * xs.length := by
  induction k with
  | zero => simp
  | succ k ih => rw [List.replicate_succ, List.flatten_cons, List.length_append, ih, Nat.succ_mul, Nat.add_comm]
theorem op_rep : OpR X (binaryOp .Mult) rRep := by
  intro pins s σ H x y v u Q I rx ry h
  obtain ⟨l, k, xs, rfl, rfl, hH, h1, h2, hz, q⟩ := h
  cases rx
  obtain ⟨t, rfl⟩ := ry
  obtain ⟨z, its, n, r, hl, e⟩ := I.lstM hH
  have hlen : its.toArray.size * k.toNat ≤ sizeLine := by rw [List.size_toArray, ← hl]; exact hz
  have hcap : ¬ its.toArray.size * k.toNat > (2 ^ 63 - 1) / 8 := by
    have : (sizeLine : Nat) ≤ (2 ^ 63 - 1) / 8 := by decide
    omega
  have hfit : ¬ (!Builtin.List.listFitsIndex k) = true := by
    rw [fitsIndex_both h1 h2]
    exact Bool.false_ne_true
  have hlong : ¬ Builtin.List.listTooLong (its.toArray.size * k.toNat) = true := by
    rw [notLongL hlen]
    exact Bool.false_ne_true
  have hnew : List.foldl (fun x1 x2 => x1 ++ x2) #[] (List.replicate (if its.toArray.isEmpty = true then 0 else k.toNat) its.toArray) = (List.replicate k.toNat its).flatten.toArray := by
    have f0 : ∀ m : Nat, List.foldl (fun x1 x2 => x1 ++ x2) #[] (List.replicate m its.toArray) = (List.replicate m its).flatten.toArray := fun m => by
      have := foldl_rep its m []
      rw [List.nil_append] at this
      exact this
    rw [f0]
    cases its with
    | nil => simp
    | cons a r' => rw [if_neg (by simp)]
  refine wpAny_binaryOp_repeat_ref (T := "list") (U := "int") (by decide) ⟨_, e, rfl⟩ (fun s' => typeIs_int s' k t) noFill_list_mul F.fills_int_mul F.slot_int_rmul repeat_list F.slot_int_index.lookup
    (call_meets F.slot_int_rmul (typeIs_int s k t) F.entry_int_rmul (F.args_int_rmul_2 _ _) (int___rmul___int_list k t l its.toArray n)
      ⟨e, rfl, ⟨_, e, rfl⟩, call_meets F.slot_list_mul ⟨_, e, rfl⟩ F.entry_list_mul (F.args_list_mul_2 _ _) (AutoListH.list___mul___list_int_3 l its.toArray n k t hfit hcap hlong) ⟨e, ?_⟩⟩)
  rw [hnew]
  exact ⟨.ref _, _, I.lnew (t' := s.toks) (r.rep k.toNat) (by rw [len_rep, Nat.mul_comm]; exact hz), rfl, q _ I.fresh⟩

/-! ### del xs[i] -/
end

/-! ### xs[a:b] = ys -/
section
variable {prog : Program} {w : World} {A : Around} {E : Value → Shared → Prop} {s : Shared}
end

section
variable {X : Cx}
end
end L2

namespace Att
open PySem PySem.W PySem.Calls PyProof.Rows

/-! ### the script -/
theorem ints_of_wellAll {P : Params} {h : Heap} : ∀ (ns : List Int) (vs : List Value), WellAll P h vs (ns.map WData.int) → IntsAre vs ns := by
  intro ns
  induction ns with
  | nil =>
    intro vs w
    rw [List.map_nil] at w
    cases w
    exact .nil
  | cons n ns ih =>
    intro vs w
    rw [List.map_cons] at w
    cases w with
    | cons a b =>
      cases a
      exact .cons _ _ (ih _ b)

theorem script_of {l : OpenLaw} {n : Nat} (hn : l.most = some n) {P : Params} {h : Heap} {args : List WData} {vals : List Value}
    (hpre : l.row.toRowW.claim.pre args = true) (hwl : WellAll P h vals args) :
    ∃ a vs ns, vals = [Value.ref a] ∧ args = [WData.list (ns.map WData.int)] ∧ h.get? a = some { cls := .type "list", data := .seq vs.toArray } ∧ IntsAre vs ns ∧ ns.length ≤ n := by
  have hsh : WShape.hasAll [] args [.list .int] = true := (pre_splitW hpre).1
  have hc : l.pre.holds [] { args := args } = true := (pre_splitW hpre).2
  obtain ⟨d, r, rfl, h1, h2⟩ := hasAllW_cons hsh
  obtain rfl := hasAllW_nil h2
  obtain ⟨xs, rfl, h3⟩ := hasW_list h1
  obtain ⟨ns, rfl⟩ := items_int h3
  have hlen : ns.length ≤ n := by
    unfold OpenLaw.pre at hc
    have h4 : (WTm.not (.lt (.lit (.int (n : Int))) (.len (.arg 0)))).holds [] { args := [.list (ns.map .int)] } = true := by
      have h4 := (holds_andW hc).1
      rw [hn] at h4
      exact h4
    have h5 := condW_of h4 (w_not (w_lt w_lit (w_len_list (w_arg rfl))))
    rw [List.length_map] at h5
    refine Nat.le_of_not_lt fun q => ?_
    have q' : (n : Int) < ((ns.length : Nat) : Int) := by omega
    first
      | (rw [decide_eq_true q'] at h5; exact absurd h5 (by decide))
      | (simp at h5; omega)
  cases hwl with
  | cons w1 w2 =>
    cases w2
    cases w1 with
    | list ho hall => exact ⟨_, _, ns, rfl, rfl, ho, ints_of_wellAll ns _ hall, hlen⟩

theorem post_true (l : OpenLaw) (args : List WData) : l.row.toRowW.claim.post args (.bool true) args = true :=
  postW_of (r := l.row.toRowW) (X := (true == true))
    (show WShape.has [] (.bool true) .bool = true by first | rfl | decide | simp [WShape.has, WShape.arms, WShape.armsAll])
    (show (WTm.eq .res (.lit (.bool true))).value [] { args := args, res := some (.bool true), after := args } = some (.bool (true == true)) from w_eq_bool (w_res rfl) w_lit) rfl

/-! ### the attachment: holds_open's last premise (the goal 'hc' behind k_head) from a wpAny of the law's body -/
/-- the same from a codeAny of the CALL (for a layer whose function contracts speak of calls) -/
theorem attach_call {l : OpenLaw} {n : Nat} {q : Program} {loose : List Str} {XP : (Str → Option Value) → Heap → Prop} {YP : World → Heap → Prop} {d : DefRec}
    (hn : l.most = some n) (hdf : d.params.defaults = [])
    (call : ∀ (w : World) (s₀ s₁ : Shared) (mg mb : Str → Option Value) (fa : Addr) (o : Obj) (pm cd doc : Value) (a : Addr) (vs : List Value) (ns : List Int),
      Ground q loose [] XP w s₀ mg mb s₁.heap → YP w s₁.heap →
      s₁.heap.get? fa = some o → o.data = .func (docDef d.name d.params d.body d.scope pm cd doc) → s₁.heap.CodeRec cd d.name → mg d.name = some (.ref fa) →
      s₁.heap.get? a = some { cls := .type "list", data := .seq vs.toArray } → IntsAre vs ns → ns.length ≤ n → s₁.gens = #[] →
      codeAny (model l.prog w) callerA (.call (.ref fa) ⟨[.ref a], []⟩) (fun r s' => r = .ok (.ret (.bool true)) ∧ OldK s₁.heap s'.heap ∧ s'.os = s₁.os ∧ AllBare s'.gens) s₁) :
    WalkO q loose XP YP l.row.toRowW d [] (fun f vs => PySem.call f vs) := by
  intro w s₀ s₁ mg mb G Y fa o pm cd doc dV kV ho hd hcd hD hmg hg args vals as hpre hlay hrd hwl hlo
  obtain rfl : dV = .none := Dflts.none hD hdf
  obtain rfl : kV = .none := Dflts.noKw hD
  obtain ⟨a, vs, ns, rfl, rfl, hobj, hints, hlen⟩ := script_of hn hpre hwl
  refine enter_call (codeAny_mono (call w s₀ s₁ mg mb fa o pm cd doc a vs ns G Y ho (fd_plain hd) hcd hmg hobj hints hlen hg) fun r s' hq => ?_)
  obtain ⟨rfl, h2, h3, h4⟩ := hq
  exact ⟨.inl ⟨.bool true, .bool true, [], rfl, fun _ => rfl, .bool true, post_true l _, fun _ => ⟨List.Pairwise.nil, fun _ hm => (nomatch hm)⟩⟩, h2, h3, h4⟩

/-! ### rules over ANY heap (no ledger) from facts about the written part K: the library's own take a ledger (News) for what they write -/
section
variable {prog : Program} {w : World} {A : Around} {E : Value → Shared → Prop} {s : Shared} {K : Frag}

/-! the whole heap as the ledger: makes every rule that writes through a ledger a rule over any heap -/
def ledger (h : Heap) (L d : Addr) : List (Addr × Obj) := (List.range h.objs.size).filterMap fun a => if a = L ∨ a = d then none else (h.get? a).map fun o => (a, o)
end
end Att

namespace L2
open PySem PySem.Spec PyProof.Rows

theorem vals_ints : ∀ {vs : List Value} {ns : List Int}, IntsAre vs ns → Vals (ns.map V.int) vs
  | _, _, .nil => .nil
  | _, _, .cons n t h => .cons ⟨t, rfl⟩ (vals_ints h)

/-- nothing is tracked but the script, known to the object (or it is an object of the module) -/
def Only (H : Hp) : Prop := ∀ b, H b = none ∨ ∃ o xs, H b = some (.frz o (.lst xs))

/-- THE HEAD: the law's promise, at the heap behind the top. F, the promise of the law's def, may use that base is part of the heap (so K.In base, base.Ns mainGlobals mg stand in Mod) -/
theorem law_call {P : Program} {w : World} {K : PySem.W.Frag} {mg mb : Str → Option Value} {CX : CXT} {k : Nat} {fa a : Addr} {fd : FuncData} {x : Str} {sp : Sp} {s₁ : Shared} {vs : List Value} {ns : List Int}
    (KX : K.In s₁.heap) (hns : s₁.heap.Ns mainGlobals mg) (hb : s₁.heap.Ns builtinsNs mb) (hbb : ∀ x : Str, x ≠ "__name__" → mb x = bootBuiltins x) (hlim : s₁.heap.NoLimit) (hg : s₁.gens = #[])
    (ha : s₁.heap.get? a = some { cls := .type "list", data := .seq vs.toArray }) (hi : IntsAre vs ns) (hl : ns.length ≤ sizeLine) (hr : Room true k callerA)
    (F : ∀ base : Heap, K.In base → base.Ns mainGlobals mg → FnOk P w K mg base CX true k fa fd [x] sp) (hbind : ∀ (s : Shared) (u : Value), BindsTo s fd ⟨[u], []⟩ [(x, u)])
    (hsp : ∀ H : Hp, Only H → SqL K H a (ns.map V.int) → sp [.ref a] H (fun v _ => v = .bl true) fun _ _ _ => False)
    (hCX : ∀ H e s', CX [] H s₁ (fun _ _ _ => False) e s' → False) :
    codeAny (model P w) callerA (.call (.ref fa) ⟨[.ref a], []⟩) (fun r s' => r = .ok (.ret (.bool true)) ∧ OldK s₁.heap s'.heap ∧ s'.os = s₁.os ∧ AllBare s'.gens) s₁ := by
  have rv := vals_ints hi
  have lenV := hi.length
  -- from an abstract heap in which nothing but the script may be tracked
  have core : ∀ H : Hp, Only H → SqL K H a (ns.map V.int) → HOk P w H s₁.heap → (∀ b, H b ≠ none → b = a) → (H a ≠ none → K.lookup a = none) →
      codeAny (model P w) callerA (.call (.ref fa) ⟨[.ref a], []⟩) (fun r s' => r = .ok (.ret (.bool true)) ∧ OldK s₁.heap s'.heap ∧ s'.os = s₁.os ∧ AllBare s'.gens) s₁ := by
    intro H hO hS hok hA hK
    have base_of : ∀ {b : Addr} {o : Obj}, s₁.heap.get? b = some o → H b = none → (hidT s₁.heap H).get? b = some o := fun e n => hidT_get e n
    have noA : ∀ {b : Addr} {o : Obj} {es : Array DictEntry} {ep : Nat}, s₁.heap.get? b = some o → o.data = .dict es ep → H b = none := fun {b o es ep} e d => by
      cases q : H b with
      | none => rfl
      | some u =>
        have e' : b = a := hA b (by rw [q]; simp)
        subst e'
        rw [ha] at e; cases e
        have d' : Data.seq vs.toArray _ = Data.dict es ep := d
        cases d'
    have nsK : ∀ {b : Addr} {m : Str → Option Value}, s₁.heap.Ns b m → (hidT s₁.heap H).Ns b m := fun {b m} ⟨o, es, ep, e, d, r⟩ => ⟨o, es, ep, base_of e (noA e d), d, r⟩
    have hKb : K.In (hidT s₁.heap H) := fun b o e => base_of (KX b o e) (by
      cases q : H b with
      | none => rfl
      | some u =>
        have e' : b = a := hA b (by rw [q]; simp)
        subst e'
        rw [hK (by rw [q]; simp)] at e; cases e)
    have hM : Mod K mg (hidT s₁.heap H) := ⟨hKb, nsK hns, ⟨mb, nsK hb, hbb⟩, let ⟨mc, h1, h2⟩ := hlim; ⟨mc, nsK h1, h2⟩⟩
    have e0 : Env0 P w K mg (hidT s₁.heap H) callerA [] s₁ H := ⟨rfl, .inl rfl, hM, fun b o e => of_hidT e, Nat.le_of_eq (hidT_size _ _), trivial, fun b hb => absurd (show b ∈ ([] : List Addr) from hb) (by simp), hok, .of_eq hg⟩
    refine codeAny_mono ((F _ hKb (nsK hns)).run callerA [] s₁ H ⟨[.ref a], []⟩ [.ref a] [.ref a] _ _ hr e0 (hbind s₁ (.ref a)) (.cons rfl .nil) (hsp H hO hS)) fun r s' h => ?_
    cases r with
    | error e => exact (hCX H e s' h).elim
    | ok fl =>
      cases fl with
      | next => exact False.elim h
      | brk => exact False.elim h
      | cont => exact False.elim h
      | ret u =>
        obtain ⟨v, H', os, bare, un, hok', r', q⟩ := h
        have q' : v = .bl true := q
        subst q'
        obtain rfl : u = Value.bool true := r'
        refine ⟨rfl, OldK.of_keep fun b o e => ?_, os, bare⟩
        cases q : H b with
        | none => exact un.keep b o e q (by intro z; exact absurd (show b ∈ ([] : List Addr) from z) (by simp)) (by simp)
        | some u =>
          rcases hO b with z | ⟨ob, xs, z⟩
          · rw [q] at z; cases z
          · have z2 := un.frzs b ob _ z
            obtain ⟨e1, _⟩ := hok b _ z
            obtain ⟨e2, _⟩ := hok' b _ z2
            rw [e] at e1; cases e1
            exact e2
  cases hk : K.lookup a with
  | some o =>
    -- the script is one of the module's own objects
    have e := KX a o hk
    rw [ha] at e
    cases e
    refine core (fun _ => none) (fun _ => .inl rfl) (.inr ⟨_, vs.toArray, _, hk, rfl, rfl, rfl, by rw [List.size_toArray, lenV]; exact hl, by simpa using rv⟩) (fun b u z => by have z' : (none : Option HO) = some u := z; cases z') (fun b z => absurd rfl z) fun z => absurd rfl z
  | none =>
    refine core (fun b => if b = a then some (.frz { cls := .type "list", data := .seq vs.toArray } (.lst (ns.map V.int))) else none) (fun b => ?_) (.inl (.inr ⟨{ cls := .type "list", data := .seq vs.toArray }, if_pos rfl⟩)) (fun b u z => ?_) (fun b z => ?_) fun _ => hk
    · by_cases hb : b = a
      · exact .inr ⟨_, _, if_pos hb⟩
      · exact .inl (if_neg hb)
    · by_cases hb : b = a
      · have z' := (if_pos hb).symm.trans z
        cases z'
        subst hb
        exact ⟨ha, by rw [List.length_map]; exact hl, vs, _, rv, ha⟩
      · have z' := (if_neg hb).symm.trans z
        cases z'
    · by_cases hb : b = a
      · exact hb
      · exact absurd (if_neg hb) z
end L2

namespace L2
open PySem PySem.Spec PyProof.Rows

abbrev KOf {K : PySem.W.Frag} {h : Heap} (_ : K.In h) : PySem.W.Frag := K

/-- the goal that k_head leaves (case hc), from the law's promise. F gives the function object fd (K's own) once, then the promise over every base -/
theorem walk_of {l : PySem.W.OpenLaw} {n k : Nat} {q : Program} {loose : List Str} {XP : (Str → Option Value) → Heap → Prop} {YP : World → Heap → Prop} {d : DefRec} {K : Params → PySem.W.Frag} {CX : World → CXT} {sp : World → Sp} {x : Str}
    (hn : l.most = some n) (hn2 : n ≤ sizeLine) (hdf : d.params.defaults = []) (hr : Room true k callerA)
    (hY : ∀ (w : World) (h : Heap), YP w h → (K w.params).In h)
    (F : ∀ (w : World) (mg : Str → Option Value) (fa : Addr) (h : Heap), (K w.params).In h → h.Ns mainGlobals mg → mg d.name = some (.ref fa) →
      ∃ fd : FuncData, (∀ (s : Shared) (u : Value), BindsTo s fd ⟨[u], []⟩ [(x, u)]) ∧
        ∀ base : Heap, (K w.params).In base → base.Ns mainGlobals mg → FnOk l.prog w (K w.params) mg base (CX w) true k fa fd [x] (sp w))
    (hsp : ∀ (w : World) (H : Hp) (a : Addr) (ns : List Int), ns.length ≤ n → Only H → SqL (K w.params) H a (ns.map V.int) → sp w [.ref a] H (fun v _ => v = .bl true) fun _ _ _ => False)
    (hCX : ∀ (w : World) (H : Hp) (s : Shared) (e : Value) (s' : Shared), CX w [] H s (fun _ _ _ => False) e s' → False) :
    PySem.W.WalkO q loose XP YP l.row.toRowW d [] (fun f vs => PySem.call f vs) := by
  refine Att.attach_call hn hdf fun w s₀ s₁ mg mb fa o pm cd doc a vs ns G Y ho hd hcd hmg hobj hints hlen hg => ?_
  have KX := hY w _ Y
  obtain ⟨fd, hb, hF⟩ := F w mg fa _ KX G.T.g hmg
  exact law_call KX G.T.g G.T.b G.T.builtins G.T.nolimit hg hobj hints (Nat.le_trans hlen hn2) hr hF hb (fun H hO hS => hsp w H a ns hlen hO hS) fun H e s' => hCX w H s₁ e s'
end L2

/- THE LAST THEOREM (shape; LID, My.* are yours):
   My.Adr: a structure of the addresses that your layer names (classes, functions); My.Txt K t: a structure (Prop) of the equations over K;
   My.txt_mk : {K} {implicit addresses ..} (e1 : nsIn K mainGlobals "law" = some (some (.ref f))) (e2 : K.lookup f = some ⟨oc, od, .func (fnOf "law" "law" params body scope dV kV doc pm an cdv ct), sl⟩) (e3 : codeIn K cdv "law" = true) .. : ∃ t, My.Txt K t

set_option maxRecDepth 100000 in
set_option maxHeartbeats 0 in
theorem PySem.Challenge.cw_LID_holds : PySem.Challenge.rw_LID.Holds := by
  w_on; o_law; k_head; (case hw => w_witness2)
  k_fill
  refine L2.walk_of (l := PySem.Challenge.rw_LID) (n := 63) (k := 40) (x := "script") (CX := fun w => ..) (sp := fun _ => My.sp_law) rfl (by decide) rfl ⟨rfl, by decide, by decide⟩ (fun w h Y => PySem.W.kIn_of Y) ?F ?S ?C
  case F =>
    intro w mg fa h KX G hmg
    have T : ∃ t, My.Txt (L2.KOf KX) t := by
      dsimp only [L2.KOf]                          -- K must stand as «<heap const> w.params» for k_is
      refine' My.txt_mk ?e1 ?e2 ?e3 ..
      (case e1 => PySem.W.k_is)                    -- in the order: a name -> its address -> its object -> its parts
      (case e2 => PySem.W.k_is)
      ..
    obtain ⟨t, T⟩ := T
    have e0 := hmg.symm.trans (PySem.W.mg_of KX G T.law)
    cases e0                                       -- fa is the law's own address
    exact ⟨_, fun s u => .of_eq rfl, fun base kb nb => My.law_fn T kb nb⟩     -- if «.of_eq rfl» comes too early: refine' ⟨_, ?b, fun base kb nb => My.law_fn T kb nb⟩; exact fun s u => .of_eq rfl
  case S => exact fun w H a ns hl hO hS => ..
  case C => exact ..
(the tactic k_is has no namespace: write k_is) -/

/-! SHORT WORDS over the layer: a def of the text, its body, what a loop and a test want. -/
namespace L2
open PySem PySem.Spec PyProof.Rows

/-! ### the text by places -/
def defArgs (s : Stmt) : Arguments := match s with
  | .FunctionDef _ a _ _ _ _ _ _ _ _ => a
  | _ => { posonlyargs := [], args := [], vararg := none, kwonlyargs := [], kw_defaults := [], kwarg := none, defaults := [] }
def defBody (s : Stmt) : List Stmt := match s with
  | .FunctionDef _ _ b _ _ _ _ _ _ _ => b
  | _ => []
def defScope (s : Stmt) : Scope := match s with
  | .FunctionDef _ _ _ _ _ _ sc _ _ _ => sc
  | _ => { kind := .function, names := [], isGenerator := false, isCoroutine := false }

/-! ### no exception leaves a def -/
abbrev CX0 : CXT := fun _ _ _ _ _ _ => False
abbrev E0 : XK := fun _ _ _ => False
theorem pass0 {X : Cx} : Passes CX0 X E0 := fun _ _ _ _ _ _ _ h => h.elim

/-! ### a def (or method) of the text as it stands behind the top -/
structure Fun (K : PySem.W.Frag) (x qual : Str) (st : Stmt) (f : Addr) (fd : FuncData) : Prop where
  ex : ∃ (oc : Value) (od : Option Addr) (kV doc pm : Value) (an : Option Addr) (cdv ct : Value) (osl : Array (Option Value)),
    fd = PySem.W.fnOf x qual (defArgs st) (defBody st) (defScope st) .none kV doc pm an cdv ct ∧ K.lookup f = some ⟨oc, od, .func fd, osl⟩ ∧ PySem.W.codeIn K cdv qual = true
  kp : PySem.W.keepIn K (.ref f) = true
section
variable {P : Program} {w : World} {K : PySem.W.Frag} {mg : Str → Option Value} {base : Heap}
/-- THE RULE for a def: its body as a term of rules, and the reading of that term -/
theorem Fun.ok {x qual : Str} {st : Stmt} {f : Addr} {fd : FuncData} {N ps : List Str} {cm : Bool} {k : Nat} {sp : Sp} (F : Fun K x qual st f fd) (S : FnScope N ps (defScope st)) (len : ∀ vs H Q E, sp vs H Q E → vs.length = ps.length)
    (hbody : ∀ (cdv : Value) (A : Around) (outer : List Env) (s : Shared) (H : Hp) (vs : List V) (Q : VK) (E : XK), Room cm k (A.deeper (envOfC qual (defScope st) s.heap.objs.size f cdv)) → sp vs H Q E →
      ∃ t, PSs (cxOf CX0 cm P w K mg base N qual (defScope st) f cdv A outer s H E).nox (defBody st) t ∧ t { nx := fun _ H' => Q .non H', rt := Q } (start N vs) H) : FnOk P w K mg base CX0 cm (k + 1) f fd ps sp := by
  obtain ⟨oc, od, kV, doc, pm, an, cdv, ct, osl, rfl, lk, hcd⟩ := F.ex
  refine fn_of lk hcd S len fun A outer s H vs Q E hr hsp => ?_
  obtain ⟨t, h, q⟩ := hbody cdv A outer s H vs Q E hr hsp
  exact ⟨t, h.nox, q⟩
/-- how its arguments bind (no defaults): h is «fun _ _ _ _ _ _ us hl => match us, hl with | [_, _], _ => rfl», one _ a parameter -/
theorem Fun.binds {x qual : Str} {st : Stmt} {f : Addr} {fd : FuncData} {ps : List Str} (F : Fun K x qual st f fd)
    (h : ∀ (kV doc pm : Value) (an : Option Addr) (cdv ct : Value) (us : List Value), us.length = ps.length → bindArgs (PySem.W.fnOf x qual (defArgs st) (defBody st) (defScope st) .none kV doc pm an cdv ct) ⟨us, []⟩ = pure (ps.zip us)) : Binds K fd ps [] := by
  obtain ⟨oc, od, kV, doc, pm, an, cdv, ct, osl, rfl, lk, hcd⟩ := F.ex
  exact .all (h kV doc pm an cdv ct)
theorem fun_mk {x qual : Str} {st : Stmt} {f : Addr} {oc : Value} {od an : Option Addr} {osl : Array (Option Value)} {kV doc pm cdv ct : Value} (l : K.lookup f = some ⟨oc, od, .func (PySem.W.fnOf x qual (defArgs st) (defBody st) (defScope st) .none kV doc pm an cdv ct), osl⟩)
    (c : PySem.W.codeIn K cdv qual = true) (k : PySem.W.keepIn K (.ref f) = true) : Fun K x qual st f (PySem.W.fnOf x qual (defArgs st) (defBody st) (defScope st) .none kV doc pm an cdv ct) := ⟨⟨oc, od, kV, doc, pm, an, cdv, ct, osl, rfl, l, c⟩, k⟩
end
theorem hu_of {A : Around} {c : Bool} {k : Nat} (hr : Room c k A) : A.units + 1 < cLine := Nat.lt_of_le_of_lt (Nat.add_le_add_left (by decide : 1 ≤ 64) _) hr.units
theorem small1000 {n : Nat} (h : n ≤ 1000) : n < sizeLine := Nat.lt_of_le_of_lt h (by decide)

/-! ### expressions in short: the name that stands in the i-th slot -/
section
variable {X : Cx}
theorem pv (i : Nat) {x : Str} {pos : Pos} (hN : X.N[i]? = some x := by rfl) (hv : Vis X.env.scope x := by first | exact Or.inl rfl | exact Or.inr (Or.inl rfl) | exact Or.inr (Or.inr rfl)) (hd : (x == ("__debug__" : Str)) = false := by decide)
    (hcd : (x == ("__classdict__" : Str)) = false := by decide) : PE X (.Name x pos) (tVar i) := pe_var hN hv hd hcd
end

/-! ### tests -/
theorem ite2 {c A B : Prop} [Decidable c] (h1 : c → A) (h2 : ¬ c → B) : if c then A else B := by
  by_cases h : c
  · rw [if_pos h]
    exact h1 h
  · rw [if_neg h]
    exact h2 h
/-! ### heaps -/
/-- all that was tracked is as it was -/
def Same (H H' : Hp) : Prop := ∀ b o, H b = some o → H' b = some o
theorem Same.refl (H : Hp) : Same H H := fun _ _ h => h
theorem Same.trans {H H1 H2 : Hp} (a : Same H H1) (b : Same H1 H2) : Same H H2 := fun c o h => b c o (a c o h)
theorem Same.free {H H' : Hp} (e : Same H H') {l : Addr} (h : H' l = Option.none) : H l = Option.none := by
  cases q : H l with
  | none => rfl
  | some o =>
    rw [e l o q] at h
    cases h
theorem Same.seq {K : PySem.W.Frag} {H H' : Hp} {a : Addr} {xs : List V} (e : Same H H') (h : SqL K H a xs) : SqL K H' a xs := by
  rcases h with (h | ⟨o, h⟩) | h
  · exact .inl (.inl (e _ _ h))
  · exact .inl (.inr ⟨o, e _ _ h⟩)
  · exact .inr h

end L2
set_option Elab.async false
set_option linter.all false
set_option maxRecDepth 100000
set_option maxHeartbeats 4000000
namespace L2
open PySem PySem.Spec PyProof.Rows

/-! ### a list comprehension of one clause -/
/-- the closure of a block -/
def closL (cells : List (Str × Addr)) : List (Str × NameKind) → List (Str × Addr) → List (Str × Addr)
  | [], cs => cs
  | (n, k) :: r, cs => closL cells r (if k == .free then (match cells.lookup n with | some c => (n, c) :: cs | none => cs) else cs)
theorem closureFor_eq {scope : Scope} {env : Env} (h : ∀ y ∈ scope.names, y.2 = .free → ∃ c, env.cells.lookup y.1 = some c) : closureFor scope env = pure (closL env.cells scope.names []) := by
  simp only [closureFor]
  have all : ∀ (l : List (Str × NameKind)) (cs : List (Str × Addr)), (∀ y ∈ l, y.2 = .free → ∃ c, env.cells.lookup y.1 = some c) →
      (forIn l cs fun (x : Str × NameKind) (r : List (Str × Addr)) => match x with | (name, kind) => if (kind == NameKind.free) = true then do let a ← cellOf env name; pure (ForInStep.yield ((name, a) :: r)) else pure (ForInStep.yield r) : Sem (List (Str × Addr))) = pure (closL env.cells l cs) := by
    intro l
    induction l with
    | nil => intro cs _; rfl
    | cons y r ih =>
      intro cs hy
      obtain ⟨n, k⟩ := y
      rw [List.forIn_cons]
      by_cases hk : k = .free
      · subst hk
        obtain ⟨c, hc⟩ := hy (n, .free) List.mem_cons_self rfl
        have hc' : env.cells.lookup n = some c := hc
        simp only [cellOf, hc', closL, beq_self_eq_true, if_true]
        exact ih _ fun z hz => hy z (List.mem_cons_of_mem _ hz)
      · have hb : (k == NameKind.free) = false := by simpa using hk
        simp only [closL, hb, Bool.false_eq_true, if_false]
        exact ih _ fun z hz => hy z (List.mem_cons_of_mem _ hz)
  have e := all scope.names [] h
  show (do let cs ← forIn scope.names [] _; pure cs) = _
  first
    | (rw [bind_pure]; exact e)
    | exact e
    | (simpa using e)
/-- what the closure holds -/
theorem closL_of {cells : List (Str × Addr)} : ∀ {l : List (Str × NameKind)} {cs : List (Str × Addr)} {x : Str} {c : Addr}, (closL cells l cs).lookup x = some c → cs.lookup x = some c ∨ (cells.lookup x = some c ∧ (x, NameKind.free) ∈ l)
  | [], _, _, _, h => .inl h
  | (n, k) :: r, cs, x, c, h => by
    unfold closL at h
    rcases closL_of h with h | ⟨h1, h2⟩
    · by_cases hk : k = .free
      · subst hk
        simp only [beq_self_eq_true, if_true] at h
        cases e : cells.lookup n with
        | none => rw [e] at h; exact .inl h
        | some c' =>
          rw [e] at h
          simp only [List.lookup_cons] at h
          by_cases hx : x = n
          · subst hx
            simp only [beq_self_eq_true] at h
            cases h
            exact .inr ⟨e, List.mem_cons_self⟩
          · have hb : (x == n) = false := by simpa using hx
            rw [hb] at h
            exact .inl h
      · have hb : (k == NameKind.free) = false := by simpa using hk
        rw [hb] at h
        exact .inl h
    · exact .inr ⟨h1, List.mem_cons_of_mem _ h2⟩
theorem closL_keep {cells : List (Str × Addr)} : ∀ {l : List (Str × NameKind)} {cs : List (Str × Addr)} {x : Str}, (cs.lookup x).isSome = true → ((closL cells l cs).lookup x).isSome = true
  | [], _, _, h => h
  | (n, k) :: r, cs, x, h => by
    unfold closL
    refine closL_keep ?_
    split
    · split
      · simp only [List.lookup_cons]
        split
        · rfl
        · exact h
      · exact h
    · exact h
theorem closL_has {cells : List (Str × Addr)} : ∀ {l : List (Str × NameKind)} {cs : List (Str × Addr)} {x : Str} {c : Addr}, (x, NameKind.free) ∈ l → cells.lookup x = some c → ((closL cells l cs).lookup x).isSome = true
  | (n, k) :: r, cs, x, c, hm, hc => by
    unfold closL
    rcases List.mem_cons.mp hm with e | hm
    · cases e
      refine closL_keep ?_
      simp only [beq_self_eq_true, if_true, hc, List.lookup_cons]
      rfl
    · exact closL_has hm hc

/-- the static facts of a block: its names by kind, the block's slots by the def's -/
def lcStat (sc : Scope) (names : List (Str × NameKind)) (N N' : List Str) (ix : List (Option Nat)) : Bool :=
  sc.kind == .function && sc.names.all (fun y => y.2 != .cell && (y.2 != .local || sc.names.lookup y.1 == some .local) && (y.2 != .free || (names.lookup y.1 == some .cell && sc.names.lookup y.1 == some .free)) ) &&
  ix.length == N'.length && (List.range ix.length).all (fun i => match ix.getD i none with
    | none => true
    | some j => (match N'[i]?, N[j]? with | some x, some y => x == y && sc.names.lookup x == some .free | _, _ => false))
def pick (ix : List (Option Nat)) (σ : St) : St := ix.map fun o => o.bind fun j => (σ[j]?).join

structure LcOk (X : Cx) (sc : Scope) (N' : List Str) (ix : List (Option Nat)) : Prop where
  kind : sc.kind = .function
  cell : ∀ y ∈ sc.names, y.2 ≠ .cell
  names : ∀ y ∈ sc.names, y.2 = .local → sc.names.lookup y.1 = some .local
  free : ∀ y ∈ sc.names, y.2 = .free → X.env.kindOf y.1 = some .cell ∧ sc.names.lookup y.1 = some .free
  len : ix.length = N'.length
  at_ : ∀ (i j : Nat), ix[i]? = some (some j) → ∃ x, N'[i]? = some x ∧ X.N[j]? = some x ∧ sc.names.lookup x = some .free
theorem LcOk.of {X : Cx} {sc : Scope} {N' : List Str} {ix : List (Option Nat)} (h : lcStat sc X.env.scope.names X.N N' ix = true) : LcOk X sc N' ix := by
  unfold lcStat at h
  simp only [Bool.and_eq_true, List.all_eq_true] at h
  obtain ⟨⟨⟨h1, h2⟩, h3⟩, h4⟩ := h
  refine ⟨by simpa using h1, fun y hy => ?_, fun y hy hk => ?_, fun y hy hk => ?_, by simpa using h3, fun i j e => ?_⟩
  · simpa using (h2 y hy).1.1
  · have q := (h2 y hy).1.2
    rw [hk] at q
    simpa using q
  · have q := (h2 y hy).2
    rw [hk] at q
    simp only [bne_self_eq_false, Bool.false_or, Bool.and_eq_true, beq_iff_eq] at q
    exact q
  · have hi : i < ix.length := (List.getElem?_eq_some_iff.mp e).1
    have := h4 i (List.mem_range.mpr hi)
    have eg : ix.getD i none = some j := by rw [List.getD_eq_getElem?_getD, e]; rfl
    rw [eg] at this
    dsimp only at this
    cases e1 : N'[i]? with
    | none => rw [e1] at this; simp at this
    | some x =>
      cases e2 : X.N[j]? with
      | none => rw [e1, e2] at this; simp at this
      | some y =>
        rw [e1, e2] at this
        simp only [Bool.and_eq_true, beq_iff_eq] at this
        exact ⟨x, rfl, by rw [this.1], this.2⟩

/-- the block's context -/
def cxLC (X : Cx) (sc : Scope) (N' : List Str) (pins : List (Addr × Obj)) (C : Addr) (fp : List Addr) (s : Shared) (H : Hp) : Cx :=
  { X with N := N', s₀ := s, H₀ := H, env := compEnvC sc (closL X.env.cells sc.names []) C X.env, outer := X.stack, stack := X.stack, ex := fp, fn := fun _ => false, pn := X.pn ++ pins, xe := fun _ _ => False }

theorem HOk.add {P : Program} {w : World} {H : Hp} {h : Heap} {D : Addr} {o : HO} (x : HOk P w H h) (hn : H D = none) (new : ObjOk P w (upd H D o) h D o) : HOk P w (upd H D o) h := fun b u e => by
  by_cases hb : b = D
  · subst hb; rw [upd_same] at e; cases e; exact new
  · rw [upd_ne hb] at e
    exact (x b u e).stay (fun _ _ _ q => q) (fun c q => by rw [upd_ne (ne_of_none q hn)]; exact q) fun c xs q => by rw [upd_ne (ne_of_none q hn)]; exact q
theorem HOk.but {P : Program} {w : World} {H : Hp} {h h' : Heap} {C : Addr} (x : HOk P w H h) (hn : H C = none) (k : ∀ b u, b ≠ C → h.get? b = some u → h'.get? b = some u) : HOk P w H h' := fun b u e =>
  (x b u e).stay (fun c v hc q => k c v (by
    rcases hc with z | z
    · rw [z]; exact ne_of_none e hn
    · exact ne_of_none z hn) q) (fun _ q => q) fun _ _ q => q

theorem relabel_look {sc : Scope} {env : Env} (hk : env.scope.kind = .function) (hf : ∀ y ∈ sc.names, y.2 = .free → env.kindOf y.1 = some .cell) :
    ∀ x, (relabel sc env).names.lookup x = (sc.names.lookup x).map fun k => if k == .free then .cell else k := by
  intro x
  have em : (relabel sc env).names = sc.names.map fun y => (y.1, if y.2 == .free then NameKind.cell else y.2) := by
    show sc.names.map _ = _
    refine List.map_congr_left fun y hy => ?_
    obtain ⟨n, k⟩ := y
    by_cases hk' : k = .free
    · subst hk'
      have e : env.kindOf n = some .cell := hf (n, .free) hy rfl
      simp [hk, e]
    · have hb : (k == NameKind.free) = false := by simpa using hk'
      simp [hb]
  rw [em]
  generalize sc.names = l
  induction l with
  | nil => rfl
  | cons y r ih =>
    obtain ⟨n, k⟩ := y
    simp only [List.map_cons, List.lookup_cons]
    cases x == n with
    | true => rfl
    | false => exact ih

section
variable {X : Cx} {sc : Scope} {N' : List Str} {ix : List (Option Nat)}
theorem pick_get {σ : St} {i : Nat} {v : V} (h : (pick ix σ)[i]? = some (some v)) : ∃ j, ix[i]? = some (some j) ∧ σ[j]? = some (some v) := by
  unfold pick at h
  rw [List.getElem?_map] at h
  cases e : ix[i]? with
  | none => rw [e] at h; cases h
  | some o =>
    rw [e] at h
    have h' : (o.bind fun j => (σ[j]?).join) = some v := Option.some.inj h
    cases o with
    | none => cases h'
    | some j =>
      have h'' : (σ[j]?).join = some v := h'
      cases e2 : σ[j]? with
      | none => rw [e2] at h''; cases h''
      | some z =>
        rw [e2] at h''
        have : z = some v := h''
        exact ⟨j, rfl, by rw [e2, this]⟩

/-- the block begins -/
theorem inv_lc {pins : List (Addr × Obj)} {σ : St} {H : Hp} {s : Shared} {fp : List Addr} {h₁ : Heap} {C : Addr} {tk : Nat} {m : Str → Option Value} (I : Inv X pins σ H s) (L : LcOk X sc N' ix) (f : ∀ b ∈ fp, FpOk X pins H b) (fl : ∀ b ∈ fp, b < s.heap.objs.size)
    (hC : s.heap.objs.size ≤ C) (hns : h₁.Ns C m) (old : ∀ b o, s.heap.get? b = some o → h₁.get? b = some o) :
    Inv (cxLC X sc N' pins C fp s H) [] (pick ix σ) H { s with heap := h₁, toks := tk } := by
  have cof : ∀ x c, (closL X.env.cells sc.names []).lookup x = some c → X.env.cells.lookup x = some c ∧ (x, NameKind.free) ∈ sc.names := fun x c h => by
    rcases closL_of h with h | h
    · cases h
    · exact h
  have rl := relabel_look (sc := sc) (env := X.env) I.ok.kind fun y hy hk => (L.free y hy hk).1
  have chas : ∀ x, sc.names.lookup x = some .free → ∃ c, (closL X.env.cells sc.names []).lookup x = some c ∧ X.env.cells.lookup x = some c := fun x hx => by
    have hm : (x, NameKind.free) ∈ sc.names := PySem.mem_of_lookup hx
    obtain ⟨c, hc⟩ := I.ok.has x (.inl (L.free _ hm rfl).1)
    obtain ⟨c', hc'⟩ := Option.isSome_iff_exists.mp (closL_has (cs := []) hm hc)
    exact ⟨c', hc', (cof x c' hc').1⟩
  refine ⟨⟨I.ok.mod, L.kind, I.ok.glob, I.ok.blt, hC, fun x y c h1 h2 => I.ok.inj x y c (cof x c h1).1 (cof y c h2).1, fun x hx => ?_, fun x c h => (nomatch h), I.ok.hd, I.ok.frames, .inl rfl, fun b hb => ⟨Nat.ne_of_lt (Nat.lt_of_lt_of_le (fl b hb) hC), fun x c h => (f b hb).2.2.2.2.1 x c (cof x c h).1⟩,
      I.bs, Nat.le_trans I.ok.bsz I.sz, fun b o e hb => ?_, fun b hb z => ?_, I.stack, I.stkFree⟩, rfl, I.bare, Un.kept old, ⟨m, hns, fun i x v e1 e2 e3 => ?_⟩, fun x c h => ?_, I.hok.fresh hC, fun x c h => I.freeC x c (cof x c h).1, fun p hp => ?_, I.hok.kept old, ?_, I.hdk⟩
  · have hx' : (relabel sc X.env).names.lookup x = some .cell ∨ (relabel sc X.env).names.lookup x = some .free := hx
    rw [rl x] at hx'
    cases e : sc.names.lookup x with
    | none => rw [e] at hx'; simp at hx'
    | some k =>
      have hk : k = .free := by
        cases k with
        | free => rfl
        | cell => exact absurd rfl (L.cell _ (PySem.mem_of_lookup e))
        | _ => rw [e] at hx'; revert hx'; decide
      subst hk
      obtain ⟨c, h1, _⟩ := chas x e
      exact ⟨c, h1⟩
  · rcases (f b hb).2.2.2.1 with z | z
    · exact I.ok.noex b o e z
    · exact absurd (Nat.lt_of_lt_of_le (Heap.lt_size (I.ok.bs b o e).1) z) (Nat.lt_irrefl _)
  · rcases List.mem_cons.mp (I.stkSub b z) with e | e
    · exact (f b hb).2.1 e
    · exact (f b hb).2.2.1 e
  · obtain ⟨j, hj, hv⟩ := pick_get e2
    obtain ⟨y, n1, n2, n3⟩ := L.at_ i j hj
    have exy : x = y := Option.some.inj ((show N'[i]? = some x from e1).symm.trans n1)
    subst exy
    obtain ⟨c, c1, c2⟩ := chas x n3
    have kf := (L.free _ (PySem.mem_of_lookup n3) rfl).1
    obtain ⟨m0, hn0, hl⟩ := I.loc
    obtain ⟨u, r, l⟩ := hl j x v n2 hv (.inr (.inl kf))
    refine ⟨u, r, .inr ⟨.inl ?_, c, c1, ?_⟩⟩
    · show (relabel sc X.env).names.lookup x = some .cell
      rw [rl x, n3]; rfl
    · rcases l with ⟨hk, _⟩ | ⟨_, c', hc', z⟩
      · have kf' : X.env.kindOf x = some .cell := kf
        rw [hk] at kf'; cases kf'
      · rw [c2] at hc'
        cases hc'
        obtain ⟨oc, ho, hd⟩ := z
        exact ⟨oc, old _ _ ho, hd⟩
  · obtain ⟨v, oc, ho, hd⟩ := I.cell x c (cof x c h).1
    exact ⟨v, oc, old _ _ ho, hd⟩
  · have hp' : p ∈ X.pn ++ pins := by
      have : p ∈ (X.pn ++ pins) ++ [] := hp
      simpa using this
    obtain ⟨a, b, c, d, e⟩ := I.pin p hp'
    exact ⟨old _ _ a, b, Nat.ne_of_lt (Nat.lt_of_lt_of_le (Heap.lt_size a) hC), fun z => (List.mem_cons.mp (I.stkSub p.1 z)).elim c d, e⟩
  · show (pick ix σ).length = N'.length
    unfold pick
    rw [List.length_map, L.len]
end

/-- the block's tests -/
def PTs (X : Cx) (ifs : List Expr) (t : TT) : Prop :=
  ∀ (pins : List (Addr × Obj)) (s : Shared) (σ : St) (H : Hp) (Q : Bool → Hp → Prop), Inv X pins σ H s → t σ H Q →
    wpAny (model X.prog X.w) X.A (forIn ifs true fun c r => if r = true then do let ok ← isTrue c X.env (eval c X.env); pure (ForInStep.yield ok) else pure (ForInStep.yield r)) (TP X pins σ Q) X.xe s
def tAll : TT := fun _ H Q => Q true H
theorem pts_nil {X : Cx} : PTs X [] tAll := fun _ _ _ H _ I h => wpAny_tests_nil ⟨H, I, h⟩
theorem pts_one {X : Cx} {c : Expr} {t : TT} (h : PT X c t) : PTs X [c] t := fun pins s σ H Q I q => wpAny_tests_one (h pins s σ H Q I q)

theorem compLoop_gen {prog : Program} {w : World} {A : Around} {R : Result → Shared → Prop} {s : Shared} {elt target iter : Expr} {ifs : List Expr} {scope : Scope} {pos : Pos} {it acc : Value} {env : Env} (I : Nat → Shared → Prop)
    (turn : ∀ n s, I n s → wpAny (model prog w) A (pyNext it) (fun r s₁ => match r with
      | none => R (.ok .next) s₁
      | some v => wpAny (model prog w) A (letOwnedTupleGo target it v) (fun _ s₁' => wpAny (model prog w) A (assign target env v) (fun _ s₂ =>
          wpAny (model prog w) A (forIn ifs true fun c r => if r = true then do let ok ← isTrue c env (eval c env); pure (ForInStep.yield ok) else pure (ForInStep.yield r)) (fun ok s₃ =>
            if ok = true then wpAny (model prog w) A (eval elt env) (fun x s₄ =>
              wpAny (model prog w) A (call (.builtin "list.append") [acc, x]) (fun _ s₅ => ∃ m, m < n ∧ I m s₅) (fun _ _ => False) s₄) (fun _ _ => False) s₃
            else ∃ m, m < n ∧ I m s₃) (fun _ _ => False) s₂) (fun _ _ => False) s₁') (fun _ _ => False) s₁) (fun _ _ => False) s)
    (n : Nat) (h : I n s) : codeAny (model prog w) A (.compLoop (.ListComp elt [⟨target, iter, ifs, 0⟩] scope pos) 0 it acc env) R s := by
  refine codeAny_loop rfl I (fun n s hI => ?_) n h
  show wpAny _ A ((compTurn (.ListComp elt [⟨target, iter, ifs, 0⟩] scope pos) 0 it acc env).onRaise (fun x => do noteFrame x env; theTreesLotGoes x)) _ _ s
  refine wpAny_noted (wpAny_mono (E := fun _ _ => False) ?_ (fun _ _ q => q) fun _ _ z => z.elim)
  rw [compTurn_list]
  refine wpAny_bind (wpAny_standAt (wpAny_bind (wpAny_mono (turn n s hI) (fun r s₁ h₁ => ?_) fun _ _ h' => h')))
  cases r with
  | none => exact wpAny_pure h₁
  | some v =>
    refine wpAny_bind (wpAny_mono h₁ (fun _ s₁' h₁' => ?_) fun _ _ h' => h')
    refine wpAny_bind (wpAny_mono h₁' (fun _ s₂ h₂ => wpAny_bind (wpAny_mono h₂ (fun ok s₃ h₃ => ?_) fun _ _ h' => h')) fun _ _ h' => h')
    cases ok with
    | false => exact wpAny_pure ⟨rfl, h₃⟩
    | true => exact wpAny_bind (wpAny_bind (wpAny_mono h₃ (fun x s₄ h₄ => wpAny_bind (wpAny_mono h₄ (fun _ s₅ h₅ => wpAny_pure (wpAny_pure ⟨rfl, h₅⟩)) fun _ _ h' => h')) fun _ _ h' => h'))

/-- [elt for tg in iter if ..]: W by the turn, a measure, the block's slots, what is gathered, the heap -/
def tLC (ix : List (Option Nat)) (wi : TI) (g : TG) (tt : TT) (te : TE) : TE := fun σ H Q => wi σ H fun J H1 => ∃ W : Nat → Nat → St → List V → Hp → Prop, (∃ m, W 0 m (pick ix σ) [] H1) ∧ ∀ i m τ ys H2, W i m τ ys H2 → ys.length < sizeLine ∧
  ((J.stop i H2 ∧ ∀ D, H2 D = none → Q (.ref D) (upd H2 D (.lst ys))) ∨
   (J.go i H2 ∧ ∀ x H3, J.yld i H2 x H3 → g x τ H3 fun τ1 H4 => tt τ1 H4 fun ok H5 => if ok = true then te τ1 H5 fun y H6 => ∃ m', m' < m ∧ W (i + 1) m' τ1 (ys ++ [y]) H6 else ∃ m', m' < m ∧ W (i + 1) m' τ1 ys H5))

theorem pe_lc {c : Bool} {X : Cx} {elt tg iter : Expr} {ifs : List Expr} {sc : Scope} {pos : Pos} {N' : List Str} {ix : List (Option Nat)} {wi : TI} {g : TG} {tt : TT} {te : TE} (hc : c = true → X.calm = true) (L : LcOk X sc N' ix) (hi : PIc c X tg iter wi)
    (hg : ∀ pins C fp s H, PG (cxLC X sc N' pins C fp s H) tg g) (ht : ∀ pins C fp s H, PTs (cxLC X sc N' pins C fp s H) ifs tt) (he : ∀ pins C fp s H, PE (cxLC X sc N' pins C fp s H) elt te)
    (hs : ∀ x, foldedSetIterable iter X.env x = pure x := by intro _; rfl) : PE X (.ListComp elt [⟨tg, iter, ifs, 0⟩] sc pos) (tLC ix wi g tt te) := by
  intro pins s σ H Q I h
  rw [eval_ListComp]
  have hclos : closureFor sc X.env = pure (closL X.env.cells sc.names []) := closureFor_eq fun y hy hk => I.ok.has y.1 (.inl (L.free y hy hk).1)
  refine wpAny_comprehension_free (use := none) rfl hs hclos L.kind L.names (thn (hi pins s σ H _ I h) fun v s1 h1 => thn h1 fun itv s2 h2 => ?_)
  obtain ⟨it, fp, tn, J, H2, e, I2, T, st2, f2, W, ⟨m0, w0⟩, turn⟩ := h2
  subst e
  refine wpAny_newObj_type (wpAny_newFunctionEnv L.cell (by intro y hy; simp at hy) (fun h₁ hns₁ hsb₁ => ?_) L.kind)
  dsimp only at hns₁ hsb₁ ⊢
  generalize hH2 : s2.heap.push { cls := .type "list", dict := none, data := .seq ([] : List Value).toArray } = G2 at hns₁ hsb₁ ⊢
  have hC : G2.objs.size = s2.heap.objs.size + 1 := by rw [← hH2, Heap.size_push]
  have hDC : s2.heap.objs.size ≠ G2.objs.size := by rw [hC]; exact Nat.ne_of_lt (Nat.lt_succ_self _)
  have hCle : s2.heap.objs.size ≤ G2.objs.size := by rw [hC]; exact Nat.le_succ _
  have below : ∀ b, b < s2.heap.objs.size → b ≠ G2.objs.size ∧ b ≠ s2.heap.objs.size := fun b hb => ⟨by rw [hC]; exact Nat.ne_of_lt (Nat.lt_succ_of_lt hb), Nat.ne_of_lt hb⟩
  have old : ∀ b o, s2.heap.get? b = some o → h₁.get? b = some o := fun b o e => hsb₁.extBut b o (below b (Heap.lt_size e)).1 (Heap.get?_push_of_some _ (hH2 ▸ Heap.get?_push_of_some _ e))
  have hacc : h₁.get? s2.heap.objs.size = some { cls := .type "list", data := .seq ([] : List Value).toArray 0 } := hsb₁.extBut _ _ hDC (Heap.get?_push_of_some _ (hH2 ▸ Heap.get?_push_size _ rfl))
  have fl : ∀ b ∈ fp, b < s2.heap.objs.size := fun b hb => by
    obtain ⟨o, e, _⟩ := T.obj 0 _ st2 b hb
    exact Heap.lt_size e
  have hDfp : s2.heap.objs.size ∉ fp := fun z => Nat.lt_irrefl _ (fl _ z)
  generalize hD : s2.heap.objs.size = D at *
  generalize hCe : G2.objs.size = C at *
  have cof : ∀ x c, (closL X.env.cells sc.names []).lookup x = some c → X.env.cells.lookup x = some c := fun x c h => by
    rcases closL_of h with h | h
    · cases h
    · exact h.1
  have st1 : tn 0 h₁ := T.keep _ _ _ st2 fun b _ o e => old b o e
  have I3 : Inv (cxLC X sc N' pins C fp s2 H2) [] (pick ix σ) H2 { s2 with heap := h₁, toks := s2.toks + ([] : List (Str × Value)).length } := inv_lc I2 L f2 (fun b hb => by rw [hD]; exact fl b hb) (by rw [hD]; exact hCle) hns₁ old
  have D0 : H2 D = none := I2.hok.fresh (Nat.le_of_eq hD)
  -- what stays of the accumulator and the iterator's objects
  have fD : ∀ {H' : Hp}, H' D = none → FpOk (cxLC X sc N' pins C fp s2 H2) [] H' D := fun {H'} hn => by
    refine ⟨hn, hDC, fun z => ?_, .inr (Nat.le_of_eq hD), fun x c hx z => ?_, fun p hp z => ?_⟩
    · obtain ⟨_, o, ho, _⟩ := I2.stack.mem (show D ∈ frs X.stack from z)
      exact absurd (Heap.lt_size ho) (by rw [hD]; exact Nat.lt_irrefl _)
    · obtain ⟨v, q⟩ := I2.cell x c (cof x c hx)
      have := q.lt
      rw [z, hD] at this
      exact Nat.lt_irrefl _ this
    · have hp' : p ∈ X.pn ++ pins := by
        have : p ∈ (X.pn ++ pins) ++ [] := hp
        simpa using this
      have := Heap.lt_size (I2.pin p hp').1
      rw [z, hD] at this
      exact Nat.lt_irrefl _ this
  have fF : ∀ {H' : Hp}, (∀ b ∈ fp, H' b = none) → ∀ b ∈ fp, FpOk (cxLC X sc N' pins C fp s2 H2) [] H' b := fun {H'} hn b hb => by
    obtain ⟨_, g1, g2, g3, g4, g5⟩ := f2 b hb
    refine ⟨hn b hb, (below b (fl b hb)).1, fun z => ?_, .inl hb, fun x c hx => g4 x c (cof x c hx), fun p hp => g5 p ?_⟩
    · rcases List.mem_cons.mp (I2.stkSub b z) with e | e
      · exact g1 e
      · exact g2 e
    · have : p ∈ (X.pn ++ pins) ++ [] := hp
      simpa using this
  have loop : ∀ s₃ : Shared, s₃ = { s2 with heap := h₁, toks := s2.toks + ([] : List (Str × Value)).length } →
      codeAny (model X.prog X.w) X.A (.compLoop (.ListComp elt [⟨tg, iter, ifs, 0⟩] sc pos) 0 (.ref it) (.ref D) (compEnvC sc (closL X.env.cells sc.names []) C X.env))
        (compPost (model X.prog X.w) X.A X.xe none (EP X pins σ Q) (.ref D) C) s₃ := by
    rintro s₃ rfl
    refine compLoop_gen (fun n s' => ∃ i τ ys H', Inv (cxLC X sc N' pins C fp s2 H2) [] τ H' s' ∧ tn i s'.heap ∧ (∀ b ∈ fp, H' b = none) ∧ H' D = none ∧ (∃ its k, Vals ys its ∧ s'.heap.get? D = some { cls := .type "list", data := .seq its.toArray k }) ∧ W i n τ ys H')
      ?_ m0 ⟨0, _, [], H2, I3, st1, fun b hb => (f2 b hb).1, D0, ⟨[], 0, .nil, hacc⟩, w0⟩
    rintro n s4 ⟨i, τ, ys, H4, I4, st4, fr4, dn4, ⟨its, k, rv, dg⟩, w4⟩
    obtain ⟨hlen, step⟩ := turn i n τ ys H4 w4
    rcases step with ⟨stop, fin⟩ | ⟨go, step⟩
    · refine thn (T.done (cxLC X sc N' pins C fp s2 H2) rfl rfl rfl hc i [(D, ({ cls := .type "list", data := .seq its.toArray k } : Obj))] s4 τ H4 (fun _ _ => False) (I4.pins_of fun p hp => ?_) (fun b hb => ?_) st4 stop) fun r s5 ⟨hr, I5⟩ => ?_
      · have e : p = (D, { cls := .type "list", data := .seq its.toArray k }) := by simpa using hp
        subst e
        obtain ⟨g0, g1, g2, _⟩ := fD dn4
        exact ⟨dg, g0, g1, g2, fun v z => (nomatch z)⟩
      · obtain ⟨g0, g1, g2, g3, g4, g5⟩ := fF fr4 b hb
        refine ⟨g0, g1, g2, g3, g4, fun p hp => ?_⟩
        rcases List.mem_append.mp hp with z | z
        · exact g5 p (List.mem_append_left _ z)
        · have e : p = (D, { cls := .type "list", data := .seq its.toArray k }) := by simpa using z
          subst e
          exact fun q => hDfp (by have q' : D = b := q; rw [q']; exact hb)
      · subst hr
        have dg5 := (I5.pin (D, _) (List.mem_append_right _ (List.mem_singleton.mpr rfl))).1
        obtain ⟨m5, hn5, _⟩ := id I5.loc
        refine ⟨m5, hn5, fun h' hsb => ?_⟩
        have kb : ∀ b u, b ≠ C → s5.heap.get? b = some u → h'.get? b = some u := fun b u hb e => (hsb.2 b hb).trans e
        have hlt : ∀ b o, s2.heap.get? b = some o → b ≠ C ∧ b ≠ D := fun b o e => by
          have := Heap.lt_size e
          rw [hD] at this
          exact below b this
        have U := I5.base
        refine ⟨.ref D, upd H4 D (.lst ys), I2.call' (s' := { s5 with heap := h' }) (ch := fp) I5.os ⟨fun b o e n hb hx => kb b o (hlt b o e).1 (U.keep b o e n hb hx), fun b o e n hb hx => ?_, fun b o e n hx => ?_, fun b o e hx => ?_, fun b xs e => ?_, fun b o u e => ?_, fun b ps e => ?_⟩ ?_ I5.bare (fun b hb => ?_), rfl, fin D dn4⟩
        · obtain ⟨sl, q⟩ := U.slot b o e n hb hx
          exact ⟨sl, kb b _ (hlt b o e).1 q⟩
        · rw [upd_ne (hlt b o e).2]
          exact U.free b o e n hx
        · obtain ⟨o', q⟩ := U.there b o e hx
          exact ⟨o', kb b _ (hlt b o e).1 q⟩
        · have q := U.tups b xs e
          rw [upd_ne (ne_of_none q dn4)]
          exact q
        · have q := U.frzs b o u e
          rw [upd_ne (ne_of_none q dn4)]
          exact q
        · obtain ⟨more, q⟩ := U.tbls b ps e
          exact ⟨more, by rw [upd_ne (ne_of_none q dn4)]; exact q⟩
        · refine (I5.hok.but I5.free kb).add dn4 ?_
          exact ⟨Nat.le_of_lt hlen, its, k, rv, kb _ _ hDC dg5⟩
        · obtain ⟨_, g1, g2, g3, g4, g5⟩ := f2 b hb
          exact ⟨g3, g1, g4, g5⟩
    · refine thn (T.item (cxLC X sc N' pins C fp s2 H2) rfl rfl rfl hc i [(D, ({ cls := .type "list", data := .seq its.toArray k } : Obj))] s4 τ H4 (fun _ _ => False) (I4.pins_of fun p hp => ?_) (fun b hb => ?_) st4 go) fun r s5 ⟨u, hr, h5⟩ => ?_
      · have e : p = (D, { cls := .type "list", data := .seq its.toArray k }) := by simpa using hp
        subst e
        obtain ⟨g0, g1, g2, _⟩ := fD dn4
        exact ⟨dg, g0, g1, g2, fun v z => (nomatch z)⟩
      · obtain ⟨g0, g1, g2, g3, g4, g5⟩ := fF fr4 b hb
        refine ⟨g0, g1, g2, g3, g4, fun p hp => ?_⟩
        rcases List.mem_append.mp hp with z | z
        · exact g5 p (List.mem_append_left _ z)
        · have e : p = (D, { cls := .type "list", data := .seq its.toArray k }) := by simpa using z
          subst e
          exact fun q => hDfp (by have q' : D = b := q; rw [q']; exact hb)
      · subst hr
        refine thn h5 fun _ s6 ⟨x, H6, I6, r6, y6, st6, fr6⟩ => ?_
        obtain ⟨dg6, dn6, _⟩ := I6.pin (D, _) (List.mem_append_right _ (List.mem_singleton.mpr rfl))
        have dn6' : H6 D = none := dn6
        have all6 : ∀ b ∈ D :: fp, FpOk (cxLC X sc N' pins C fp s2 H2) [] H6 b := fun b hb => by
          rcases List.mem_cons.mp hb with z | z
          · subst z; exact fD dn6'
          · exact fF fr6 b z
        have obj6 : ∀ b ∈ D :: fp, ∃ o, s6.heap.get? b = some o ∧ ∀ v, o.data ≠ .cell v := fun b hb => by
          rcases List.mem_cons.mp hb with z | z
          · subst z; exact ⟨_, dg6, fun v q => (nomatch q)⟩
          · exact T.obj _ _ st6 b z
        have I6' := (I6.unpinned (pins := [])).pinned all6 obj6
        refine thn (hg pins C fp s2 H2 _ s6 τ H6 x u _ I6' r6 (step x H6 y6)) fun _ s7 ⟨τ7, H7, I7, q7⟩ => ?_
        refine thn (ht pins C fp s2 H2 _ s7 τ7 H7 _ I7 q7) fun ok s8 ⟨H8, I8, q8⟩ => ?_
        have back : ∀ {s9 : Shared} {H9 : Hp}, Inv (cxLC X sc N' pins C fp s2 H2) ([] ++ pinsAt (D :: fp) s6.heap) τ7 H9 s9 → s9.heap.get? D = some { cls := .type "list", data := .seq its.toArray k } ∧ H9 D = none ∧ tn (i + 1) s9.heap ∧ ∀ b ∈ fp, H9 b = none := fun {s9 H9} I9 => by
          have pin : ∀ b o, b ∈ D :: fp → s6.heap.get? b = some o → s9.heap.get? b = some o ∧ H9 b = none := fun b o hb e => by
            have q := I9.pin (b, o) (List.mem_append_right _ (List.mem_append_right _ (mem_pinsAt hb e)))
            exact ⟨q.1, q.2.1⟩
          refine ⟨(pin D _ List.mem_cons_self dg6).1, (pin D _ List.mem_cons_self dg6).2, T.keep _ _ _ st6 fun b hb o e => (pin b o (List.mem_cons_of_mem _ hb) e).1, fun b hb => ?_⟩
          obtain ⟨o, e, _⟩ := T.obj _ _ st6 b hb
          exact (pin b o (List.mem_cons_of_mem _ hb) e).2
        cases ok with
        | false =>
          obtain ⟨b1, b2, b3, b4⟩ := back I8
          simp only [Bool.false_eq_true, if_false] at q8 ⊢
          obtain ⟨m', hm, w'⟩ := q8
          exact ⟨m', hm, i + 1, τ7, ys, H8, I8.unpinned, b3, b4, b2, ⟨its, k, rv, b1⟩, w'⟩
        | true =>
          simp only [if_true] at q8 ⊢
          refine thn (he pins C fp s2 H2 _ s8 τ7 H8 _ I8 q8) fun y s9 ⟨yv, H9, I9, r9, m', hm, w'⟩ => ?_
          obtain ⟨b1, b2, b3, b4⟩ := back I9
          have el : its.toArray.size ≤ sizeLine := by
            have := rv.length
            simp only [List.size_toArray]
            omega
          refine append_at (hsz := el) b1 fun h10 sb hD10 => ?_
          obtain ⟨_, g1, _, g3, g4, g5⟩ := fD b2
          refine ⟨m', hm, i + 1, τ7, ys ++ [yv], H9, (I9.unpinned (pins := [])).turned (t' := s9.toks) (fun b o hb e => (sb.2 b hb).trans e) b2 g1 g3 g4 g5, T.keep _ _ _ b3 fun b hb o e => (sb.2 b fun q => hDfp (by rw [← q]; exact hb)).trans e, b4, b2, ⟨its ++ [y], k + 1, rv.append (.cons r9 .nil), ?_⟩, w'⟩
          show h10.get? D = _
          rw [hD10]
          simp
  exact codeAny_compStart_list (loop _ rfl) (T.self _ 0 _ _ _ st1 (loop _ rfl))
end L2
set_option Elab.async false
set_option linter.all false
set_option maxRecDepth 100000
set_option maxHeartbeats 4000000
namespace L2
open PySem PySem.Spec PyProof.Rows

/-! ### an exception under way -/
/-- e of the class cls flies over the frames l; no context hangs on it; its newest entry, if there is one, stands in flight fl; what B holds stays -/
structure FlyZ (B : Heap) (l : List Env) (e : Addr) (cls fl : Value) (h : Heap) : Prop where
  stays : B.StaysIn h
  new : B.get? e = none
  frames : h.FunFrames B l
  obj : ∃ oe vs, h.get? e = some oe ∧ oe.cls = cls ∧ oe.dict = none ∧ oe.data = .fields vs ∧ 2 < vs.size ∧ vs[2]? = some .none ∧
    (vs[1]? = some .none ∨ ∃ T oT ts, vs[1]? = some (.ref T) ∧ B.get? T = none ∧ T ≠ e ∧ h.get? T = some oT ∧ oT.data = .fields ts ∧ ts[3]? = some fl)

section
variable {M : Model} {A : Around} {E : Value → Shared → Prop} {s : Shared} {B : Heap} {env : Env} {outer l : List Env} {L e : Addr} {cls fl : Value}
theorem dict_mapFields (o : Obj) (f : Array Value → Array Value) : (o.mapFields f).dict = o.dict := by
  obtain ⟨c, d, dt, sl⟩ := o
  cases dt <;> rfl
theorem fly_entry {oe : Obj} {vs : Array Value} {head : Value} {had : Bool} {Q : Unit → Shared → Prop} (hfr : A.frames = some (env :: outer)) (hf : env.frame = some L) (st : B.StaysIn s.heap) (hn : B.get? e = none)
    (hl : s.heap.FunFrames B (env :: outer)) (he : s.heap.get? e = some oe) (hc : oe.cls = cls) (hdi : oe.dict = none) (hd : oe.data = .fields vs) (hz : 2 < vs.size) (h2 : vs[2]? = some .none)
    (k : ∀ h', FlyZ B (env :: outer) e cls (rawInt L) h' → s.heap.UpToSlots h' → Q () { s with heap := h' }) :
    wpAny M A (do let a ← frameOf env; let pl ← entryPlaceOf L had; let b ← EntryCells.newEntry head a .none (rawInt L) .none pl; setField (.ref e) 1 b) Q E s := by
  have nfr : e ∉ (env :: outer).filterMap (·.frame) := fun z => by
    obtain ⟨_, o, ho, nf⟩ := hl.mem z
    rw [he] at ho
    cases ho
    exact nf vs hd
  refine wpAny_bind (wpAny_frameOf_fun hfr hl hf fun g only => ?_)
  obtain ⟨_, same, slots⟩ := only
  refine wpAny_bind (wpAny_entryPlaceOf fun pl hpl => ?_)
  have key : ∀ (tb : Obj) (ts : Array Value), tb.data = .fields ts → ts[3]? = some (rawInt L) → wpAny M A (setField (.ref e) 1 (.ref g.objs.size)) Q E { s with heap := g.push tb } := by
    intro tb ts td t3
    have e1 : g.get? e = some oe := (same e nfr).trans he
    have e2 : (g.push tb).get? e = some oe := Heap.get?_push_of_some _ e1
    have hT : (g.push tb).get? g.objs.size = some tb := Heap.get?_push_size _ (by rw [Obj.isFreed_of_fields td])
    have hne : g.objs.size ≠ e := Nat.ne_of_gt (Heap.lt_size e1)
    have fresh : B.get? g.objs.size = none := by
      cases q : B.get? g.objs.size with
      | none => rfl
      | some o =>
        obtain ⟨sl, z⟩ := slots _ o (st _ o q)
        exact absurd (Heap.lt_size z) (Nat.lt_irrefl _)
    have up : ∀ b o, b ≠ e → g.get? b = some o → ((g.push tb).update e (Obj.mapFields (·.setIfInBounds 1 (.ref g.objs.size)))).get? b = some o := fun b o hb q =>
      (Heap.get?_update_other _ _ (Ne.symm hb)).trans (Heap.get?_push_of_some _ q)
    have notE : ∀ b o, s.heap.get? b = some o → (∀ ws, o.data ≠ .fields ws) → b ≠ e := fun b o q nf z => by
      rw [z, he] at q
      cases q
      exact nf vs hd
    have dd := Obj.data_mapFields hd (·.setIfInBounds 1 (Value.ref g.objs.size))
    refine wpAny_setField e2 hd (by omega) (k _ ⟨fun b o q => ?_, hn, ?_, ?_⟩ fun b o q nf => ?_)
    · refine up b o (fun z => by rw [z, hn] at q; cases q) ((same b fun z => ?_).trans (st b o q))
      rw [(hl.mem z).1] at q
      cases q
    · refine hl.of_keeps fun b o q nf => ?_
      obtain ⟨sl, z⟩ := slots b o q
      exact ⟨_, up b _ (notE b o q nf) z, rfl⟩
    · refine ⟨_, _, Heap.get?_update_self _ e2 (Obj.isFreed_of_fields dd), (Obj.cls_mapFields _ _).trans hc, (dict_mapFields _ _).trans hdi, dd, by simpa using hz, by rw [Array.getElem?_setIfInBounds_ne (by decide)]; exact h2, .inr ⟨g.objs.size, tb, ts, ?_, fresh, hne, ?_, td, t3⟩⟩
      · rw [Array.getElem?_setIfInBounds_self_of_lt (by omega)]
      · rw [Heap.get?_update_other _ _ (Ne.symm hne)]
        exact hT
    · obtain ⟨sl, z⟩ := slots b o q
      exact ⟨sl, up b _ (notE b o q nf) z⟩
  unfold EntryCells.newEntry newFields
  refine wpAny_bind (wpAny_newObj_type ?_ (hpl.sizeOk5 _ _ _ _ _))
  exact key _ _ rfl (by simp)
/-- a frame is noted -/
theorem fly_note {Q : Unit → Shared → Prop} (hfr : A.frames = some (env :: outer)) (hf : env.frame = some L) (x : FlyZ B (env :: outer) e cls fl s.heap)
    (k : ∀ h', FlyZ B (env :: outer) e cls (rawInt L) h' → s.heap.UpToSlots h' → Q () { s with heap := h' }) : wpAny M A (noteFrame (.ref e) env) Q E s := by
  obtain ⟨st, hn, hl, oe, vs, he, hc, hdi, hd, hz, h2, h1⟩ := x
  unfold noteFrame
  simp only [hf]
  rcases h1 with h1 | ⟨T, oT, ts, h1, nT, Te, gT, dT, t3⟩
  · refine wpAny_bind (wpAny_field he hd h1 ?_)
    rw [if_neg (show ¬ ((Value.none != Value.none) = true) by decide)]
    exact fly_entry hfr hf st hn hl he hc hdi hd hz h2 k
  · refine wpAny_bind (wpAny_field he hd h1 ?_)
    rw [if_pos (show (Value.ref T != Value.none) = true by simp)]
    refine wpAny_bind (wpAny_field gT dT t3 ?_)
    by_cases hfl : fl = rawInt L
    · subst hfl
      rw [if_pos (show (rawInt L == rawInt L) = true by simp)]
      exact wpAny_pure (k s.heap ⟨st, hn, hl, oe, vs, he, hc, hdi, hd, hz, h2, .inr ⟨T, oT, ts, h1, nT, Te, gT, dT, t3⟩⟩ (Heap.UpToSlots.refl _))
    · rw [if_neg (show ¬ ((fl == rawInt L) = true) by simpa using hfl)]
      refine wpAny_bind (wpAny_setField gT dT (Array.getElem?_eq_some_iff.mp t3).1 ?_)
      have oth : ∀ b, b ≠ T → (s.heap.update T (Obj.mapFields (·.setIfInBounds 3 Value.none))).get? b = s.heap.get? b := fun b hb => Heap.get?_update_other _ _ (Ne.symm hb)
      have notT : ∀ b o, s.heap.get? b = some o → (∀ ws, o.data ≠ .fields ws) → b ≠ T := fun b o q nf z => by
        rw [z, gT] at q
        cases q
        exact nf ts dT
      refine fly_entry (B := B) (cls := cls) hfr hf (fun b o q => ?_) hn (hl.of_keeps fun b o q nf => ⟨o, (oth b (notT b o q nf)).trans q, rfl⟩) ((oth e (Ne.symm Te)).trans he) hc hdi hd hz h2 fun h' y up => k h' y fun b o q nf => up b o ((oth b (notT b o q nf)).trans q) nf
      exact (oth b fun z => by rw [z, nT] at q; cases q).trans (st b o q)
theorem fly_flight {Q : Unit → Shared → Prop} (x : FlyZ B l e cls fl s.heap) (k : ∀ h', FlyZ B l e cls .none h' → s.heap.UpToSlots h' → Q () { s with heap := h' }) : wpAny M A (setFlight (.ref e) none) Q E s := by
  obtain ⟨st, hn, hl, oe, vs, he, hc, hdi, hd, hz, h2, h1⟩ := x
  unfold setFlight
  rcases h1 with h1 | ⟨T, oT, ts, h1, nT, Te, gT, dT, t3⟩
  · refine wpAny_bind (wpAny_field he hd h1 ?_)
    rw [if_neg (show ¬ ((Value.none != Value.none) = true) by decide)]
    exact wpAny_pure (k s.heap ⟨st, hn, hl, oe, vs, he, hc, hdi, hd, hz, h2, .inl h1⟩ (Heap.UpToSlots.refl _))
  · refine wpAny_bind (wpAny_field he hd h1 ?_)
    rw [if_pos (show (Value.ref T != Value.none) = true by simp)]
    have lt3 : 3 < ts.size := (Array.getElem?_eq_some_iff.mp t3).1
    have dd := Obj.data_mapFields dT (·.setIfInBounds 3 Value.none)
    have oth : ∀ b, b ≠ T → (s.heap.update T (Obj.mapFields (·.setIfInBounds 3 Value.none))).get? b = s.heap.get? b := fun b hb => Heap.get?_update_other _ _ (Ne.symm hb)
    have notT : ∀ b o, s.heap.get? b = some o → (∀ ws, o.data ≠ .fields ws) → b ≠ T := fun b o q nf z => by
      rw [z, gT] at q
      cases q
      exact nf ts dT
    refine wpAny_setField gT dT lt3 (k _ ⟨fun b o q => (oth b fun z => by rw [z, nT] at q; cases q).trans (st b o q), hn, hl.of_keeps fun b o q nf => ⟨o, (oth b (notT b o q nf)).trans q, rfl⟩, oe, vs, (oth e (Ne.symm Te)).trans he, hc, hdi, hd, hz, h2,
      .inr ⟨T, _, _, h1, nT, Te, Heap.get?_update_self _ gT (Obj.isFreed_of_fields dd), dd, ?_⟩⟩ fun b o q nf => ⟨o.slots, (oth b (notT b o q nf)).trans q⟩)
    rw [Array.getElem?_setIfInBounds_self_of_lt lt3]
theorem fly_leave {Q : Unit → Shared → Prop} (hfr : A.frames = some (env :: outer)) (hf : env.frame = some L) (x : FlyZ B (env :: outer) e cls fl s.heap)
    (k : ∀ h', FlyZ B outer e cls .none h' → s.heap.UpToSlots h' → Q () { s with heap := h' }) : wpAny M A (leaving env (.ref e)) Q E s := by
  unfold leaving
  refine wpAny_bind (fly_note hfr hf x fun h1 y u1 => fly_flight (s := { s with heap := h1 }) y fun h2 z u2 => ?_)
  obtain ⟨a, b, ⟨_, _, c⟩, d⟩ := z
  exact k h2 ⟨a, b, c, d⟩ (u1.trans u2)
end

/-! ### how an exception lies behind a call -/
def CXW (P : Program) (w : World) : CXT := fun outer H s E e s' => ∃ (ea C : Addr) (B : Heap) (H' : Hp) (sI : Shared), e = .ref ea ∧ FlyZ B outer ea (.ref C) .none s'.heap ∧ Un (frs outer) [] H H' s.heap sI.heap ∧ HOk P w H' sI.heap ∧
  sI.os = s.os ∧ AllBare sI.gens ∧ s'.os = s.os ∧ AllBare s'.gens ∧ (∀ b o, sI.heap.get? b = some o → b ∉ frs outer → B.get? b = some o) ∧ sI.heap.UpToSlots s'.heap ∧ E (.ref C) none H'
/-- the context takes an exception of which Ex holds -/
def Throws (X : Cx) (Ex : Addr → St → Hp → Prop) : Prop := ∀ (pins : List (Addr × Obj)) (σ : St) (H : Hp) (sI : Shared) (ea C : Addr) (B : Heap) (fl : Value) (s' : Shared), Inv X pins σ H sI → FlyZ B X.stack ea (.ref C) fl s'.heap → s'.os = sI.os → AllBare s'.gens →
  (∀ b o, sI.heap.get? b = some o → b ∉ frs X.stack → B.get? b = some o) → sI.heap.UpToSlots s'.heap → Ex C σ H → X.xe (.ref ea) s'
theorem throws_none {X : Cx} : Throws X (fun _ _ _ => False) := fun _ _ _ _ _ _ _ _ _ _ _ _ _ _ _ h => h.elim
theorem Throws.imp {X : Cx} {Ex Ex' : Addr → St → Hp → Prop} (T : Throws X Ex) (h : ∀ C σ H, Ex' C σ H → Ex C σ H) : Throws X Ex' := fun pins σ H sI ea C B fl s' I f a b c d q => T pins σ H sI ea C B fl s' I f a b c d (h _ _ _ q)
/-- a def's body -/
theorem throws_def {cm : Bool} {P : Program} {w : World} {K : PySem.W.Frag} {mg : Str → Option Value} {base : Heap} {N : List Str} {qual : Str} {scope : Scope} {f : Addr} {cd : Value} {A : Around} {outer : List Env} {s : Shared} {H : Hp} {E : XK} :
    Throws (cxOf (CXW P w) cm P w K mg base N qual scope f cd A outer s H E) (fun C _ H' => E (.ref C) none H') := by
  intro pins σ H' sI ea C B fl s' I x os bare hB up q
  have ff : A.frames = some outer := by
    have := I.ok.frames
    cases h : A.frames with
    | none =>
      have z : (A.deeper (envOfC qual scope s.heap.objs.size f cd)).frames = none := by
        first | (show (A.frames.map _) = none; rw [h]; rfl) | simp [Around.deeper, Around.under, h]
      rw [show (cxOf (CXW P w) cm P w K mg base N qual scope f cd A outer s H E).A = A.deeper (envOfC qual scope s.heap.objs.size f cd) from rfl, z] at this
      cases this
    | some l =>
      have z := Around.frames_deeper (env := envOfC qual scope s.heap.objs.size f cd) h
      rw [show (cxOf (CXW P w) cm P w K mg base N qual scope f cd A outer s H E).A = A.deeper (envOfC qual scope s.heap.objs.size f cd) from rfl, z] at this
      have := Option.some.inj this
      exact congrArg some (List.cons.inj this).2
  show wpAny (model P w) (A.deeper (envOfC qual scope s.heap.objs.size f cd)) (leaving (envOfC qual scope s.heap.objs.size f cd) (.ref ea)) _ _ s'
  refine fly_leave (L := s.heap.objs.size) (Around.frames_deeper ff) rfl x fun h' y u => ?_
  have hid : ∀ b o, b ≠ s.heap.objs.size → sI.heap.get? b = some o → (PySem.W.hideAll sI.heap [s.heap.objs.size]).get? b = some o := fun b o hb e => PySem.W.hideAll_get _ e (by simpa using hb)
  have U := I.base
  have lt : ∀ b o, s.heap.get? b = some o → b ≠ s.heap.objs.size := fun b o e => Nat.ne_of_lt (Heap.lt_size e)
  have nl : ∀ b : Addr, b ∉ (cxOf (CXW P w) cm P w K mg base N qual scope f cd A outer s H E).ex := fun b z => absurd (show b ∈ ([] : List Addr) from z) (by simp)
  refine ⟨ea, C, B, H', { sI with heap := PySem.W.hideAll sI.heap [s.heap.objs.size] }, rfl, y, ⟨fun b o e n hb _ => hid b o (lt b o e) (U.keep b o e n hb (nl b)), fun b o e n hb _ => ?_, fun b o e n _ => U.free b o e n (nl b), fun b o e _ => ?_, U.tups, U.frzs, U.tbls⟩,
    I.hok.but (C := s.heap.objs.size) I.free hid, I.os, I.bare, os.trans I.os, bare, fun b o e hb => ?_, fun b o e nf => ?_, q⟩
  · obtain ⟨sl, z⟩ := U.slot b o e n hb (nl b)
    exact ⟨sl, hid b _ (lt b o e) z⟩
  · obtain ⟨o', z⟩ := U.there b o e (nl b)
    exact ⟨o', hid b _ (lt b o e) z⟩
  · have e' := PySem.W.of_hideAll _ e
    refine hB b o e' fun z => ?_
    have z' : b ∈ s.heap.objs.size :: frs outer := z
    rcases List.mem_cons.mp z' with r | r
    · rw [r] at e
      have z9 : (PySem.W.hideAll sI.heap [s.heap.objs.size]).get? s.heap.objs.size = none := PySem.W.hideAll_none _ (by simp)
      exact absurd (z9.symm.trans e) (by simp)
    · exact hb r
  · exact (up.trans u) b o (PySem.W.of_hideAll _ e) nf

/-! ### calls that may raise -/
def XE (Ex : Addr → St → Hp → Prop) (σ : St) : XK := fun c _ H' => ∃ C, c = .ref C ∧ Ex C σ H'
def tCallX (sp : Sp) (dvs : List V) (Ex : Addr → St → Hp → Prop) (t : TA) : TE := fun σ H Q => t σ H fun vs H1 => sp (vs ++ dvs) H1 Q (XE Ex σ)
def tMethX (C : Addr) (m : Str) (sp : Sp) (dvs : List V) (Ex : Addr → St → Hp → Prop) (ta : TE) (t : TA) : TE := fun σ H Q => ta σ H fun x H1 => ∃ a dx fs, x = .ref a ∧ H1 a = some (.ins C dx fs) ∧ fs.lookup m = none ∧
  t σ H1 fun vs H2 => sp (x :: (vs ++ dvs)) H2 Q (XE Ex σ)
section
variable {X : Cx} {cm : Bool} {k : Nat} {f C : Addr} {fd : FuncData} {ps : List Str} {sp : Sp} {dvs : List V} {ds : List Value} {Ex : Addr → St → Hp → Prop} {x m : Str} {p pos apos : Pos} {e o : Expr} {es : List Expr} {ta : TE} {t : TA}
theorem Throws.of {pins : List (Addr × Obj)} {σ : St} {H : Hp} {s s' : Shared} {v : Value} (T : Throws X Ex) (I : Inv X pins σ H s) (h : CXW X.prog X.w X.stack H s (XE Ex σ) v s') : X.xe v s' := by
  obtain ⟨ea, C, B, H', sI, rfl, y, un, hok, os, bare, os', bare', hB, up, C', ec, q⟩ := h
  cases ec
  exact T pins σ H' sI ea C B .none s' (I.call' os un hok bare fun b z => absurd z (by simp)) y (os'.trans os.symm) bare' hB up q
theorem run_fnX {pins : List (Addr × Obj)} {σ : St} {H : Hp} {s : Shared} {Q : VK} {us : List Value} {vs : List V} (T : Throws X Ex) (F : FnOk X.prog X.w X.K X.mg X.base (CXW X.prog X.w) cm k f fd ps sp) (hr : Room cm k X.A) (hb : Binds X.K fd ps ds) (hd : Vals dvs ds)
    (I : Inv X pins σ H s) (r : Vals vs us) (h : sp (vs ++ dvs) H Q (XE Ex σ)) : wpAny (model X.prog X.w) X.A (call (.ref f) us) (EP X pins σ Q) X.xe s := by
  have r2 : Vals (vs ++ dvs) (us ++ ds) := r.append hd
  have hl : (us ++ ds).length = ps.length := by rw [← r2.length]; exact F.len _ _ _ _ h
  refine wpAny_call (codeAny_mono (F.run X.A X.stack s H ⟨us, []⟩ (us ++ ds) (vs ++ dvs) Q (XE Ex σ) hr I.env0 (hb s us I.kIn hl) r2 h) fun r s' hq => ?_)
  cases r with
  | error v => exact T.of I hq
  | ok fl =>
    cases fl with
    | ret u => exact I.after hq
    | next => exact False.elim hq
    | brk => exact False.elim hq
    | cont => exact False.elim hq
theorem pe_callX (T : Throws X Ex) (F : FnOk X.prog X.w X.K X.mg X.base (CXW X.prog X.w) cm k f fd ps sp) (hr : Room cm k X.A) (hg : Gl X x) (hm : X.mg x = some (.ref f)) (hk : PySem.W.keepIn X.K (.ref f) = true) (hb : Binds X.K fd ps ds) (hd : Vals dvs ds)
    (ha : PA X (e :: es) t) (hdb : (x == ("__debug__" : Str)) = false := by decide) (he : starEach (e :: es) X.env = (false, eval e X.env) :: starEach es X.env := by rfl) (hpl : (backTo pos (starEach es X.env)).any (·.1) = false := by rfl) :
    PE X (.Call (.Name x p) (e :: es) [] pos) (tCallX sp dvs Ex t) := by
  intro pins s σ H Q I h
  refine wpAny_Call_Name_kw (ld_glob I hg hm ?_ hdb)
  refine PySem.W.callWith_K (h₀ := X.base) I.ok.mod.kin hk (thn (ha pos pins s σ H _ I h) fun us s1 ⟨vs, H1, I1, r, q⟩ => ⟨I1.kIn, ?_⟩) he hpl
  exact run_fnX T F hr hb hd I1 r q
end
/-- no exception leaves a statement -/
theorem PS.nox {X : Cx} {st : Stmt} {t : TS} (h : PS X.nox st t) : PS X st t := fun pins s σ H D I hw =>
  wpAny_mono (h pins s σ H D (I.wish _) hw) (fun _ _ q => q.unwish) fun _ _ z => False.elim z
/-- THE RULE for a def that may raise: its body's exceptions are E's -/
theorem Fun.okW {P : Program} {w : World} {K : PySem.W.Frag} {mg : Str → Option Value} {base : Heap} {x qual : Str} {st : Stmt} {f : Addr} {fd : FuncData} {N ps : List Str} {cm : Bool} {k : Nat} {sp : Sp} (F : Fun K x qual st f fd) (S : FnScope N ps (defScope st)) (len : ∀ vs H Q E, sp vs H Q E → vs.length = ps.length)
    (hbody : ∀ (cdv : Value) (A : Around) (outer : List Env) (s : Shared) (H : Hp) (vs : List V) (Q : VK) (E : XK), Room cm k (A.deeper (envOfC qual (defScope st) s.heap.objs.size f cdv)) → sp vs H Q E →
      ∃ t, PSs (cxOf (CXW P w) cm P w K mg base N qual (defScope st) f cdv A outer s H E) (defBody st) t ∧ t { nx := fun _ H' => Q .non H', rt := Q } (start N vs) H) : FnOk P w K mg base (CXW P w) cm (k + 1) f fd ps sp := by
  obtain ⟨oc, od, kV, doc, pm, an, cdv, ct, osl, rfl, lk, hcd⟩ := F.ex
  exact fn_of lk hcd S len fun A outer s H vs Q E hr hsp => hbody cdv A outer s H vs Q E hr hsp
end L2
set_option Elab.async false
set_option linter.all false
set_option maxRecDepth 100000
set_option maxHeartbeats 4000000
namespace L2
open PySem PySem.Spec PyProof.Rows

/-! ### own error classes under ValueError -/
def bmV : List Value := [.type "ValueError", .type "Exception", .type "BaseException", .type "object"]
/-- the class at C is an own error class whose first built-in base is ValueError -/
def ErrK (K : PySem.W.Frag) (C : Addr) : Prop := PySem.W.excIn K C bmV "ValueError.__new__" = true
structure ErrObj (h : Heap) (C : Addr) (mro : List Value) : Prop where
  ex : ∃ bm N nm q bs hdct sn sub ab col dd k0 k1 k2 k3 k5 mN, mro = .ref C :: bm ∧ h.get? C = some (excClassObj nm q C N bs bm hdct sn sub ab col dd k0 k1 k2 k3 k5 "ValueError.__new__") ∧ h.Ns N mN ∧ mN "__init__" = none ∧ OwnTail h bmV bm
theorem ErrK.obj {K : PySem.W.Frag} {C : Addr} {h : Heap} (x : ErrK K C) (X : K.In h) : ∃ cd, PySem.W.clsIn K C = some cd ∧ ErrObj h C cd.mro := by
  unfold ErrK PySem.W.excIn at x
  split at x
  · rename_i dd cd sl look
    have hc : PySem.W.clsIn K C = some cd := by
      unfold PySem.W.clsIn
      rw [look]
    refine ⟨cd, hc, ?_⟩
    split at x
    · rename_i C' bm k0 k1 k2 k3 n k5 em es
      simp only [Bool.and_eq_true, beq_iff_eq, Bool.not_eq_true'] at x
      obtain ⟨⟨⟨⟨⟨c1, c2⟩, c3⟩, c4⟩, c5⟩, c6⟩ := x
      subst c1 c2
      obtain ⟨a1, a2, a3, a4, a5, a6, a7, a8, a9, a10, a11⟩ := cd
      dsimp only at em c3 c5 c6 ⊢
      subst em c3
      obtain ⟨sl⟩ := sl
      dsimp only at es
      subst es
      exact ⟨bm, a4, a1, a5, a2, a6, a7, a8, a9, a10, dd, k0, k1, k2, k3, k5, _, rfl, X _ _ look, .of_isNs (PySem.W.isNs_of_in X c5), PySem.W.nsMap_none_of_in X c5 c6, PySem.W.tail_of_in X c4⟩
    · cases x
  · cases x

/-! ### raise C(..) -/
def tRaise (C : Addr) (Ex : Addr → St → Hp → Prop) (t : TA) : TS := fun _ σ H => t σ H fun vs H1 => vs.length ≤ sizeLine ∧ Ex C σ H1
theorem ps_raise {X : Cx} {Ex : Addr → St → Hp → Prop} {C : Addr} {x : Str} {np cpos pos : Pos} {e : Expr} {es : List Expr} {t : TA} (hc : X.calm = true) (T : Throws X Ex) (O : ErrK X.K C) (hg : Gl X x) (hm : X.mg x = some (.ref C)) (ha : PA X (e :: es) t)
    (hdb : (x == ("__debug__" : Str)) = false := by decide) (hst : starEach (e :: es) X.env = (false, eval e X.env) :: starEach es X.env := by rfl) (hpl : (backTo cpos (starEach es X.env)).any (·.1) = false := by rfl) :
    PS X (.Raise (some (.Call (.Name x np) (e :: es) [] cpos)) none pos) (tRaise C Ex t) := by
  intro pins s σ H D I h
  obtain ⟨cd, _, ⟨bm, N, nm, q, bs, hdct, sn, sub, ab, col, dd, k0, k1, k2, k3, k5, mN, em, hC, hN, hni, TL⟩⟩ := O.obj I.ok.mod.kin
  refine wpAny_Raise_call_subT (C := C) (nm := nm) (q := q) (N := N) (bs := bs) (bm := bm) (hdct := hdct) (sn := sn) (sub := sub) (ab := ab) (col := col) (dd := dd) (k0 := k0) (k1 := k1) (k2 := k2) (k3 := k3) (k5 := k5) (mN := mN) PySem.F.excBase_ValueError (TL.hasType (by decide)) (I.ok.hd hc)
    (by rw [hst]; show (false || (backTo cpos (starEach es X.env)).any (·.1)) = false; rw [hpl]; rfl) hni (ld_glob I hg hm ⟨rfl, ?_⟩ hdb)
  have hA := ha cpos pins s σ H _ I h
  rw [hst] at hA ⊢
  refine Calls.evalArgs_plain (thn hA fun us s2 ⟨vs, H2, I2, r2, hz, q2⟩ => ⟨rfl, by rw [← r2.length]; exact hz, I2.bk _ _ hC, hN.keeps I2.bk, TL.keeps I2.bk, fun h' ea hm' => ?_⟩)
  obtain ⟨tt, he, htn, _⟩ := hm'.there
  have hin : ∀ env ∈ X.stack, ∀ a, env.frame = some a → a ∈ frs X.stack := fun env hm a ha => List.mem_filterMap.mpr ⟨env, hm, ha⟩
  refine T pins σ H2 s2 ea C (PySem.W.hideAll s2.heap (frs X.stack)) .none { s2 with heap := h' } I2 ⟨fun b o e => hm'.keeps b o (PySem.W.of_hideAll _ e), ?_, ?_, ?_⟩ rfl I2.bare (fun b o e hb => PySem.W.hideAll_get _ e hb) (fun b o e _ => ⟨o.slots, hm'.keeps b o e⟩) q2
  · cases z : (PySem.W.hideAll s2.heap (frs X.stack)).get? ea with
    | none => rfl
    | some o =>
      have := PySem.W.of_hideAll _ z
      rw [hm'.new] at this
      cases this
  · exact (PySem.W.funFrames_hide I2.stack hin).of_keeps fun b o e _ => ⟨o, hm'.keeps b o e, rfl⟩
  · exact ⟨_, _, he, rfl, rfl, rfl, by simp, rfl, .inl rfl⟩

/-! ### try .. except D as n -/
section
variable {M : Model} {A : Around} {E : Value → Shared → Prop}
theorem exc_matches {h : Heap} {g : Array GenState} {d : Drawn} {t : Nat} {os : OsState} {e C D : Addr} {oe : Obj} {mC mD : List Value} {Q : Bool → Shared → Prop} (OC : ErrObj h C mC) (OD : ErrObj h D mD) (he : h.get? e = some oe) (hcls : oe.cls = .ref C)
    (hsub : mC.contains (.ref D) = true) (hq : Q true ⟨h, g, d, t, os⟩) : wpAny M A (excMatches (.ref e) (.ref D)) Q E ⟨h, g, d, t, os⟩ := by
  obtain ⟨bm, N, nm, q, bs, hdct, sn, sub, ab, col, dd, k0, k1, k2, k3, k5, mN, rfl, hC, _, _, TC⟩ := OC
  obtain ⟨bm', N', nm', q', bs', hdct', sn', sub', ab', col', dd', j0, j1, j2, j3, j5, mN', rfl, hD, _, _, TD⟩ := OD
  have b1 : (Value.ref D :: bm').contains (.type "BaseException") = true := by
    rw [List.contains_cons, TD.hasType (X := "BaseException") (b := true) (by decide), Bool.or_true]
  have b2 := tc_notTuple
  unfold excMatches
  repeat (first | (with_reducible refine wpAny_loadPart_at he ?_; rw [hcls]) | with_reducible refine wpAny_loadPart_at hD ?_ | (with_reducible refine wpAny_isSubtype_exc hD ?_; rw [b1]) | (with_reducible refine wpAny_isSubtype_exc hC ?_; rw [hsub]) | wp_step)
  exact hq
end

theorem ObjOk.ex {P : Program} {w : World} {H : Hp} {h : Heap} {a : Addr} {o : HO} (x : ObjOk P w H h a o) : ∃ ob, h.get? a = some ob := by
  cases o with
  | lst xs => obtain ⟨_, _, _, _, e⟩ := x; exact ⟨_, e⟩
  | tup xs => obtain ⟨_, _, _, o, e, _⟩ := x; exact ⟨_, e⟩
  | dK kvs => obtain ⟨_, _, _, _, o, _, _, e, _⟩ := x; exact ⟨_, e⟩
  | dT kvs => obtain ⟨_, _, _, _, o, _, _, e, _⟩ := x; exact ⟨_, e⟩
  | set S n => obtain ⟨o, _, _, _, e, _⟩ := x; exact ⟨_, e⟩
  | ins C dx fs => obtain ⟨_, _, _, e, _⟩ := x; exact ⟨_, e⟩
  | own y => exact x
  | xd fs => obtain ⟨_, ⟨_, _, _, e, _⟩, _⟩ := x; exact ⟨_, e⟩
  | rng lo hi => obtain ⟨_, _, _, e⟩ := x; exact ⟨_, e⟩
  | frz ob u => exact ⟨_, x.1⟩
  | tbl ps => exact ⟨_, x⟩
  | met f y => exact ⟨_, x⟩
  | ext φ => exact x.2.1

/-- the pins become the context's own -/
abbrev cxP (X : Cx) (pins : List (Addr × Obj)) : Cx := { X with pn := X.pn ++ pins }
theorem Cx.Ok.p {X : Cx} (ok : X.Ok) (pins : List (Addr × Obj)) : (cxP X pins).Ok :=
  ⟨ok.mod, ok.kind, ok.glob, ok.blt, ok.above, ok.inj, ok.has, ok.cab, ok.hd, ok.frames, ok.stk, ok.exf, ok.bs, ok.bsz, ok.noex, ok.exfs, ok.funs, ok.frf⟩
theorem Inv.p {X : Cx} {pins : List (Addr × Obj)} {σ : St} {H : Hp} {s : Shared} (I : Inv X pins σ H s) : Inv (cxP X pins) [] σ H s :=
  ⟨I.ok.p pins, I.os, I.bare, I.base, I.loc, I.cell, I.free, I.freeC, fun p hp => I.pin p (by have h : p ∈ (X.pn ++ pins) ++ [] := hp; simpa using h), I.hok, I.len, I.hdk⟩
theorem Inv.unp {X : Cx} {pins : List (Addr × Obj)} {σ : St} {H : Hp} {s : Shared} (ok : X.Ok) (I : Inv (cxP X pins) [] σ H s) : Inv X pins σ H s :=
  ⟨ok, I.os, I.bare, I.base, I.loc, I.cell, I.free, I.freeC, fun p hp => I.pin p (by show p ∈ (X.pn ++ pins) ++ []; simpa using hp), I.hok, I.len, I.hdk⟩
/-- the body of a try -/
abbrev cxTry (X : Cx) (pins : List (Addr × Obj)) (Ex : Addr → St → Hp → Prop) : Cx := (cxP X pins).wish fun e s' => ∃ (ea C : Addr) (B : Heap) (H' : Hp) (fl : Value) (σ : St) (sI : Shared), e = .ref ea ∧ Inv (cxP X pins) [] σ H' sI ∧ FlyZ B X.stack ea (.ref C) fl s'.heap ∧
  s'.os = sI.os ∧ AllBare s'.gens ∧ (∀ b o, sI.heap.get? b = some o → b ∉ frs X.stack → B.get? b = some o) ∧ sI.heap.UpToSlots s'.heap ∧ Ex C σ H'
theorem throws_try {X : Cx} {pins : List (Addr × Obj)} {Ex : Addr → St → Hp → Prop} : Throws (cxTry X pins Ex) Ex := fun ps σ H sI ea C B fl s' I y os bare hB up q =>
  ⟨ea, C, B, H, fl, σ, sI, rfl, (I.unwish.pins_of fun p hp => (nomatch hp)), y, os, bare, hB, up, q⟩
/-- the suite of an except -/
abbrev cxSuite (X : Cx) (pins : List (Addr × Obj)) (ea : Addr) : Cx := { X with pn := X.pn ++ pins, A := X.A.mark (some (.ref ea)), calm := false, xe := fun _ _ => False }

/-- an exception's own object -/
def ExcO (C : Addr) (o : Obj) : Prop := o.cls = .ref C ∧ o.dict = none ∧ ∃ vs, o.data = .fields vs
/-- the exception lands: the suite's ground -/
theorem land {X : Cx} {pins : List (Addr × Obj)} {σ : St} {H : Hp} {sI s' : Shared} {ea C : Addr} {B : Heap} {fl : Value} (hex : X.ex = []) (I : Inv (cxP X pins) [] σ H sI) (y : FlyZ B X.stack ea (.ref C) fl s'.heap) (os : s'.os = sI.os) (bare : AllBare s'.gens)
    (hB : ∀ b o, sI.heap.get? b = some o → b ∉ frs X.stack → B.get? b = some o) (up : sI.heap.UpToSlots s'.heap) :
    H ea = none ∧ ∃ oe, ExcO C oe ∧ s'.heap.get? ea = some oe ∧ Inv (cxSuite X pins ea) [] σ (upd H ea (.frz oe (.own 0))) s' := by
  obtain ⟨st, hn, hl, oe, vs, he, hc, hdi, hd, hz, h2, h1⟩ := y
  have nea : ea ∉ frs X.stack := fun z => by
    obtain ⟨_, o, ho, nf⟩ := hl.mem z
    rw [he] at ho
    cases ho
    exact nf vs hd
  have new : sI.heap.get? ea = none := by
    cases q : sI.heap.get? ea with
    | none => rfl
    | some o =>
      have := hB _ o q nea
      rw [hn] at this
      cases this
  have hH : H ea = none := by
    cases q : H ea with
    | none => rfl
    | some u =>
      obtain ⟨ob, z⟩ := (I.hok ea u q).ex
      rw [new] at z
      cases z
  have keep : ∀ b o, sI.heap.get? b = some o → b ∉ frs X.stack → s'.heap.get? b = some o := fun b o e hb => st b o (hB b o e hb)
  have slot : ∀ b o, sI.heap.get? b = some o → b ∈ frs X.stack → ∃ sl, s'.heap.get? b = some { o with slots := sl } := fun b o e hb => by
    obtain ⟨_, o', ho', nf⟩ := I.stack.mem (show b ∈ (cxP X pins).stack.filterMap (·.frame) from hb)
    rw [e] at ho'
    cases ho'
    exact up b o e nf
  have I1 : Inv (cxP X pins) [] σ H s' := I.call' (ch := []) os ⟨fun b o e _ hb _ => keep b o e hb, fun b o e _ hb _ => slot b o e hb, fun _ _ _ n _ => n, fun b o e _ => ?_, fun _ _ e => e, fun _ _ _ e => e, fun b ps e => ⟨#[], by rw [e]; simp⟩⟩
    (fun b u e => (I.hok b u e).stay (fun c v hc q => keep c v q fun z => ?_) (fun _ q => q) fun _ _ q => q) bare fun b z => absurd z (by simp)
  · have nel : ea ≠ X.env.locals := fun z => by
      obtain ⟨m, ⟨o, es, ep, ho, hdd, _⟩, _⟩ := I1.loc
      have ho' : s'.heap.get? ea = some o := by rw [z]; exact ho
      rw [he] at ho'
      cases ho'
      rw [hd] at hdd
      cases hdd
    refine ⟨hH, oe, ⟨hc, hdi, vs, hd⟩, he, ⟨⟨I1.ok.mod, I1.ok.kind, I1.ok.glob, I1.ok.blt, I1.ok.above, I1.ok.inj, I1.ok.has, I1.ok.cab, fun z => (nomatch z), I1.ok.frames, I1.ok.stk, I1.ok.exf, I1.ok.bs, I1.ok.bsz, I1.ok.noex, I1.ok.exfs, I1.ok.funs, I1.ok.frf⟩, I1.os, I1.bare,
      ⟨I1.base.keep, I1.base.slot, fun b o e n hx => ?_, I1.base.there, fun b xs e => ?_, fun b o u e => ?_, fun b ps e => ?_⟩, I1.loc, I1.cell, ?_, fun x c e => ?_, fun p hp => ?_, I1.hok.add hH ⟨he, oe, he⟩, I1.len, .inr ⟨ea, oe, vs, rfl, upd_same, hd, h2, C, hc⟩⟩⟩
    · obtain ⟨o', z⟩ := I.base.there b o e hx
      rw [upd_ne (fun w => by rw [w, new] at z; cases z)]
      exact I1.base.free b o e n hx
    · have z := I1.base.tups b xs e
      rw [upd_ne (ne_of_none z hH)]
      exact z
    · have z := I1.base.frzs b o u e
      rw [upd_ne (ne_of_none z hH)]
      exact z
    · obtain ⟨more, z⟩ := I1.base.tbls b ps e
      exact ⟨more, by rw [upd_ne (ne_of_none z hH)]; exact z⟩
    · rw [upd_ne (Ne.symm nel)]
      exact I1.free
    · have nc : c ≠ ea := fun w => by
        obtain ⟨v, o, ho, hdd⟩ := I1.cell x c e
        rw [w, he] at ho
        cases ho
        rw [hd] at hdd
        cases hdd
      rw [upd_ne nc]
      exact I1.freeC x c e
    · obtain ⟨a, b, c, d, f⟩ := I1.pin p hp
      refine ⟨a, ?_, c, d, f⟩
      rw [upd_ne fun w => ?_]
      · exact b
      · have := (I.pin p hp).1
        rw [w, new] at this
        cases this
  · by_cases hb : b ∈ frs X.stack
    · obtain ⟨sl, z⟩ := slot b o e hb
      exact ⟨_, z⟩
    · exact ⟨o, keep b o e hb⟩
  · have zf : H c = none := I.stkFree c z
    rcases hc with w | w
    · rw [w] at zf
      rw [zf] at e
      cases e
    · rw [zf] at w
      cases w

/-- a name is unbound -/
theorem Inv.unbound {X : Cx} {pins : List (Addr × Obj)} {σ : St} {H : Hp} {s : Shared} {i : Nat} {n : Str} {m : Str → Option Value} {v : Option Value} {h' : Heap} {tk : Nat} (I : Inv X pins σ H s) (hN : X.N.Nodup) (hi : X.N[i]? = some n)
    (hm : s.heap.Ns X.env.locals m ∧ ∀ (i : Nat) (x : Str) (v : V), X.N[i]? = some x → σ[i]? = some (some v) → Vis X.env.scope x → ∃ u, RelV v u ∧ Look X.env s.heap m x u)
    (hn' : h'.Ns X.env.locals (fun x => if x = n then v else m x)) (hs : Heap.SameBut X.env.locals s.heap h') : Inv X pins (σ.set i none) H { s with heap := h', toks := tk } := by
  obtain ⟨oL, _, _, hoL, _⟩ := id hm.1
  have hiσ : i < σ.length := by rw [I.len]; exact (List.getElem?_eq_some_iff.mp hi).1
  have ne0 : ∀ b o, X.s₀.heap.get? b = some o → b ≠ X.env.locals := fun b o e => Nat.ne_of_lt (Nat.lt_of_lt_of_le (Heap.lt_size e) I.ok.above)
  refine ⟨I.ok, I.os, I.bare, ⟨fun b o e n hb hx => (hs.2 b (ne0 b o e)).trans (I.base.keep b o e n hb hx), fun b o e n hb hx => ?_, I.base.free, fun b o e hx => ?_, I.base.tups, I.base.frzs, I.base.tbls⟩, ⟨_, hn', fun j y w e1 e2 e3 => ?_⟩, fun y c e => ?_, I.free, I.freeC, fun p hp => ?_,
    I.hok.but I.free fun b u hb e => (hs.2 b hb).trans e, by simpa using I.len, I.hdk⟩
  · obtain ⟨sl, z⟩ := I.base.slot b o e n hb hx
    exact ⟨sl, (hs.2 b (ne0 b o e)).trans z⟩
  · obtain ⟨o', z⟩ := I.base.there b o e hx
    exact ⟨o', (hs.2 b (ne0 b o e)).trans z⟩
  · by_cases hj : j = i
    · subst hj
      rw [List.getElem?_set_self hiσ] at e2
      cases e2
    · rw [List.getElem?_set_ne (Ne.symm hj)] at e2
      obtain ⟨u, r, l⟩ := hm.2 j y w e1 e2 e3
      refine ⟨u, r, ?_⟩
      have hy : y ≠ n := fun q => hj (nodup_ix hN e1 (q ▸ hi))
      rcases l with ⟨k1, k2⟩ | ⟨k1, c, e, z⟩
      · exact .inl ⟨k1, by simp [hy, k2]⟩
      · exact .inr ⟨k1, c, e, z.sameBut hs (I.cne y c e)⟩
  · obtain ⟨w, z⟩ := I.cell y c e
    exact ⟨w, z.sameBut hs (I.cne y c e)⟩
  · obtain ⟨a, b, c, d, f⟩ := I.pin p hp
    exact ⟨(hs.2 p.1 c).trans a, b, c, d, f⟩
theorem Inv.unsuite {X : Cx} {pins : List (Addr × Obj)} {σ : St} {H : Hp} {s : Shared} {ea : Addr} (ok : X.Ok) (hh : X.A.handled = none) (I : Inv (cxSuite X pins ea) [] σ H s) : Inv X pins σ H s :=
  ⟨ok, I.os, I.bare, I.base, I.loc, I.cell, I.free, I.freeC, fun p hp => I.pin p (by show p ∈ (X.pn ++ pins) ++ []; simpa using hp), I.hok, I.len, .inl hh⟩

/-- i: the slot of n; D: the class that is caught; tb: the body, by what is wanted of an exception; ts: the suite -/
def tTry (K : PySem.W.Frag) (i : Nat) (D : Addr) (tb : (Addr → St → Hp → Prop) → TS) (ts : TS) : TS := fun Z σ H =>
  tb (fun C σ' H' => ErrK K C ∧ PySem.W.mroIn K C (.ref D) = some true ∧ ∀ ea oe, H' ea = none → ExcO C oe →
    ts { nx := fun σ2 H2 => Z.nx (σ2.set i none) H2, rt := Z.rt, bk := fun σ2 H2 => Z.bk (σ2.set i none) H2, ct := fun σ2 H2 => Z.ct (σ2.set i none) H2 } (σ'.set i (some (.ref ea))) (upd H' ea (.frz oe (.own 0)))) Z σ H
theorem ps_try {X : Cx} {i : Nat} {D : Addr} {x n : Str} {np hpos pos : Pos} {body : List Stmt} {b₀ : Stmt} {suite : List Stmt} {tb : (Addr → St → Hp → Prop) → TS} {ts : TS} (hc : X.calm = true) (hex : X.ex = []) (hstk : X.stack = X.env :: X.outer ∧ X.env.frame = some X.env.locals)
    (hN : X.N.Nodup) (hi : X.N[i]? = some n) (hlo : X.env.scope.names.lookup n = some .local) (OD : ErrK X.K D) (hg : Gl X x) (hm : X.mg x = some (.ref D))
    (hb : ∀ pins Ex, PSs (cxTry X pins Ex) body (tb Ex)) (hs : ∀ pins ea, PSs (cxSuite X pins ea) (b₀ :: suite) ts) (hdb : (x == ("__debug__" : Str)) = false := by decide) :
    PS X (.Try body [.ExceptHandler (some (.Name x np)) (some n) (b₀ :: suite) hpos] [] [] pos) (tTry X.K i D tb ts) := by
  intro pins s σ H Z I h
  have hh : X.A.handled = none := I.ok.hd hc
  have hp : (X.env.scope.kind == .class || (X.env.scope.kind == .module && X.env.locals != X.env.globals)) = false := by rw [I.ok.kind]; rfl
  refine wpAny_Try_except (wpAny_mono (hb pins _ [] s σ H Z (I.p.wish _) h) (fun f s1 q => ?_) fun e s1 q => ?_)
  · cases f with
    | next =>
      obtain ⟨σ', H', J, q⟩ := q
      exact wpAny_execs_nil ⟨σ', H', Inv.unp I.ok J.unwish, q⟩
    | brk => obtain ⟨σ', H', J, q⟩ := q; exact ⟨σ', H', Inv.unp I.ok J.unwish, q⟩
    | cont => obtain ⟨σ', H', J, q⟩ := q; exact ⟨σ', H', Inv.unp I.ok J.unwish, q⟩
    | ret u => obtain ⟨v, σ', H', J, r, q⟩ := q; exact ⟨v, σ', H', Inv.unp I.ok J.unwish, r, q⟩
  · obtain ⟨ea, C, B, H', fl, σ', sI, rfl, J, y, os, bare, hB, up, OC, sub, want⟩ := q
    have fr : X.A.frames = some (X.env :: X.outer) := by rw [I.ok.frames, hstk.1]
    rw [hstk.1] at y
    refine fly_note fr hstk.2 y fun h2 y2 u2 => fly_flight (s := { s1 with heap := h2 }) y2 fun h3 y3 u3 => ?_
    have y3' : FlyZ B X.stack ea (.ref C) .none h3 := by rw [hstk.1]; exact y3
    have up3 := (up.trans u2).trans u3
    obtain ⟨_, oe3, c3, g3, J3⟩ := land (s' := { s1 with heap := h3 }) hex J y3' os bare hB up3
    obtain ⟨cdC, cC, eC⟩ := OC.obj J3.kIn
    obtain ⟨cdD, cD, eD⟩ := OD.obj J3.kIn
    have hsub : cdC.mro.contains (.ref D) = true := by
      unfold PySem.W.mroIn at sub
      rw [cC] at sub
      simp only [Option.bind_some] at sub
      split at sub
      · cases sub
      · exact Option.some.inj sub
    refine wpAny_handleBy_cons (codeAny_handlers_test (ld_glob (X := cxSuite X pins ea) J3 hg hm ?_ hdb)) (by intro q; cases q)
    refine exc_matches (h := h3) (g := s1.gens) (d := s1.drawn) (t := s1.toks) (os := s1.os) eC eD g3 c3.1 hsub ?_
    refine codeAny_handlers_suite_as ?_
    refine fly_flight (s := { s1 with heap := h3 }) y3 fun h4 y4 u4 => ?_
    have y4' : FlyZ B X.stack ea (.ref C) .none h4 := by rw [hstk.1]; exact y4
    obtain ⟨hH4, oe4, c4, g4, J4⟩ := land (s' := { s1 with heap := h4 }) hex J y4' os bare hB (up3.trans u4)
    refine store_ok (X := cxSuite X pins ea) (i := i) (v := .ref ea) J4 hN hi (.inl hlo) rfl (fun s5 J5 => ?_) (.inr hlo)
    refine wpAny_mono (hs pins ea [] s5 _ _ _ J5 (want ea oe4 hH4 c4)) (fun f s6 q6 => ?_) fun _ _ z => z.elim
    have go : ∀ {σ7 : St} {H7 : Hp}, Inv (cxSuite X pins ea) [] σ7 H7 s6 → (∀ s7, Inv X pins (σ7.set i none) H7 s7 → SP X pins Z f s7) →
        wpAny (model X.prog X.w) X.A (do bindName X.env n .none; unbindBehindTheSuite X.env n hpos) (fun _ s7 => SP X pins Z f s7) X.xe s6 := fun {σ7 H7} J7 k => by
      have J8 := Inv.unsuite I.ok hh J7
      obtain ⟨m, hns, hl⟩ := id J8.loc
      exact wpAny_nameGoes_keeps hlo hns hp fun h' v hn' hsb => k _ (J8.unbound hN hi ⟨hns, hl⟩ hn' hsb)
    cases f with
    | next => obtain ⟨σ7, H7, J7, q7⟩ := q6; exact go J7 fun s7 I7 => ⟨_, _, I7, q7⟩
    | brk => obtain ⟨σ7, H7, J7, q7⟩ := q6; exact go J7 fun s7 I7 => ⟨_, _, I7, q7⟩
    | cont => obtain ⟨σ7, H7, J7, q7⟩ := q6; exact go J7 fun s7 I7 => ⟨_, _, I7, q7⟩
    | ret u => obtain ⟨v, σ7, H7, J7, r7, q7⟩ := q6; exact go J7 fun s7 I7 => ⟨v, _, _, I7, r7, q7⟩
end L2
set_option Elab.async false
set_option linter.all false
set_option maxRecDepth 100000
set_option maxHeartbeats 4000000
namespace L2
open PySem PySem.Spec PyProof.Rows PySem.W
section
variable {prog : Program} {w : World} {A : Around} {E : Value → Shared → Prop} {K : Frag} {h : Heap} {g : Array GenState} {d : Drawn} {t : Nat} {os : OsState} {e C : Addr} {oe : Obj}
theorem exc_getattribute {tk : Tok} {Q : Fin → Shared → Prop} (X : K.In h) (I : InstAt h e oe C none) (f3 : findIn K (.ref C) "__class__" = some (some (.builtin "object.__class__"))) (hm : mroIn K C (.type "object") = some true)
    (hq : Q (.done (.ret (.ref C))) ⟨h, g, d, t, os⟩) : wpAny (model prog w) A (Builtin.«object.__getattribute__» ⟨[.ref e, .str "__class__" tk], []⟩) Q E ⟨h, g, d, t, os⟩ := by
  have L0 := I.type (M := model prog w)
  have L3 := looks_findIn (M := model prog w) X f3
  have f5 := F.typeOf_object_class
  have f6 := F.slot_gs_get.lookup
  have f7 := F.slot_gs_set.lookup
  repeat (any_goals (first | assumption | with_reducible refine L0.at ?_ | with_reducible refine L3.at ?_ | wp_step))
  exact class_get (s := ⟨h, g, d, t, os⟩) X I hm (wpAny_pure hq)
theorem exc_check {nameV : Value} {Q : Unit → Shared → Prop} (X : K.In h) (I : InstAt h e oe C none) (hb : mroIn K C (.type "BaseException") = some true) (hq : Q () ⟨h, g, d, t, os⟩) :
    wpAny (model prog w) A (checkBuiltinCall "BaseException.__getattribute__" ⟨[.ref e, nameV], []⟩) Q E ⟨h, g, d, t, os⟩ := by
  have L0 := I.type (M := model prog w)
  have L4 := looks_mroIn (M := model prog w) X hb
  have c1 : builtinKind "BaseException.__getattribute__" = some .slot := by decide +kernel
  have c2 : splitId "BaseException.__getattribute__" = some ("BaseException", "__getattribute__") := by decide +kernel
  have c3 := F.args_bexc_ga (.ref e) nameV
  simp only [checkBuiltinCall, c1, c2]
  refine wpAny_bind ?_
  unfold isInstance
  repeat (first | with_reducible refine L0.at ?_ | with_reducible refine L4.at ?_ | wp_step)
  exact hq
theorem exc_class {Q : Option Value → Shared → Prop} (X : K.In h) (I : InstAt h e oe C none) (f1 : findIn K (.ref C) "__getattribute__" = some (some (.builtin "BaseException.__getattribute__"))) (f2 : findIn K (.ref C) "__getattr__" = some none)
    (f3 : findIn K (.ref C) "__class__" = some (some (.builtin "object.__class__"))) (hm : mroIn K C (.type "object") = some true) (hb : mroIn K C (.type "BaseException") = some true) (hq : Q (some (.ref C)) ⟨h, g, d, t + 1, os⟩) :
    wpAny (model prog w) A (getAttr? (.ref e) "__class__") Q E ⟨h, g, d, t, os⟩ := by
  have L0 := I.type (M := model prog w)
  have L1 := looks_findIn (M := model prog w) X f1
  have L2 := looks_findIn (M := model prog w) X f2
  have f4 := PySem.F.attr_ValueError.ga.bind (.ref e)
  have x2 : (Value.builtin "BaseException.__getattribute__" == Value.builtin "object.__getattribute__") = false := by decide +kernel
  have x1 : (onTheHeap (Value.ref C) && Value.builtin "BaseException.__getattribute__" == Value.builtin "object.__getattribute__") = false := by rw [x2]; rfl
  have x0 : (false && onTheHeap (Value.builtin "BaseException.__getattribute__")) = false := rfl
  unfold getAttr? getAttrBy?
  refine wpAny_bind (wpAny_mkText (wpAny_bind (wpAny_attempt ?_)))
  repeat (any_goals (first | assumption | with_reducible refine L0.at ?_ | with_reducible refine L1.at ?_ | with_reducible refine L2.at ?_ | wp_step))
  refine codeAny_call_builtin PySem.F.attr_ValueError.ga.plain F.entry_bexc_ga (exc_check X I hb (exc_getattribute X I f3 hm ?_))
  repeat (any_goals (first | assumption | wp_step))
/-- what isinstance asks of an exception's class -/
structure ErrC (K : Frag) (C : Addr) : Prop where
  err : ErrK K C
  ga : findIn K (.ref C) "__getattribute__" = some (some (.builtin "BaseException.__getattribute__"))
  gr : findIn K (.ref C) "__getattr__" = some none
  cl : findIn K (.ref C) "__class__" = some (some (.builtin "object.__class__"))
  ob : mroIn K C (.type "object") = some true
  ba : mroIn K C (.type "BaseException") = some true
theorem kitx_exc (O : ErrC K C) : KitX K (.ref e) (.ref C) (fun h => InstAt h e oe C none) where
  ty := fun _ _ _ I => I.type
  it := fun M h X I => by
    obtain ⟨cd, _, ⟨bm, N, nm, q, bs, hdct, sn, sub, ab, col, dd, k0, k1, k2, k3, k5, mN, _, hC, _⟩⟩ := O.err.obj X
    intro A' Q' E' s' k q'
    unfold isType loadHead
    exact wpAny_bind (wpAny_loadPart (k _ _ hC) (wpAny_pure q'))
  ne := fun h tp dd its n sl X htp => by
    obtain ⟨cd, _, ⟨bm, N, nm, q, bs, hdct, sn, sub, ab, col, d1, k0, k1, k2, k3, k5, mN, _, hC, _⟩⟩ := O.err.obj X
    refine Bool.eq_false_iff.mpr fun z => ?_
    have ec : C = tp := Value.ref.inj (beq_iff_eq.mp z)
    subst ec
    have wd := congrArg Obj.data (Option.some.inj (hC.symm.trans htp))
    cases wd
  ca := fun {prog w A E Q s} X I k => by
    obtain ⟨h, g, d, t, os⟩ := s
    exact exc_class X I O.ga O.gr O.cl O.ob O.ba k
end
/-! ### isinstance -/
/-- a class as a value -/
def clsV : V → Option Value
  | .ref a => some (.ref a)
  | .ty n => some (.type n)
  | _ => none
inductive TyX (K : Frag) (H : Hp) : V → Value → Prop where
  | of {x : V} {t : Value} (h : TyOf K H x t) : TyX K H x t
  | exc {a C : Addr} {o : Obj} (e : H a = some (.frz o (.own 0))) (ho : ExcO C o) (O : ErrC K C) : TyX K H (.ref a) (.ref C)
def rIsi (K : Frag) : List V → Hp → VK → Prop := fun xs H Q => ∃ x c t u b, xs = [x, c] ∧ clsV c = some u ∧ TyX K H x t ∧ kitOne K t u = some b ∧ Q (.bl b) H
theorem call_isi {X : Cx} : CallR X (.builtin "isinstance") (rIsi X.K) := by
  intro pins s σ H xs us Q I r h
  obtain ⟨x, c, t, u, b, rfl, hc, ty, hk, q⟩ := h
  cases r with
  | cons r1 rr =>
    cases rr with
    | cons r2 rr =>
      cases rr
      rename_i v1 v2
      have e2 : v2 = u := by
        cases c with
        | ref a => cases hc; exact r2
        | ty n => cases hc; exact r2
        | _ => cases hc
      subst e2
      cases ty with
      | of ty => exact isinst_ok I r1 ty hk fun tk => ⟨.bl b, H, I.tok tk, rfl, q⟩
      | exc e ho O =>
        rename_i a C o
        obtain rfl : v1 = Value.ref a := r1
        obtain ⟨z, _⟩ := I.hok a _ e
        obtain ⟨c1, c2, vs, c3⟩ := ho
        have J : InstAt s.heap a o C none := ⟨z, c1, by unfold notCls; rw [c3], by rw [c2]; trivial⟩
        exact kia_one (kitx_exc O) I.kIn J hk (fun w => nomatch w) fun tk => ⟨.bl b, H, I.tok tk, rfl, q⟩
end L2
set_option Elab.async false
set_option linter.all false
set_option maxRecDepth 100000
set_option maxHeartbeats 4000000
namespace L2
open PySem PySem.Spec PyProof.Rows

/-! ### the end of a walk, while an exception is handled too -/
def Hnd (A : Around) (h : Heap) : Prop := A.handled = none ∨ ∃ (a : Addr) (o : Obj) (vs : Array Value), A.handled = some (.ref a) ∧ h.get? a = some o ∧ o.data = .fields vs ∧ vs[2]? = some .none ∧ ∃ C, o.cls = .ref C
theorem Inv.hnd {X : Cx} {pins : List (Addr × Obj)} {σ : St} {H : Hp} {s : Shared} (I : Inv X pins σ H s) : Hnd X.A s.heap := by
  rcases I.hdk with h | ⟨a, o, vs, h1, h2, h3⟩
  · exact .inl h
  · exact .inr ⟨a, o, vs, h1, (I.hok a _ h2).1, h3⟩
theorem Hnd.keeps {A : Around} {h h' : Heap} (x : Hnd A h) (k : ∀ b o, (∃ C, o.cls = .ref C) → h.get? b = some o → h'.get? b = some o) : Hnd A h' := by
  rcases x with x | ⟨a, o, vs, h1, h2, h3, h4, h5⟩
  · exact .inl x
  · exact .inr ⟨a, o, vs, h1, k a o h5 h2, h3, h4, h5⟩
theorem entry_unchain : entryFor table "proto.unchain" = some Builtin.«proto.unchain» := entryFor_of_tree (by kernel_rfl)
section
variable {prog : Program} {w : World} {A : Around} {E : Value → Shared → Prop} {s : Shared}
theorem raise_fresh {α : Type} {e : Addr} {oe : Obj} {ws : Array Value} {Q : α → Shared → Prop} (hh : Hnd A s.heap) (he : s.heap.get? e = some oe) (hd : oe.data = .fields ws) (hz : 2 < ws.size) (hc : ∀ C, oe.cls ≠ .ref C)
    (k : ∀ h', Heap.SameBut e s.heap h' → (∃ o, h'.get? e = some o ∧ o.cls = oe.cls) → E (.ref e) { s with heap := h' }) : wpAny (model prog w) A (raiseNew (.ref e) : Sem α) Q E s := by
  unfold raiseNew
  refine wpAny_bind (wpAny_handled ?_)
  rcases hh with hh | ⟨a, o, vs, h1, h2, h3, h4, C, h5⟩
  · rw [hh]
    exact wpAny_bind (wpAny_pure (wpAny_throw (k s.heap (Heap.SameBut.refl _ _) ⟨oe, he, rfl⟩)))
  · rw [h1]
    have ne : a ≠ e := fun z => by rw [z, he] at h2; cases h2; exact hc C h5
    dsimp only
    rw [if_pos (show (Value.ref a != Value.ref e) = true by simpa using ne)]
    refine wpAny_bind (wpAny_holding (wpAny_runValue (codeAny_builtin entry_unchain ?_)))
    refine wpAny_bind (m := field (.ref a) 2) (wpAny_field h2 h3 h4 ?_)
    rw [if_pos (show (Value.none == Value.none) = true by rfl)]
    refine wpAny_pure (wpAny_bind ?_)
    show wpAny _ _ (setField (.ref e) 2 (.ref a)) _ _ _
    have dd := Obj.data_mapFields hd (·.setIfInBounds 2 (Value.ref a))
    exact wpAny_setField he hd hz (wpAny_throw (k _ (Heap.SameBut.update ..) ⟨_, Heap.get?_update_self _ he (Obj.isFreed_of_fields dd), Obj.cls_mapFields _ _⟩))
theorem stop_raised {α : Type} {Q : α → Shared → Prop} (hh : Hnd A s.heap) (k : ∀ h' e, (∀ b o, s.heap.get? b = some o → h'.get? b = some o) → (∃ o, h'.get? e = some o ∧ o.cls = .type "StopIteration") → E (.ref e) { s with heap := h' }) :
    wpAny (model prog w) A (newExc (.type "StopIteration") [] >>= fun e => (raiseNew e : Sem α)) Q E s := by
  refine wpAny_bind ?_
  simp only [newExc, newTuple]
  refine wpAny_bind (wpAny_newObj_type (wpAny_bind (m := firstArgMember _ _) (wpAny_of_eq (a := Value.none) (by first | rfl | (simp only [firstArgMember]; rfl)) (wpAny_newObj_type ?_ (by size_fits)))) (by size_fits))
  have old : ∀ (o1 o2 : Obj) b o, s.heap.get? b = some o → ((s.heap.push o1).push o2).get? b = some o := fun o1 o2 b o q => Heap.get?_push_of_some _ (Heap.get?_push_of_some _ q)
  refine raise_fresh (hh.keeps fun b o _ q => old _ _ b o q) (Heap.get?_push_size _ rfl) rfl (by simp; omega) (fun C z => by cases z) fun h' sb ⟨o, g, c⟩ => k h' _ (fun b o q => ?_) ⟨o, g, c⟩
  refine (sb.2 b (fun z => ?_)).trans (old _ _ b o q)
  have := Heap.lt_size q
  rw [z, Heap.size_push] at this
  exact absurd (Nat.lt_of_succ_lt this) (Nat.lt_irrefl _)
theorem list_last {it l : Addr} {i : Nat} {items : Array Value} {Q : Value → Shared → Prop} (hh : Hnd A s.heap) (hit : s.heap.IsListIter it l i) (hl : s.heap.IsList l items) (hx : items[i]? = none)
    (k : ∀ h' e, Heap.ExtBut it s.heap h' → (∃ o, h'.get? e = some o ∧ o.cls = .type "StopIteration") → E (.ref e) { s with heap := h' }) : wpAny (model prog w) A (Builtin.SmallTypes.nextOf (.ref it)) Q E s := by
  obtain ⟨o, ho, hc, hd⟩ := id hit
  obtain ⟨ol, hol, _, nl, hdl⟩ := hl
  unfold Builtin.SmallTypes.nextOf
  refine wpAny_bind (wpAny_callSpecial?_slot (name := Str.ofString "__next__") hit.typeIs slot_listiter_next (wpAny_call_entry slot_listiter_next hit.typeIs entry_listiter_next ?_ (args_listiter_next _)))
  refine wpAny_bind (m := field (.ref it) 0) (wpAny_field ho hd (x := .ref l) rfl ?_)
  rw [if_neg (show ¬ ((Value.ref l == Value.none) = true) by simp)]
  refine wpAny_bind (m := field (.ref it) 1) (wpAny_field ho hd (x := .int i 0) rfl (wpAny_bind (m := seqItems? (.ref l)) (wpAny_seqItems hol hdl ?_)))
  simp only [Int.toNat_natCast, hx]
  refine wpAny_bind (wpAny_rule (wpAny_bind (wpAny_setField ho hd (by simp) ?_)))
  refine stop_raised (hh.keeps fun b q hq e => (Heap.get?_update_other _ _ fun z => ?_).trans e) fun h' e up st => k h' e (fun b q hb z => up b q ((Heap.get?_update_other _ _ (Ne.symm hb)).trans z)) st
  obtain ⟨C, hC⟩ := hq
  rw [← z, ho] at e
  cases e
  rw [hc] at hC
  cases hC
theorem tup_last {it t : Addr} {i : Nat} {items : Array Value} {Q : Option Value → Shared → Prop} (hh : Hnd A s.heap) (hit : s.heap.IsTupleIter it t i) (ht : s.heap.IsTuple t items) (hx : items[i]? = none)
    (k : ∀ h', Heap.ExtBut it s.heap h' → Q none { s with heap := h' }) : wpAny (model prog w) A (pyNext (.ref it)) Q E s := by
  obtain ⟨o, ho, hc, hd⟩ := id hit
  obtain ⟨ol, hol, _, nl, hdl⟩ := ht
  unfold pyNext
  refine wpAny_bind (wpAny_attempt (wpAny_callSpecial?_slot (name := Str.ofString "__next__") hit.typeIs F.slot_tuple_iterator_next (wpAny_call_entry F.slot_tuple_iterator_next hit.typeIs F.entry_tuple_iterator_next ?_ (F.args_tuple_iterator_next_1 _))))
  refine wpAny_bind (m := field (.ref it) 0) (wpAny_field ho hd (x := .ref t) rfl ?_)
  rw [if_neg (show ¬ ((Value.ref t == Value.none) = true) by simp)]
  refine wpAny_bind (m := field (.ref it) 1) (wpAny_field ho hd (x := .int i 0) rfl (wpAny_bind (m := seqItems? (.ref t)) (wpAny_seqItems hol hdl ?_)))
  simp only [Int.toNat_natCast, hx]
  refine wpAny_bind (wpAny_rule (wpAny_bind (wpAny_setField ho hd (by simp) ?_)))
  refine stop_raised (hh.keeps fun b q hq e => (Heap.get?_update_other _ _ fun z => ?_).trans e) fun h' e up ⟨o', g', c'⟩ =>
    wpAny_bind (wpAny_isInstance (T := "StopIteration") (b := true) ⟨o', g', c'⟩ isSubtype_stop (wpAny_pure (k h' fun b q hb z => up b q ((Heap.get?_update_other _ _ (Ne.symm hb)).trans z))))
  obtain ⟨C, hC⟩ := hq
  rw [← z, ho] at e
  cases e
  rw [hc] at hC
  cases hC
/-- a, b = t -/
theorem unpack_tup {env : Env} {elts : List Expr} {x1} {pos : Pos} {t : Addr} {items : Array Value} {Q : Unit → Shared → Prop} (hh : Hnd A s.heap) (ht : IsTup s.heap t items) (hn : (assignEach elts env).length = items.size) (hstar : (assignEach elts env).findIdx? (·.1) = none)
    (h : ∀ h', Heap.ExtBut s.heap.objs.size s.heap h' → wpAny (model prog w) A (assignInOrder ((assignEach elts env).map (·.2)) items.toList) Q E { s with heap := h' }) : wpAny (model prog w) A (assign (.Tuple elts x1 pos) env (.ref t)) Q E s := by
  have lt : t ≠ s.heap.objs.size := by obtain ⟨o, ho, _⟩ := ht; exact Nat.ne_of_lt (Heap.lt_size ho)
  have all : List.take items.size (List.drop 0 items.toList) = items.toList := by rw [List.drop_zero]; exact List.take_of_length_le (by simp)
  have core : wpAny (model prog w) A (unpackItems (.ref t) items.size none) (fun vs s' => ∃ h', vs = items.toList ∧ s' = { s with heap := h' } ∧ Heap.ExtBut s.heap.objs.size s.heap h') E s := by
    unfold unpackItems
    refine wpAny_bind ?_
    unfold notIterableAtAll
    refine wpAny_bind (wpAny_specialOf ht.typeIs slot_tuple_iter.lookup (wpAny_pure ?_))
    simp only [Bool.false_eq_true, if_false]
    refine wpAny_bind (wpAny_holding (iter_tuple ht (wpAny_bind (wpAny_holding (draw_tuple lt items.size 0 _ _ ⟨_, Heap.get?_push_size _ rfl, rfl, rfl⟩ (ht.push _) (by omega) fun h1 it1 s1 => ?_)))))
    rw [all, if_neg (by simp)]
    have t1 : IsTup h1 t items := (ht.push _).extBut s1.extBut lt
    have up1 : ∀ b o, b ≠ s.heap.objs.size → s.heap.get? b = some o → h1.get? b = some o := fun b o hb e => s1.extBut b o hb (Heap.get?_push_of_some _ e)
    refine wpAny_bind (wpAny_holding (tup_last (s := { s with heap := h1 }) (hh.keeps fun b o _ e => up1 b o (Nat.ne_of_lt (Heap.lt_size e)) e) it1 t1 (by simp) fun h2 e2 => ?_))
    simp only [Option.isSome_none, Bool.false_eq_true, if_false]
    exact wpAny_pure ⟨h2, rfl, rfl, fun b o hb e => e2 b o hb (up1 b o hb e)⟩
  rw [assign_Tuple]
  refine wpAny_bind (wpAny_standAt ?_)
  unfold unpack
  rw [hstar, hn]
  refine wpAny_bind (wpAny_holding (wpAny_mono core (fun vs s' ⟨h', e1, e2, x⟩ => ?_) fun _ _ z => z))
  subst e1 e2
  exact h h' x
end
end L2
set_option Elab.async false
set_option linter.all false
set_option maxRecDepth 100000
set_option maxHeartbeats 4000000
namespace L2
open PySem PySem.Spec PyProof.Rows

/-! ### a, b = t, in any context -/
theorem pg_tupA {X : Cx} {pos : Pos} {es : List Expr} {k : Nat} {t : TGs} {n : Nat} (h : PGs X es t) (hl : (assignEach es X.env).length = n := by rfl) (hst : (assignEach es X.env).findIdx? (·.1) = none := by rfl) : PG X (.Tuple es k pos) (gTup X.K n t) := by
  intro pins s σ H v u Q I r q
  obtain ⟨a, xs, rfl, hx, hn, q⟩ := q
  obtain rfl : u = Value.ref a := r
  obtain ⟨its, rv, ht, hz⟩ := I.tuple hx
  refine unpack_tup I.hnd ht (by rw [hl, ← hn, rv.length]; simp) hst fun h' ex => ?_
  have I1 : Inv X pins σ H { s with heap := h' } := I.kept (t' := s.toks) fun b o e => ex b o (Nat.ne_of_lt (Heap.lt_size e)) e
  have := h pins { s with heap := h' } σ H xs its Q I1 rv q
  simpa using this

/-! ### zip of two lists of which the first is not the longer one -/
section
variable {prog : Program} {w : World} {A : Around} {E : Value → Shared → Prop} {s : Shared}
theorem zip_last {z TI TO i1 i2 l1 l2 : Addr} {k1 : Nat} {xs : Array Value} {a b : Value} {Q : Option Value → Shared → Prop} (hh : Hnd A s.heap) (D : ZipApart z TI TO i1 i2 l1 l2) (hz : IsZip s.heap z TI TO .none) (hTI : IsPair s.heap TI (.ref i1) (.ref i2)) (hTO : IsPair s.heap TO a b)
    (h1 : s.heap.IsListIter i1 l1 k1) (hl1 : s.heap.IsList l1 xs) (hx : xs[k1]? = none)
    (k : ∀ h', (∀ c o, c ≠ z → c ≠ i1 → s.heap.get? c = some o → h'.get? c = some o) → Q none { s with heap := h' }) : wpAny (model prog w) A (pyNext (.ref z)) Q E s := by
  have hT : s.TypeIs (.ref z) "zip" := ⟨_, hz, rfl⟩
  have core : ∀ (Q' : Fin → Shared → Prop) (E' : Value → Shared → Prop), (∀ h' e, (∀ c o, c ≠ z → c ≠ i1 → s.heap.get? c = some o → h'.get? c = some o) → (∃ o, h'.get? e = some o ∧ o.cls = .type "StopIteration") → E' (.ref e) { s with heap := h' }) →
      wpAny (model prog w) A.in1 (Builtin.«zip.__next__» ⟨[.ref z], []⟩) Q' E' s := by
    intro Q' E' kE
    refine wpAny_bind (m := field (.ref z) 2) (wpAny_field hz rfl (x := .bool false) rfl (wpAny_bind (m := field (.ref z) 3) (wpAny_field hz rfl (x := .ref TI) rfl (wpAny_bind (wpAny_seqItems hTI rfl (wpAny_bind (m := Builtin.SmallTypes.ownedTupleIsFree (.ref z)) ?_))))))
    unfold Builtin.SmallTypes.ownedTupleIsFree
    refine wpAny_bind (wpAny_field hz rfl (x := .none) rfl (wpAny_pure ?_))
    simp only [if_true]
    refine wpAny_bind (wpAny_rule (wpAny_bind (wpAny_field hz rfl (x := .ref TO) rfl (wpAny_bind (wpAny_setField_rec hz (by simp) fun g1 z1 s1 => ?_)))))
    refine wpAny_bind ?_
    simp only [List.zipIdx_cons, List.zipIdx_nil, List.forIn_cons, List.forIn_nil]
    refine wpAny_bind (wpAny_bind (wpAny_onRaise (wpAny_bind (m := Builtin.SmallTypes.nextOf (.ref i1)) ?_)))
    have hh1 : Hnd A.in1 g1 := Hnd.keeps (h := s.heap) hh fun c o ⟨C, hC⟩ e => s1.extBut c o (fun q => by rw [q, hz] at e; cases e; cases hC) e
    refine list_last (s := { s with heap := g1 }) hh1 (h1.extBut s1.extBut D.i1z) (hl1.extBut s1.extBut D.l1z) hx fun g2 e s2 st => ?_
    obtain ⟨oe, ge, ce⟩ := st
    have z2 : IsZip g2 z TI TO .ellipsis := s2 _ _ D.i1z.symm z1
    have ez : e ≠ z := fun q => by rw [q, z2] at ge; cases ge; simp at ce
    exact wpAny_setField_rec z2 (by simp) fun g3 _ s3 => kE g3 e (fun c o c1 c2 q => s3.extBut _ _ c1 (s2 _ _ c2 (s1.extBut _ _ c1 q))) ⟨oe, s3.extBut _ _ ez ge, ce⟩
  unfold pyNext
  refine wpAny_bind (wpAny_attempt (wpAny_callSpecial?_slot (name := Str.ofString "__next__") hT F.slot_zip_next (wpAny_call_entry F.slot_zip_next hT F.entry_zip_next (core _ _ fun h' e up st => ?_) (F.args_zip_next_1 _))))
  obtain ⟨o, g, c⟩ := st
  exact wpAny_bind (wpAny_isInstance (T := "StopIteration") (b := true) ⟨o, g, c⟩ isSubtype_stop (wpAny_pure (k h' up)))
end

/-- the pairs of the lists at a, b -/
def Itz (K : PySem.W.Frag) (a b : Addr) : It :=
  ⟨fun i H => ∃ xs ys x y, SqL K H a xs ∧ SqL K H b ys ∧ xs[i]? = some x ∧ ys[i]? = some y, fun i H v H' => ∃ T x y, H T = none ∧ v = .ref T ∧ H' = upd H T (.tup [x, y]) ∧ (∀ xs, SqL K H a xs → xs[i]? = some x) ∧ ∀ ys, SqL K H b ys → ys[i]? = some y,
    fun i H => ∃ xs ys, SqL K H a xs ∧ SqL K H b ys ∧ xs.length ≤ i⟩
structure ZipSt (z TI TO i1 i2 l1 l2 : Addr) (i : Nat) (h : Heap) : Prop where
  z : IsZip h z TI TO .none
  ti : IsPair h TI (.ref i1) (.ref i2)
  to : ∃ a b, IsPair h TO a b
  a : h.IsListIter i1 l1 i
  b : h.IsListIter i2 l2 i
theorem ZipSt.keep {z TI TO i1 i2 l1 l2 : Addr} {i : Nat} {h h' : Heap} (x : ZipSt z TI TO i1 i2 l1 l2 i h) (k : ∀ b ∈ [z, TI, TO, i1, i2], ∀ o, h.get? b = some o → h'.get? b = some o) : ZipSt z TI TO i1 i2 l1 l2 i h' := by
  obtain ⟨a1, a2, ⟨u, v, a3⟩, a4, a5⟩ := x
  exact ⟨k _ (by simp) _ a1, k _ (by simp) _ a2, ⟨u, v, k _ (by simp) _ a3⟩, a4.at fun o e => k _ (by simp) o e, a5.at fun o e => k _ (by simp) o e⟩
theorem turn_zip {P : Program} {w : World} {K : PySem.W.Frag} {elts : List Expr} {kk : Nat} {tp : Pos} {l1 l2 z TI TO i1 i2 : Addr} (D : ZipApart z TI TO i1 i2 l1 l2) :
    Turn false P w K (.Tuple elts kk tp) (Itz K l1 l2) [z, TI, TO, i1, i2] z (ZipSt z TI TO i1 i2 l1 l2) where
  mem := by simp
  obj := fun i h st b hb => by
    obtain ⟨a1, a2, ⟨u, v, a3⟩, ⟨o4, a4, _, d4⟩, ⟨o5, a5, _, d5⟩⟩ := st
    simp only [List.mem_cons, List.not_mem_nil, or_false] at hb
    rcases hb with rfl | rfl | rfl | rfl | rfl
    · exact ⟨_, a1, fun v q => nomatch q⟩
    · exact ⟨_, a2, fun v q => nomatch q⟩
    · exact ⟨_, a3, fun v q => nomatch q⟩
    · exact ⟨_, a4, fun v q => by rw [d4] at q; cases q⟩
    · exact ⟨_, a5, fun v q => by rw [d5] at q; cases q⟩
  keep := fun i h h' st k => st.keep k
  item := by
    intro X hP hw hK hc i pins s σ H E I hf st hg
    subst hP hw hK
    obtain ⟨xs, ys, x, y, hq1, hq2, hx, hy⟩ := hg
    obtain ⟨is1, rv1, p1, hz1⟩ := I.list hq1
    obtain ⟨is2, rv2, p2, hz2⟩ := I.list hq2
    obtain ⟨u1, hu1, ru1⟩ := rv1.get hx
    obtain ⟨u2, hu2, ru2⟩ := rv2.get hy
    obtain ⟨a1, a2, ⟨u, v, a3⟩, a4, a5⟩ := st
    refine wpAny_pyNext_zip_item D a1 a2 a3 a4 a5 p1.isList p2.isList (x := u1) (y := u2) (by simpa using hu1) (by simpa using hu2) fun h' b1 b2 b3 b4 b5 b6 b7 => ?_
    refine ⟨_, rfl, wpAny_letOwnedTupleGo_zip (s := { s with heap := h' }) b1 fun h2 c1 c2 => ?_⟩
    have zlt : z < s.heap.objs.size := Heap.lt_size a1
    have nz : s.heap.objs.size ≠ z := Nat.ne_of_gt zlt
    have all : ∀ c o, c ≠ z → c ≠ TO → c ≠ i1 → c ≠ i2 → s.heap.get? c = some o → h2.get? c = some o := fun c o n1 n2 n3 n4 e => c2.extBut c o n1 (b7 c o n1 n2 n3 n4 e)
    have tT : h2.get? s.heap.objs.size = some { cls := .type "tuple", data := .seq #[u1, u2] } := c2.extBut _ _ nz b5
    have hfr : H s.heap.objs.size = none := I.hok.fresh (Nat.le_refl _)
    have hok0 : HOk X.prog X.w H h2 := fun b u e => by
      refine (I.hok b u e).stay (fun c v hc q => ?_) (fun _ q => q) fun _ _ q => q
      have hne : ∀ d ∈ [z, TI, TO, i1, i2], c ≠ d := fun d hd w => by
        have fd := (hf d hd).1
        rcases hc with k | k
        · rw [k] at w; rw [w, fd] at e; cases e
        · rw [w, fd] at k; cases k
      exact all c v (hne z (by simp)) (hne TO (by simp)) (hne i1 (by simp)) (hne i2 (by simp)) q
    have lt0 : ∀ b o, s.heap.get? b = some o → b ≠ s.heap.objs.size := fun b o e => Nat.ne_of_lt (Heap.lt_size e)
    have I2 : Inv X pins σ (upd H s.heap.objs.size (.tup [x, y])) { s with heap := h2 } := by
      refine I.step (g' := s.gens) (d' := s.drawn) (t' := s.toks) (ch := [z, TO, i1, i2]) (fun b hb => ?_) (fun b o _ _ hb e _ => ?_) (fun b o _ _ hb e _ => ?_) (fun b o _ e n => ?_) (fun b o hb e => ?_) (fun b ps e => ?_) (fun b o u e => ?_) (fun b ps e => ?_) (fun m hm => ?_) (hok0.add hfr ?_) I.bare
      · have hb' : b ∈ [z, TI, TO, i1, i2] := by simp only [List.mem_cons, List.not_mem_nil, or_false] at hb ⊢; rcases hb with h | h | h | h <;> simp [h]
        obtain ⟨f0, f1, f2, f3, f4, f5⟩ := hf b hb'
        exact ⟨f3, f1, f4, f5⟩
      · simp only [List.mem_cons, List.not_mem_nil, or_false, not_or] at hb
        exact all b o hb.1 hb.2.1 hb.2.2.1 hb.2.2.2 e
      · simp only [List.mem_cons, List.not_mem_nil, or_false, not_or] at hb
        exact ⟨o.slots, all b o hb.1 hb.2.1 hb.2.2.1 hb.2.2.2 e⟩
      · rw [upd_ne (lt0 b o e)]; exact n
      · simp only [List.mem_cons, List.not_mem_nil, or_false, not_or] at hb
        exact ⟨o, all b o hb.1 hb.2.1 hb.2.2.1 hb.2.2.2 e⟩
      · rw [upd_ne (ne_of_none e hfr)]; exact e
      · rw [upd_ne (ne_of_none e hfr)]; exact e
      · exact ⟨#[], by rw [upd_ne (ne_of_none e hfr), e]; simp⟩
      · obtain ⟨o, es, ep, ho, r⟩ := hm
        exact ⟨o, es, ep, all _ o (Ne.symm (hf z (by simp)).2.1) (Ne.symm (hf TO (by simp)).2.1) (Ne.symm (hf i1 (by simp)).2.1) (Ne.symm (hf i2 (by simp)).2.1) ho, r⟩
      · exact ⟨by show 2 ≤ sizeLine; decide, [u1, u2], .cons ru1 (.cons ru2 .nil), ⟨_, tT, rfl, _, rfl⟩⟩
    refine ⟨.ref s.heap.objs.size, _, I2, rfl, ⟨_, x, y, hfr, rfl, rfl, fun zs hz => by rw [I.list_inj hz hq1]; exact hx, fun zs hz => by rw [I.list_inj hz hq2]; exact hy⟩, ?_, fun b hb => ?_⟩
    · exact ⟨c1, c2.extBut _ _ D.TIz (b7 _ _ D.TIz D.TITO D.TIi1 D.TIi2 a2), ⟨u1, u2, c2.extBut _ _ D.TOz b2⟩, b3.extBut c2.extBut D.i1z, b4.extBut c2.extBut D.i2z⟩
    · have ne : b ≠ s.heap.objs.size := fun q => by
        have : b < s.heap.objs.size := by
          simp only [List.mem_cons, List.not_mem_nil, or_false] at hb
          obtain ⟨o4, a4, _⟩ := a4
          obtain ⟨o5, a5, _⟩ := a5
          rcases hb with rfl | rfl | rfl | rfl | rfl
          · exact zlt
          · exact Heap.lt_size a2
          · exact Heap.lt_size a3
          · exact Heap.lt_size a4
          · exact Heap.lt_size a5
        exact absurd (q ▸ this) (Nat.lt_irrefl _)
      rw [upd_ne ne]
      exact (hf b hb).1
  done := by
    intro X hP hw hK hc i pins s σ H E I hf st hg
    subst hP hw hK
    obtain ⟨xs, ys, hq1, hq2, hx⟩ := hg
    obtain ⟨is1, rv1, p1, hz1⟩ := I.list hq1
    have hl := rv1.length
    obtain ⟨a1, a2, ⟨u, v, a3⟩, a4, a5⟩ := st
    refine zip_last I.hnd D a1 a2 a3 a4 p1.isList (by simp; omega) fun h' up => ⟨rfl, ?_⟩
    refine I.step (g' := s.gens) (d' := s.drawn) (t' := s.toks) (ch := [z, i1]) (fun b hb => ?_) (fun b o _ _ hb e _ => ?_) (fun b o _ _ hb e _ => ?_) (fun _ _ _ _ n => n) (fun b o hb e => ?_) (fun _ _ e => e) (fun _ _ _ e => e) (fun b ps e => ⟨#[], by rw [e]; simp⟩) (fun m hm => ?_) (fun b u e => ?_) I.bare
    · have hb' : b ∈ [z, TI, TO, i1, i2] := by simp only [List.mem_cons, List.not_mem_nil, or_false] at hb ⊢; rcases hb with h | h <;> simp [h]
      obtain ⟨f0, f1, f2, f3, f4, f5⟩ := hf b hb'
      exact ⟨f3, f1, f4, f5⟩
    · simp only [List.mem_cons, List.not_mem_nil, or_false, not_or] at hb
      exact up b o hb.1 hb.2 e
    · simp only [List.mem_cons, List.not_mem_nil, or_false, not_or] at hb
      exact ⟨o.slots, up b o hb.1 hb.2 e⟩
    · simp only [List.mem_cons, List.not_mem_nil, or_false, not_or] at hb
      exact ⟨o, up b o hb.1 hb.2 e⟩
    · obtain ⟨o, es, ep, ho, r⟩ := hm
      exact ⟨o, es, ep, up _ o (Ne.symm (hf z (by simp)).2.1) (Ne.symm (hf i1 (by simp)).2.1) ho, r⟩
    · refine (I.hok b u e).stay (fun c v hc q => ?_) (fun _ q => q) fun _ _ q => q
      have hne : ∀ d ∈ [z, TI, TO, i1, i2], c ≠ d := fun d hd w => by
        have fd := (hf d hd).1
        rcases hc with k | k
        · rw [k] at w; rw [w, fd] at e; cases e
        · rw [w, fd] at k; cases k
      exact up c v (hne z (by simp)) (hne i1 (by simp)) q
  self := fun _ _ _ _ _ st h => wpAny_pyIter_zip st.z h
end L2
set_option Elab.async false
set_option linter.all false
set_option maxRecDepth 100000
set_option maxHeartbeats 4000000
namespace L2
open PySem PySem.Spec PyProof.Rows

/-! ### == and != of two lists of flat things -/
def eqL (xs ys : List V) : Bool := xs.length == ys.length && (List.range xs.length).all fun i => eqV (xs.getD i .non) (ys.getD i .non)
theorem eqL_self : ∀ {xs : List V}, xs.all flatV = true → (∀ x ∈ xs, ∀ b, x ≠ .byt b) → eqL xs xs = true := by
  intro xs h _
  unfold eqL
  rw [beq_self_eq_true, Bool.true_and, List.all_eq_true]
  intro i hi
  have hlt := List.mem_range.mp hi
  have hm : xs[i] ∈ xs := List.getElem_mem hlt
  have := List.all_eq_true.mp h _ hm
  rw [List.getD_eq_getElem?_getD, List.getElem?_eq_getElem hlt, Option.getD_some]
  cases e : xs[i] with
  | non => rfl
  | bl b => simp [eqV]
  | int j => simp [eqV]
  | str x => simp [eqV]
  | _ => rw [e] at this; cases this
section
variable {X : Cx}
def rEqL (K : PySem.W.Frag) (neg : Bool) : R2 := fun x y H Q => ∃ a b xs ys, x = .ref a ∧ y = .ref b ∧ SqL K H a xs ∧ SqL K H b ys ∧ xs.all flatV = true ∧ ys.all flatV = true ∧ Q (.bl (if neg then !eqL xs ys else eqL xs ys)) H
theorem lists_at {pins : List (Addr × Obj)} {σ : St} {H : Hp} {s : Shared} {a b : Addr} {xs ys : List V} (I : Inv X pins σ H s) (ha : SqL X.K H a xs) (hb : SqL X.K H b ys) (fx : xs.all flatV = true) (fy : ys.all flatV = true) :
    ∃ is js : List Value, s.heap.IsList a is.toArray ∧ s.heap.IsList b js.toArray ∧ xs.length = is.length ∧ ys.length = js.length ∧ ∀ (A : Around) (j : Nat) (h1 : j < is.toArray.size) (h2 : j < js.toArray.size), SeqAt.EqAt A s is.toArray[j] js.toArray[j] (eqV (xs.getD j .non) (ys.getD j .non)) := by
  obtain ⟨is, r1, p1, _⟩ := I.list ha
  obtain ⟨js, r2, p2, _⟩ := I.list hb
  refine ⟨is, js, p1.isList, p2.isList, r1.length, r2.length, fun A j h1 h2 => ?_⟩
  have l1 := r1.length
  have l2 := r2.length
  simp only [List.size_toArray] at h1 h2
  have e1 : xs[j]? = some (xs.getD j .non) := by rw [List.getD_eq_getElem?_getD, List.getElem?_eq_getElem (by omega)]; rfl
  have e2 : ys[j]? = some (ys.getD j .non) := by rw [List.getD_eq_getElem?_getD, List.getElem?_eq_getElem (by omega)]; rfl
  obtain ⟨u, g1, q1⟩ := r1.get e1
  obtain ⟨v, g2, q2⟩ := r2.get e2
  rw [List.getElem?_eq_getElem h1] at g1
  rw [List.getElem?_eq_getElem h2] at g2
  have f1 := List.all_eq_true.mp fx _ (List.mem_of_getElem? e1)
  have f2 := List.all_eq_true.mp fy _ (List.mem_of_getElem? e2)
  have z := eqAt_V (A := A) (s := s) q1 q2 f1 f2
  have w1 : is.toArray[j] = u := by simpa using Option.some.inj g1
  have w2 : js.toArray[j] = v := by simpa using Option.some.inj g2
  rw [w1, w2]
  exact z
theorem op_eqL (hu : X.A.units < cLine) : OpR X (compareOp .Eq) (rEqL X.K false) := by
  intro pins s σ H x y v u Q I rx ry h
  obtain ⟨a, b, xs, ys, rfl, rfl, ha, hb, fx, fy, q⟩ := h
  cases rx
  cases ry
  obtain ⟨is, js, p1, p2, l1, l2, eq⟩ := lists_at I ha hb fx fy
  by_cases hz : is.toArray.size = js.toArray.size
  · refine SeqAt.eq_listAt p1 p2 hz hu (fun j h1 h2 => eq _ j h1 h2) ⟨.bl _, H, I, rfl, ?_⟩
    have e : eqL xs ys = (List.range is.toArray.size).all fun j => eqV (xs.getD j .non) (ys.getD j .non) := by
      unfold eqL
      simp only [List.size_toArray] at hz ⊢
      rw [l1, l2, hz]
      simp
    rw [← e]
    exact q
  · refine SeqAt.eq_list_lengthsAt p1 p2 (by simpa using hz) hu ⟨.bl false, H, I, rfl, ?_⟩
    have e : eqL xs ys = false := by
      unfold eqL
      have : (xs.length == ys.length) = false := by simp only [List.size_toArray] at hz; rw [l1, l2]; simpa using hz
      rw [this, Bool.false_and]
    have q' : Q (.bl (eqL xs ys)) H := q
    rw [e] at q'
    exact q'
theorem op_neL (hu : X.A.units < cLine) : OpR X (compareOp .NotEq) (rEqL X.K true) := by
  intro pins s σ H x y v u Q I rx ry h
  obtain ⟨a, b, xs, ys, rfl, rfl, ha, hb, fx, fy, q⟩ := h
  cases rx
  cases ry
  obtain ⟨is, js, p1, p2, l1, l2, eq⟩ := lists_at I ha hb fx fy
  have q' : Q (.bl (!eqL xs ys)) H := q
  by_cases hz : is.toArray.size = js.toArray.size
  · refine SeqAt.RcNeAt.lists p1 p2 hz hu (fun j h1 h2 => eq _ j h1 h2) _ _ _ _ ⟨.bl _, H, I, rfl, ?_⟩
    have e : eqL xs ys = (List.range is.toArray.size).all fun j => eqV (xs.getD j .non) (ys.getD j .non) := by
      unfold eqL
      simp only [List.size_toArray] at hz ⊢
      rw [l1, l2, hz]
      simp
    rw [← e]
    exact q'
  · refine SeqAt.RcNeAt.lists_lengths p1 p2 (by simpa using hz) hu _ _ _ _ ⟨.bl true, H, I, rfl, ?_⟩
    have e : eqL xs ys = false := by
      unfold eqL
      have : (xs.length == ys.length) = false := by simp only [List.size_toArray] at hz; rw [l1, l2]; simpa using hz
      rw [this, Bool.false_and]
    rw [e] at q'
    exact q'

/-! ### repr of a display -/
mutual
inductive DatV (H : Hp) : V → PyData → Prop
  | non : DatV H .non .none
  | bl (b : Bool) : DatV H (.bl b) (.bool b)
  | int (i : Int) : DatV H (.int i) (.int i)
  | str (x : Str) : DatV H (.str x) (.str x)
  | lst {a : Addr} {xs : List V} {ds : List PyData} : a ≠ sysModules → H a = some (.lst xs) → DatVs H xs ds → DatV H (.ref a) (.list ds)
  | tup {a : Addr} {xs : List V} {ds : List PyData} : H a = some (.tup xs) → DatVs H xs ds → DatV H (.ref a) (.tuple ds)
  | dic {a : Addr} : H a = some (.dK []) → DatV H (.ref a) (.dict [])
inductive DatVs (H : Hp) : List V → List PyData → Prop
  | nil : DatVs H [] []
  | cons {x : V} {xs : List V} {d : PyData} {ds : List PyData} : DatV H x d → DatVs H xs ds → DatVs H (x :: xs) (d :: ds)
end
mutual
theorem DatV.reads {pins : List (Addr × Obj)} {σ : St} {H : Hp} {s : Shared} (I : Inv X pins σ H s) : ∀ {x : V} {d : PyData} {u : Value}, DatV H x d → RelV x u → ∃ as, Reads s.heap u d as ∧ sysModules ∉ as
  | _, _, u, .non, r => ⟨[], by cases (show u = Value.none from r); exact .none, by simp⟩
  | _, _, u, .bl b, r => ⟨[], by cases (show u = Value.bool b from r); exact .bool b, by simp⟩
  | _, _, u, .int i, r => ⟨[], by obtain ⟨t, rfl⟩ := r; exact .int i t, by simp⟩
  | _, _, u, .str x, r => ⟨[], by obtain ⟨t, rfl⟩ := r; exact .str x t, by simp⟩
  | _, _, u, .lst (a := a) na h ds, r => by
    obtain rfl : u = Value.ref a := r
    obtain ⟨z, its, n, rv, e⟩ := I.hok a _ h
    obtain ⟨as, q, hn⟩ := DatVs.reads I ds rv
    refine ⟨a :: as, .list e rfl rfl q, fun w => ?_⟩
    rcases List.mem_cons.mp w with w | w
    · exact na w.symm
    · exact hn w
  | _, _, u, .tup (a := a) h ds, r => by
    obtain rfl : u = Value.ref a := r
    obtain ⟨z, its, rv, o, e, hc, n, hd⟩ := I.hok a _ h
    obtain ⟨as, q, hn⟩ := DatVs.reads I ds rv
    exact ⟨as, .tuple e hc hd q, hn⟩
  | _, _, u, .dic (a := a) h, r => by
    obtain rfl : u = Value.ref a := r
    obtain ⟨z, hs, vs, kv, o, es, ep, e, ed, ee, er⟩ := I.hok a _ h
    cases kv
    have e0 : es.toList = [] := by
      have w := er.2.1
      generalize es.toList = l at w
      cases w
      rfl
    refine ⟨[a] ++ [], .dict (kvs := []) (as := []) (bs := []) e ed.1 ee (by rw [e0]; exact .nil) (by rw [e0]; exact .nil), fun w => ?_⟩
    have w' : sysModules = a := by simpa using w
    rw [w'] at hs
    simp at hs
theorem DatVs.reads {pins : List (Addr × Obj)} {σ : St} {H : Hp} {s : Shared} (I : Inv X pins σ H s) : ∀ {xs : List V} {ds : List PyData} {us : List Value}, DatVs H xs ds → Vals xs us → ∃ as, ReadsAll s.heap us ds as ∧ sysModules ∉ as
  | _, _, _, .nil, .nil => ⟨[], .nil, by simp⟩
  | _, _, _, .cons d ds, .cons r rs => by
    obtain ⟨as, q, hn⟩ := DatV.reads I d r
    obtain ⟨bs, qs, hm⟩ := DatVs.reads I ds rs
    exact ⟨as ++ bs, .cons q qs, fun w => (List.mem_append.mp w).elim hn hm⟩
end
def rRepr (A : Around) : List V → Hp → VK → Prop := fun xs H Q => ∃ a d, xs = [.ref a] ∧ DatV H (.ref a) d ∧ d.showable = true ∧ A.units + (d.depth + 1) < cLine ∧ d.shown.length ≤ sizeLine ∧ Q (.str d.shown) H
theorem call_repr (hg : X.A.guards = some []) : CallR X (.builtin "repr") (rRepr X.A) := by
  intro pins s σ H xs us Q I r h
  obtain ⟨a, d, rfl, dv, hs, hu, hz, q⟩ := h
  cases r with
  | cons r1 rr =>
    cases rr
    obtain ⟨as, rd, hn⟩ := dv.reads I r1
    rename_i u
    obtain rfl : u = Value.ref a := r1
    exact repr_of_reads' rd hs (fun _ => hn) hg hu (fun _ _ e => e) (fun h' u tk k => ⟨.str d.shown, H, I.kept k, ⟨_, rfl⟩, q⟩) hz
theorem Inv.big {pins : List (Addr × Obj)} {σ : St} {H : Hp} {s : Shared} (I : Inv X pins σ H s) : sysModules < s.heap.objs.size := by
  have h : mainGlobals < s.heap.objs.size := (I.mod.glob.keeps I.bk).lt
  exact Nat.lt_trans (by decide) h
def tDNew : TE := fun _ H Q => ∀ p, H p = none → Q (.ref p) (upd H p (.dK []))
theorem pe_dnew {pos : Pos} : PE X (.Dict [] [] pos) tDNew := fun pins s σ H Q I h =>
  wpAny_Dict_empty ⟨.ref s.heap.objs.size, _, I.laid (a := s.heap.objs.size) (o := .dK []) (t' := s.toks) (fun _ _ q => Heap.get?_push_of_some _ q) (Nat.le_refl _) ⟨Nat.zero_le _, beq_eq_false_iff_ne.mpr (Ne.symm (Nat.ne_of_lt I.big)), [], .nil, Heap.DictOf.new s.heap⟩, rfl, h _ (I.hok.fresh (Nat.le_refl _))⟩
/-! ### a, b = xs (a list), where nothing is handled -/
def gLst (K : PySem.W.Frag) (n : Nat) (t : TGs) : TG := fun v σ H Q => ∃ a xs, v = .ref a ∧ SqL K H a xs ∧ xs.length = n ∧ t xs σ H Q
theorem pg_lst {pos : Pos} {es : List Expr} {k : Nat} {t : TGs} {n : Nat} (hc : X.calm = true) (h : PGs X es t) (hl : (assignEach es X.env).length = n := by rfl) (hst : (assignEach es X.env).findIdx? (·.1) = none := by rfl) : PG X (.Tuple es k pos) (gLst X.K n t) := by
  intro pins s σ H v u Q I r q
  obtain ⟨a, xs, rfl, hx, hn, q⟩ := q
  obtain rfl : u = Value.ref a := r
  obtain ⟨its, rv, hp, hz⟩ := I.list hx
  rw [assign_Tuple]
  refine wpAny_bind (wpAny_standAt ?_)
  unfold unpack
  have hs : n = its.toArray.size := by rw [← hn, rv.length]; simp
  rw [hl, hst, hs]
  refine wpAny_bind (wpAny_holding (PySem.W.kun_itemsOf (I.ok.hd hc) hp.isList fun h' ex => ?_))
  have I1 : Inv X pins σ H { s with heap := h' } := I.kept (t' := s.toks) fun b o e => ex b o (Nat.ne_of_lt (Heap.lt_size e)) e
  have := h pins { s with heap := h' } σ H xs its Q I1 rv q
  simpa using this
/-! ### for a, b in zip(xs, ys) -/
def iZip (K : PySem.W.Frag) (ta : TA) : TI := fun σ H R => ta σ H fun vs H1 => ∃ a b, vs = [.ref a, .ref b] ∧ (∃ xs, SqL K H1 a xs) ∧ (∃ ys, SqL K H1 b ys) ∧ R (Itz K a b) H1
theorem pi_zip {elts : List Expr} {kk : Nat} {tp p pos : Pos} {a b : Expr} {ta : TA} (hg : Gl X "zip") (hm : X.mg "zip" = none) (ha : PA X [a, b] ta) (hs : starEach [a, b] X.env = [(false, eval a X.env), (false, eval b X.env)] := by rfl) (hs2 : starEach [b] X.env = [(false, eval b X.env)] := by rfl) :
    PIc false X (.Tuple elts kk tp) (.Call (.Name "zip" p) [a, b] [] pos) (iZip X.K ta) := by
  intro pins s σ H R I h
  refine Call_ (ld_blt I hg hm boot_zip (PyProof.Rows.callWith_type1 (thn (ha pos pins s σ H _ I h) fun us s1 ⟨vs, H1, I1, r1, q1⟩ => ?_) (by rw [hs, hs2]) (by rw [hs2]; rfl)))
  obtain ⟨l1, l2, e, ⟨xs, h1⟩, ⟨ys, h2⟩, q⟩ := q1
  subst e
  cases r1 with
  | cons r rr =>
    cases rr with
    | cons r' rr =>
      cases rr
      cases (show _ = Value.ref l1 from r)
      cases (show _ = Value.ref l2 from r')
      obtain ⟨is1, rv1, p1, _⟩ := I1.list h1
      obtain ⟨is2, rv2, p2, _⟩ := I1.list h2
      have lt1 : l1 < s1.heap.objs.size := by obtain ⟨o, e, _⟩ := p1.isList; exact Heap.lt_size e
      have lt2 : l2 < s1.heap.objs.size := by obtain ⟨o, e, _⟩ := p2.isList; exact Heap.lt_size e
      refine call_zip_2 p1.isList p2.isList fun h' a1 a2 a3 a4 a5 a6 a7 => wpAny_pyIter_zip (s := { s1 with heap := h' }) a1 ?_
      refine ⟨_, _, _, _, H1, rfl, I1.kept (t' := s1.toks) a7, turn_zip (zipApart_new lt1 lt2), ⟨a1, a2, ⟨_, _, a3⟩, a4, a5⟩, fun b hb => ?_, q⟩
      have le : s1.heap.objs.size ≤ b := by
        simp only [List.mem_cons, List.not_mem_nil, or_false] at hb
        rcases hb with rfl | rfl | rfl | rfl | rfl <;> omega
      exact I1.fpOk le (I1.hok.fresh le)
end
end L2
set_option Elab.async false
set_option linter.all false
set_option maxRecDepth 100000
set_option maxHeartbeats 4000000
namespace L2
open PySem PySem.Spec PyProof.Rows

theorem Room.mark {c : Bool} {k : Nat} {A : Around} {v : Option Value} (r : Room c k A) : Room false k (A.mark v) := ⟨fun h => (nomatch h), r.dp, r.un, r.gd⟩
/-! ### arguments without a star -/
def plainE : Expr → Bool
  | .Starred _ _ => false
  | _ => true
theorem starEach_plain {e : Expr} {es : List Expr} {env : Env} (h : plainE e = true) : starEach (e :: es) env = (false, eval e env) :: starEach es env := by
  cases e <;> first | rfl | (exact absurd (show false = true from h) Bool.false_ne_true)
def plainEs (es : List Expr) : Bool := es.all plainE
theorem starEach_any {env : Env} : ∀ {es : List Expr} (h : plainEs es = true), (starEach es env).any (·.1) = false
  | [], _ => rfl
  | e :: es, h => by
    unfold plainEs at h
    rw [List.all_cons, Bool.and_eq_true] at h
    rw [starEach_plain h.1, List.any_cons, starEach_any h.2]
    rfl
theorem backTo_any {pos : Pos} {env : Env} {es : List Expr} (h : plainEs es = true) : (backTo pos (starEach es env)).any (·.1) = false := by
  have q := starEach_any (env := env) h
  unfold backTo
  rw [List.any_map]
  exact q
theorem star1 {e : Expr} {env : Env} (h : plainE e = true) : starEach [e] env = [(false, eval e env)] := (starEach_plain h).trans rfl
theorem star2 {e e' : Expr} {env : Env} (h : plainE e = true) (h' : plainE e' = true) : starEach [e, e'] env = [(false, eval e env), (false, eval e' env)] := by rw [starEach_plain h, star1 h']
section
variable {X : Cx}
theorem pa_p {e : Expr} {es : List Expr} {te : TE} {t : TA} (ha : PE X e te) (hr : PA X es t) (hp : plainE e = true := by rfl) : PA X (e :: es) (tCons te t) := pa_cons ha hr (starEach_plain hp)
theorem pe_callBp {id : String} {r : List V → Hp → VK → Prop} {x : Str} {e : Expr} {es : List Expr} {t : TA} {p pos : Pos} (hc : CallR X (.builtin id) r) (hg : Gl X x) (hm : X.mg x = none) (hv : bootBuiltins x = some (.builtin id)) (ha : PA X (e :: es) t) (hp : plainE e = true := by rfl) (hps : plainEs es = true := by rfl) (hn : x ≠ "__name__" := by decide) (hdb : (x == ("__debug__" : Str)) = false := by decide) : PE X (.Call (.Name x p) (e :: es) [] pos) (tCB r t) :=
  pe_callB hc hg hm hv ha hn hdb (starEach_plain hp) (backTo_any hps)
theorem pe_callTyp {T : String} {r : List V → Hp → VK → Prop} {x : Str} {e : Expr} {es : List Expr} {t : TA} {p pos : Pos} (hc : CallR X (.type T) r) (hg : Gl X x) (hm : X.mg x = none) (hv : bootBuiltins x = some (.type T)) (ha : PA X (e :: es) t) (hp : plainE e = true := by rfl) (hps : plainEs es = true := by rfl) (hn : x ≠ "__name__" := by decide) (hdb : (x == ("__debug__" : Str)) = false := by decide) : PE X (.Call (.Name x p) (e :: es) [] pos) (tCB r t) :=
  pe_callTy hc hg hm hv ha hn hdb (starEach_plain hp) (backTo_any hps)
theorem pi_range1p {tg a : Expr} {ta : TA} {p pos : Pos} (hg : Gl X "range") (hm : X.mg "range" = none) (ha : PA X [a] ta) (hp : plainE a = true := by rfl) : PIc true X tg (.Call (.Name "range" p) [a] [] pos) (iRng1 ta) := pi_range1 hg hm ha (star1 hp)
theorem pi_zipp {elts : List Expr} {kk : Nat} {tp p pos : Pos} {a b : Expr} {ta : TA} (hg : Gl X "zip") (hm : X.mg "zip" = none) (ha : PA X [a, b] ta) (hp : plainE a = true := by rfl) (hp' : plainE b = true := by rfl) : PIc false X (.Tuple elts kk tp) (.Call (.Name "zip" p) [a, b] [] pos) (iZip X.K ta) := pi_zip hg hm ha (star2 hp hp') (star1 hp')
theorem ps_raisep {Ex : Addr → St → Hp → Prop} {C : Addr} {x : Str} {np cpos pos : Pos} {e : Expr} {es : List Expr} {t : TA} (hc : X.calm = true) (T : Throws X Ex) (O : ErrK X.K C) (hg : Gl X x) (hm : X.mg x = some (.ref C)) (ha : PA X (e :: es) t) (hp : plainE e = true := by rfl) (hps : plainEs es = true := by rfl)
    (hdb : (x == ("__debug__" : Str)) = false := by decide) : PS X (.Raise (some (.Call (.Name x np) (e :: es) [] cpos)) none pos) (tRaise C Ex t) := ps_raise hc T O hg hm ha hdb (starEach_plain hp) (backTo_any hps)
end
/-! ### a new object -/
structure New (H : Hp) (p : Addr) (o : HO) (H' : Hp) : Prop where
  no : H p = none
  at_ : H' p = some o
  same : Same H H'
theorem New.mk' {H : Hp} {p : Addr} {o : HO} (h : H p = none) : New H p o (upd H p o) := ⟨h, upd_same, fun b u e => by rw [upd_ne (ne_of_none e h)]; exact e⟩
section
variable {X : Cx}
def tLstA (t : TA) : TE := fun σ H Q => t σ H fun xs H1 => xs.length ≤ sizeLine ∧ ∀ p H2, New H1 p (.lst xs) H2 → p ≠ sysModules → Q (.ref p) H2
theorem pe_lstA {es : List Expr} {t : TA} {pos : Pos} (h : PA X es t) : PE X (.List es pos) (tLstA t) := by
  intro pins s σ H Q I hq
  refine wpAny_List_spliced (thn (h pos pins s σ H _ I hq) fun us s1 ⟨xs, H1, I1, r, z, q⟩ => ⟨by rw [← r.length]; exact z, ?_⟩)
  have hf : H1 s1.heap.objs.size = none := I1.hok.fresh (Nat.le_refl _)
  refine ⟨.ref s1.heap.objs.size, upd H1 s1.heap.objs.size (.lst xs), I1.laid (t' := s1.toks) (fun b u e => Heap.get?_push_of_some _ e) (Nat.le_refl _) ?_, rfl, q _ _ (.mk' hf) (Nat.ne_of_gt I1.big)⟩
  exact ⟨z, us, 0, r, Heap.get?_push_size _ rfl⟩
def tTupA (t : TA) : TE := fun σ H Q => t σ H fun xs H1 => xs.length ≤ sizeLine ∧ ∀ p H2, New H1 p (.tup xs) H2 → Q (.ref p) H2
theorem thenA {es : List Expr} {t : TA} {R R' : List V → Hp → Prop} (hw : ∀ xs H, R xs H → R' xs H) (h : PA X es t) (pos : Pos) (pins : List (Addr × Obj)) (s : Shared) (σ : St) (H : Hp) (I : Inv X pins σ H s) (q : t σ H R) :
    wpAny (model X.prog X.w) X.A (spliced (backTo pos (starEach es X.env))) (AP X pins σ R') X.xe s :=
  thn (h pos pins s σ H R I q) fun _ _ ⟨vs, H', a, b, c⟩ => ⟨vs, H', a, b, hw _ _ c⟩
theorem pe_tupA {es : List Expr} {t : TA} {x1} {pos : Pos} (h : PA X es t) : PE X (.Tuple es x1 pos) (tTupA t) := by
  have h' : PA X es (fun σ H Q => ∃ R : List V → Hp → Prop, t σ H R ∧ ∀ xs H, R xs H → Q xs H) := fun pos pins s σ H Q I ⟨R, q, hw⟩ => thenA hw h pos pins s σ H I q
  intro pins s σ H Q I hq
  exact pe_tup h' pins s σ H Q I ⟨_, hq, fun xs H1 ⟨z, q⟩ => ⟨z, fun p hp => q p _ (.mk' hp)⟩⟩
def tDNewA : TE := fun _ H Q => ∀ p H2, New H p (.dK []) H2 → Q (.ref p) H2
theorem pe_dnewA {pos : Pos} : PE X (.Dict [] [] pos) tDNewA := fun pins s σ H Q I h => pe_dnew pins s σ H Q I fun p hp => h p _ (.mk' hp)
end
/-! ### rules that take whatever kind comes: read by simp -/
/-- a value that is an address -/
def uR (v : V) (q : Addr → Prop) : Prop := ∃ a, v = .ref a ∧ q a
/-- xs.append(e) -/
def uApp (to te : TE) : TE := fun σ H Q => to σ H fun x H1 => uR x fun l => (∃ xs, H1 l = some (.lst xs)) ∧ te σ H1 fun y H2 => ∃ xs, H2 l = some (.lst xs) ∧ xs.length < sizeLine ∧ Q .non (upd H2 l (.lst (xs ++ [y])))
section
variable {X : Cx}
theorem OpR.weak {f : Value → Value → Sem Value} {r r' : R2} (h : OpR X f r) (hw : ∀ x y H Q, r' x y H Q → r x y H Q) : OpR X f r' :=
  fun pins s σ H x y v u Q I rx ry q => h pins s σ H x y v u Q I rx ry (hw x y H Q q)
theorem CallR.weak {f : Value} {r r' : List V → Hp → VK → Prop} (h : CallR X f r) (hw : ∀ xs H Q, r' xs H Q → r xs H Q) : CallR X f r' :=
  fun pins s σ H xs us Q I rs q => h pins s σ H xs us Q I rs (hw xs H Q q)
theorem IxR.weak {r r' : R2} (h : IxR X r) (hw : ∀ x y H Q, r' x y H Q → r x y H Q) : IxR X r' :=
  fun value slice pins s σ H x y v u Q I rx ry q hs => h value slice pins s σ H x y v u Q I rx ry (hw x y H Q q) hs

def uAdd : R2 := fun x y H Q => (∃ i j, x = .int i ∧ y = .int j ∧ Q (.int (i + j)) H) ∨ (∃ i j, x = .str i ∧ y = .str j ∧ i.length + j.length ≤ sizeLine ∧ Q (.str (i ++ j)) H) ∨
  (∃ l b xs zs, x = .ref l ∧ y = .ref b ∧ H l = some (.lst xs) ∧ H b = some (.lst zs) ∧ xs.length + zs.length ≤ sizeLine ∧ ∀ p H2, New H p (.lst (xs ++ zs)) H2 → Q (.ref p) H2)
theorem op_addU : OpR X (binaryOp .Add) uAdd := op_add.or (op_add_str.or (op_cat.weak fun x y H Q h => by
  obtain ⟨l, b, xs, zs, e1, e2, h1, h2, h3, h4⟩ := h
  exact ⟨l, b, xs, zs, e1, e2, h1, h2, h3, fun p hp => h4 p _ (.mk' hp)⟩))
def uMul : R2 := fun x y H Q => (∃ i j, x = .int i ∧ y = .int j ∧ CMul i j ∧ Q (.int (i * j)) H) ∨
  (∃ l k xs, x = .ref l ∧ y = .int k ∧ H l = some (.lst xs) ∧ -(2 ^ 63) ≤ k ∧ k < 2 ^ 63 ∧ xs.length * k.toNat ≤ sizeLine ∧ ∀ p H2, New H p (.lst (List.replicate k.toNat xs).flatten) H2 → Q (.ref p) H2)
theorem op_mulU : OpR X (binaryOp .Mult) uMul := op_mul.or (op_rep.weak fun x y H Q h => by
  obtain ⟨l, k, xs, e1, e2, h1, h2, h3, h5, h4⟩ := h
  exact ⟨l, k, xs, e1, e2, h1, h2, h3, h5, fun p hp => h4 p _ (.mk' hp)⟩)
/-- xs[i] -/
def uIx : R2 := fun x y H Q => (∃ p xs i v, x = .ref p ∧ y = .int i ∧ H p = some (.lst xs) ∧ atI xs i = some v ∧ Q v H) ∨
  (∃ p xs i v, x = .ref p ∧ y = .int i ∧ H p = some (.tup xs) ∧ atI xs i = some v ∧ Q v H) ∨ (∃ z i c, x = .str z ∧ y = .int i ∧ z.length ≤ sizeLine ∧ atI z.cps.toList i = some c ∧ Q (.str ⟨#[c]⟩) H)
theorem ix_U : IxR X uIx := ix_seq.weak fun x y H Q h => by
  rcases h with ⟨p, xs, i, v, e1, e2, h, r⟩ | ⟨p, xs, i, v, e1, e2, h, r⟩ | h
  · exact .inl ⟨p, xs, i, v, e1, e2, SqL.of h, r⟩
  · exact .inr (.inl ⟨p, xs, i, v, e1, e2, SqT.of h, r⟩)
  · exact .inr (.inr h)
/-- len -/
def uLen : List V → Hp → VK → Prop := fun xs H Q => (∃ p ys, xs = [.ref p] ∧ H p = some (.lst ys) ∧ Q (.int ys.length) H) ∨ (∃ p ys, xs = [.ref p] ∧ H p = some (.tup ys) ∧ Q (.int ys.length) H) ∨
  (∃ z, xs = [.str z] ∧ z.length ≤ sizeLine ∧ Q (.int z.length) H)
theorem call_lenU : CallR X (.builtin "len") uLen := (call_len_seq.or call_len_str).weak fun xs H Q h => by
  rcases h with ⟨p, ys, e, h, q⟩ | ⟨p, ys, e, h, q⟩ | h
  · exact .inl ⟨p, ys, e, .inl (SqL.of h), q⟩
  · exact .inl ⟨p, ys, e, .inr (SqT.of h), q⟩
  · exact .inr h
def uEq (neg : Bool) : R2 := fun x y H Q => (scal x y = true ∧ Q (.bl (if neg then !decide (x = y) else decide (x = y))) H) ∨
  (∃ a b xs ys, x = .ref a ∧ y = .ref b ∧ H a = some (.lst xs) ∧ H b = some (.lst ys) ∧ xs.all flatV = true ∧ ys.all flatV = true ∧ Q (.bl (if neg then !eqL xs ys else eqL xs ys)) H)
theorem op_eqU (hu : X.A.units < cLine) : OpR X (compareOp .Eq) (uEq false) := (op_eq.or (op_eqL hu)).weak fun x y H Q h => by
  rcases h with h | ⟨a, b, xs, ys, e1, e2, h1, h2, r⟩
  · exact .inl ⟨h.1, by simpa using h.2⟩
  · exact .inr ⟨a, b, xs, ys, e1, e2, SqL.of h1, SqL.of h2, r⟩
theorem op_neU (hu : X.A.units < cLine) : OpR X (compareOp .NotEq) (uEq true) := (op_ne.or (op_neL hu)).weak fun x y H Q h => by
  rcases h with h | ⟨a, b, xs, ys, e1, e2, h1, h2, r⟩
  · exact .inl ⟨h.1, by simpa using h.2⟩
  · exact .inr ⟨a, b, xs, ys, e1, e2, SqL.of h1, SqL.of h2, r⟩
/-- the truth of a value -/
def tTru (K : PySem.W.Frag) (ta : TE) : TT := fun σ H Q => ta σ H fun x H' => ∃ k, TruV K x H' k ∧ Q k H'
theorem pt_tru {a : Expr} {ta : TE} (ha : PE X a ta) (he : ∀ whole, isTrue a X.env whole = (do let v ← whole; standAt a.pos; holding [v] (truthy v)) := by intro _; rfl) : PT X a (tTru X.K ta) := pt_truth ha he
/-- o.f where the class is known -/
def uFld (C : Addr) (ta : TE) (f : Str) : TE := fun σ H Q => ta σ H fun x H1 => ∃ a dx fs v, x = .ref a ∧ H1 a = some (.ins C dx fs) ∧ fs.lookup f = some v ∧ Q v H1
def uSetF (C : Addr) (ta tv : TE) (f : Str) : TS := fun D σ H => tv σ H fun y H1 => ta σ H1 fun x H2 => ∃ a dx fs, x = .ref a ∧ H2 a = some (.ins C dx fs) ∧ fs.length < 1000 ∧ D.nx σ (upd H2 a (.ins C dx (putF f y fs)))
/-- f(..) of the text's own -/
structure GF (P : Program) (w : World) (K : PySem.W.Frag) (mg : Str → Option Value) (base : Heap) (cm : Bool) (k : Nat) (x : Str) (ps : List Str) (sp : Sp) : Prop where
  ex : ∃ (f : Addr) (fd : FuncData), FnOk P w K mg base CX0 cm k f fd ps sp ∧ mg x = some (.ref f) ∧ PySem.W.keepIn K (.ref f) = true ∧ Binds K fd ps []
structure GX (P : Program) (w : World) (K : PySem.W.Frag) (mg : Str → Option Value) (base : Heap) (cm : Bool) (k : Nat) (x : Str) (ps : List Str) (sp : Sp) : Prop where
  ex : ∃ (f : Addr) (fd : FuncData), FnOk P w K mg base (CXW P w) cm k f fd ps sp ∧ mg x = some (.ref f) ∧ PySem.W.keepIn K (.ref f) = true ∧ Binds K fd ps []
variable {cm : Bool} {k j : Nat} {x m : Str} {C : Addr} {ps : List Str} {sp : Sp} {e o : Expr} {es : List Expr} {t : TA} {ta : TE} {p pos apos : Pos} {Ex : Addr → St → Hp → Prop}
theorem pe_g (G : GF X.prog X.w X.K X.mg X.base cm j x ps sp) (hr : Room cm k X.A) (hg : Gl X x) (ha : PA X (e :: es) t) (hj : j ≤ k := by decide) (hdb : (x == ("__debug__" : Str)) = false := by decide) (hp : plainE e = true := by rfl) (hps : plainEs es = true := by rfl) :
    PE X (.Call (.Name x p) (e :: es) [] pos) (tCall sp [] E0 t) := by
  obtain ⟨f, fd, F, hm, hk, hb⟩ := G.ex
  exact pe_call F (hr.mono hj) hg hm hk hb .nil pass0 ha hdb (starEach_plain hp) (backTo_any hps)
theorem pe_gX (T : Throws X Ex) (G : GX X.prog X.w X.K X.mg X.base cm j x ps sp) (hr : Room cm k X.A) (hg : Gl X x) (ha : PA X (e :: es) t) (hj : j ≤ k := by decide) (hdb : (x == ("__debug__" : Str)) = false := by decide) (hp : plainE e = true := by rfl) (hps : plainEs es = true := by rfl) :
    PE X (.Call (.Name x p) (e :: es) [] pos) (tCallX sp [] Ex t) := by
  obtain ⟨f, fd, F, hm, hk, hb⟩ := G.ex
  exact pe_callX T F (hr.mono hj) hg hm hk hb .nil ha hdb (starEach_plain hp) (backTo_any hps)
/-- a new instance, its dict -/
structure NewI (H : Hp) (C x dx : Addr) (H' : Hp) : Prop where
  no : H x = none
  nod : H dx = none
  ne : dx ≠ x
  at_ : H' x = some (.ins C dx [])
  own : H' dx = some (.own x)
  same : Same H H'
theorem NewI.mk' {H : Hp} {C x dx : Addr} (h : H x = none) (hd : H dx = none) (ne : dx ≠ x) : NewI H C x dx (upd (upd H dx (.own x)) x (.ins C dx [])) :=
  ⟨h, hd, ne, upd_same, by rw [upd_ne ne, upd_same], fun b u e => by rw [upd_ne (ne_of_none e h), upd_ne (ne_of_none e hd)]; exact e⟩
def tMakeA (C : Addr) (sp : Sp) (t : TA) : TE := fun σ H Q => t σ H fun vs H1 => ∀ x dx H2, NewI H1 C x dx H2 → sp (.ref x :: vs) H2 (fun v H3 => v = .non ∧ Q (.ref x) H3) E0
def tMakeXA (C : Addr) (sp : Sp) (Ex : Addr → St → Hp → Prop) (t : TA) : TE := fun σ H Q => t σ H fun vs H1 => ∀ x dx H2, NewI H1 C x dx H2 → sp (.ref x :: vs) H2 (fun v H3 => v = .non ∧ Q (.ref x) H3) (XE Ex σ)
theorem PA.any {es : List Expr} {t : TA} (h : PA X es t) : PA X es (fun σ H Q => ∃ R : List V → Hp → Prop, t σ H R ∧ ∀ xs H, R xs H → Q xs H) := fun pos pins s σ H Q I ⟨R, q, hw⟩ => thenA hw h pos pins s σ H I q
/-- a name of the module: a constant, a class -/
theorem pe_gv {v : V} {pos : Pos} (hg : Gl X x) (hm : ∃ u, X.mg x = some u ∧ RelV v u) (hd : (x == ("__debug__" : Str)) = false := by decide) : PE X (.Name x pos) (tC v) := by
  obtain ⟨u, hm, r⟩ := hm
  exact pe_glob hg hm r hd
/-- xs.append(e), whatever xs is -/
theorem pe_append {o e : Expr} {to te : TE} {apos cpos : Pos} (ho : PE X o to) (he : PE X e te)
    (hbase : attributeBase o "append" X.env (eval o X.env) = eval o X.env := by rfl)
    (hline : (apos.endLine == cpos.line) = true := by rfl) (hp : plainE e = true := by rfl) : PE X (.Call (.Attribute o "append" apos) [e] [] cpos) (uApp to te) := by
  intro pins s σ H Q I h
  have hs : starEach [e] X.env = [(false, eval e X.env)] := star1 hp
  refine wpAny_Call_method_late hbase (by rw [hs]; rfl) hline rfl (thn (ho pins s σ H _ I h) fun v s1 ⟨x, H1, I1, r1, l, ex, ⟨xs, hx⟩, q1⟩ => ?_)
  subst ex
  obtain ⟨h1, h2⟩ := tyV_is (T := "list") I1 r1 (.inl ⟨rfl, xs, SqL.of hx⟩)
  refine ⟨"list", "list.append", PySem.F.plainAttrs_list, PySem.F.slot_list_append, PySem.F.type_list_append, h1, h2, ?_⟩
  rw [hs]
  refine Calls.callWith_builtin rfl (Calls.evalArgs_plain ?_)
  have hA := pa_cons he pa_nil (hs := hs) cpos pins s1 σ H1 (fun ys H2 => match ys with | [y] => ∃ xs, H2 l = some (.lst xs) ∧ xs.length < sizeLine ∧ Q .non (upd H2 l (.lst (xs ++ [y]))) | _ => False) I1 q1
  rw [hs] at hA
  refine thn hA fun us s2 ⟨vs, H2, I2, r2, q2⟩ => ?_
  match vs, q2, r2 with
  | [y], ⟨xs2, hx2, hl2, q2⟩, r2 => exact mt_append pins s2 σ H2 (.ref l) [y] v us Q I2 r1 r2 ⟨l, xs2, y, rfl, rfl, hx2, hl2, q2⟩
end
section
variable {X : Cx}
def uInt : List V → Hp → VK → Prop := fun xs H Q => (∃ i, xs = [.int i] ∧ Q (.int i) H) ∨ ∃ k, xs = [.bl k] ∧ Q (.int (if k then 1 else 0)) H
theorem call_intU : CallR X (.type "int") uInt := call_int1
def uStr : List V → Hp → VK → Prop := fun xs H Q => ∃ i, xs = [.int i] ∧ i.natAbs.log2 < 1920 ∧ Q (.str (toString i)) H
theorem call_strU : CallR X (.type "str") uStr := call_str_int
theorem uInt_i {i : Int} {H : Hp} {Q : VK} : uInt [.int i] H Q = Q (.int i) H := by simp [uInt]
theorem uInt_b {k : Bool} {H : Hp} {Q : VK} : uInt [.bl k] H Q = Q (.int (if k then 1 else 0)) H := by simp [uInt]
theorem uStr_i {i : Int} {H : Hp} {Q : VK} : uStr [.int i] H Q = (i.natAbs.log2 < 1920 ∧ Q (.str (toString i)) H) := by simp [uStr]
/-- max, min of two ints -/
def uMax : List V → Hp → VK → Prop := fun xs H Q => ∃ i j, xs = [.int i, .int j] ∧ Q (.int (if j > i then j else i)) H
def uMin : List V → Hp → VK → Prop := fun xs H Q => ∃ i j, xs = [.int i, .int j] ∧ Q (.int (if j < i then j else i)) H
theorem call_maxU (hc : X.calm = true) : CallR X (.builtin "max") uMax := call_max2 hc
theorem call_minU (hc : X.calm = true) : CallR X (.builtin "min") uMin := call_min2 hc
theorem uMax_ii {i j : Int} {H : Hp} {Q : VK} : uMax [.int i, .int j] H Q = Q (.int (if j > i then j else i)) H := by
  apply propext; constructor
  · rintro ⟨a, b, e, q⟩; cases e; exact q
  · exact fun q => ⟨i, j, rfl, q⟩
theorem uMin_ii {i j : Int} {H : Hp} {Q : VK} : uMin [.int i, .int j] H Q = Q (.int (if j < i then j else i)) H := by
  apply propext; constructor
  · rintro ⟨a, b, e, q⟩; cases e; exact q
  · exact fun q => ⟨i, j, rfl, q⟩
end
/-! ### within a comprehension's block -/
section
variable {Y : Cx} {sc : Scope} {N' : List Str} {pins : List (Addr × Obj)} {D : Addr} {fp : List Addr} {s : Shared} {H : Hp}
theorem pt_truL {a : Expr} {ta : TE} (ha : PE (cxLC Y sc N' pins D fp s H) a ta) (he : ∀ whole, isTrue a (cxLC Y sc N' pins D fp s H).env whole = (do let v ← whole; standAt a.pos; holding [v] (truthy v)) := by intro _; rfl) : PT (cxLC Y sc N' pins D fp s H) a (tTru Y.K ta) := pt_tru ha he
theorem pg_tupL {pos : Pos} {es : List Expr} {k : Nat} {t : TGs} {n : Nat} (h : PGs (cxLC Y sc N' pins D fp s H) es t) (hl : (assignEach es (cxLC Y sc N' pins D fp s H).env).length = n := by rfl) (hst : (assignEach es (cxLC Y sc N' pins D fp s H).env).findIdx? (·.1) = none := by rfl) : PG (cxLC Y sc N' pins D fp s H) (.Tuple es k pos) (gTup Y.K n t) := pg_tupA h hl hst
end
theorem gCons_c {t : TG} {u : TGs} {v : V} {r : List V} {σ : St} {H : Hp} {Q : St → Hp → Prop} : gCons t u (v :: r) σ H Q = t v σ H fun σ' H' => u r σ' H' Q := by
  apply propext; constructor
  · rintro ⟨v, r, e, h⟩; cases e; exact h
  · exact fun h => ⟨v, r, rfl, h⟩
theorem gNil_n {σ : St} {H : Hp} {Q : St → Hp → Prop} : gNil [] σ H Q = Q σ H := by
  apply propext; constructor
  · exact fun h => h.2
  · exact fun h => ⟨rfl, h⟩
/-! ### the readings, by what comes -/
section
variable {H : Hp} {Q : VK} {i j : Int} {x y : Str} {a b : Addr} {K : PySem.W.Frag} {g : Int → Int → V} {C : Int → Int → Prop} {k c : Bool} {QB : Bool → Hp → Prop}
theorem uAdd_ii : uAdd (.int i) (.int j) H Q = Q (.int (i + j)) H := by simp [uAdd]
theorem uAdd_ss : uAdd (.str x) (.str y) H Q = (x.length + y.length ≤ sizeLine ∧ Q (.str (x ++ y)) H) := by simp [uAdd]
theorem uAdd_rr : uAdd (.ref a) (.ref b) H Q = ∃ xs zs, H a = some (.lst xs) ∧ H b = some (.lst zs) ∧ xs.length + zs.length ≤ sizeLine ∧ ∀ p H2, New H p (.lst (xs ++ zs)) H2 → Q (.ref p) H2 := by simp [uAdd]
theorem uMul_ii : uMul (.int i) (.int j) H Q = (CMul i j ∧ Q (.int (i * j)) H) := by simp [uMul]
theorem uMul_ri : uMul (.ref a) (.int i) H Q = ∃ xs, H a = some (.lst xs) ∧ -(2 ^ 63) ≤ i ∧ i < 2 ^ 63 ∧ xs.length * i.toNat ≤ sizeLine ∧ ∀ p H2, New H p (.lst (List.replicate i.toNat xs).flatten) H2 → Q (.ref p) H2 := by simp [uMul]
theorem uIx_r : uIx (.ref a) (.int i) H Q = ∃ xs, (H a = some (.lst xs) ∨ H a = some (.tup xs)) ∧ ∃ v, atI xs i = some v ∧ Q v H := by
  apply propext; constructor
  · rintro (⟨p, xs, i, v, e1, e2, h, r⟩ | ⟨p, xs, i, v, e1, e2, h, r⟩ | ⟨z, i, c, e, _⟩)
    · cases e1; cases e2; exact ⟨xs, .inl h, v, r⟩
    · cases e1; cases e2; exact ⟨xs, .inr h, v, r⟩
    · cases e
  · rintro ⟨xs, h | h, v, r⟩
    · exact .inl ⟨_, xs, _, v, rfl, rfl, h, r⟩
    · exact .inr (.inl ⟨_, xs, _, v, rfl, rfl, h, r⟩)
theorem uIx_s : uIx (.str x) (.int i) H Q = (x.length ≤ sizeLine ∧ ∃ c, atI x.cps.toList i = some c ∧ Q (.str ⟨#[c]⟩) H) := by simp [uIx]
theorem uLen_r : uLen [.ref a] H Q = ∃ ys, (H a = some (.lst ys) ∨ H a = some (.tup ys)) ∧ Q (.int ys.length) H := by
  apply propext; constructor
  · rintro (⟨p, xs, e1, h, r⟩ | ⟨p, xs, e1, h, r⟩ | ⟨z, e, _⟩)
    · cases e1; exact ⟨xs, .inl h, r⟩
    · cases e1; exact ⟨xs, .inr h, r⟩
    · cases e
  · rintro ⟨xs, h | h, r⟩
    · exact .inl ⟨_, xs, rfl, h, r⟩
    · exact .inr (.inl ⟨_, xs, rfl, h, r⟩)
theorem uLen_s : uLen [.str x] H Q = (x.length ≤ sizeLine ∧ Q (.int x.length) H) := by simp [uLen]
theorem rI_ii : rI C g (.int i) (.int j) H Q = (C i j ∧ Q (g i j) H) := by simp [rI]
theorem rI0_ii : rI0 g (.int i) (.int j) H Q = Q (g i j) H := by simp [rI0]
theorem rU_i {g : Int → V} : rU g (.int i) H Q = Q (g i) H := by simp [rU]
theorem uEq_ii : uEq c (.int i) (.int j) H Q = Q (.bl (if c then !decide (i = j) else decide (i = j))) H := by simp [uEq, scal]
theorem uEq_ss : uEq c (.str x) (.str y) H Q = Q (.bl (if c then !decide (x = y) else decide (x = y))) H := by simp [uEq, scal]
theorem uEq_bb : uEq c (.bl k) (.bl k') H Q = Q (.bl (if c then !decide (k = k') else decide (k = k'))) H := by simp [uEq, scal]
theorem uEq_rr : uEq c (.ref a) (.ref b) H Q = ∃ xs ys, H a = some (.lst xs) ∧ H b = some (.lst ys) ∧ xs.all flatV = true ∧ ys.all flatV = true ∧ Q (.bl (if c then !eqL xs ys else eqL xs ys)) H := by simp [uEq, scal]
/-- the truth of a value, as a reading -/
def uTru (K : PySem.W.Frag) (v : V) (H : Hp) (Q : Bool → Hp → Prop) : Prop := ∃ k, TruV K v H k ∧ Q k H
theorem uTru_b : uTru K (.bl k) H QB = QB k H := by simp [uTru, TruV]
theorem uTru_n : uTru K .non H QB = QB false H := by simp [uTru, TruV]
theorem uTru_i : uTru K (.int i) H QB = QB (i != 0) H := by simp [uTru, TruV]
theorem tTru_eq {ta : TE} {σ : St} : tTru K ta σ H QB = ta σ H fun x H' => uTru K x H' QB := rfl
/-- a value that is a truth -/
def uB (v : V) (q : Bool → Prop) : Prop := ∃ c, v = .bl c ∧ q c
theorem uB_b {q : Bool → Prop} : uB (.bl k) q = q k := by simp [uB]
theorem tB_eq {t : TE} {σ : St} : tB t σ H QB = t σ H fun x H1 => uB x fun c => QB c H1 := rfl
theorem tTest_eq {t : TE} {σ : St} : tTest t σ H QB = t σ H fun x H1 => uB x fun c => QB c H1 := rfl
theorem tAndV_eq {t u : TE} {σ : St} : tAndV t u σ H Q = t σ H fun x H1 => uB x fun c => if c = true then u σ H1 Q else Q (.bl false) H1 := rfl
theorem tOrV_eq {t u : TE} {σ : St} : tOrV t u σ H Q = t σ H fun x H1 => uB x fun c => if c = true then Q (.bl true) H1 else u σ H1 Q := rfl
theorem tNotV_eq {t : TE} {σ : St} : tNotV t σ H Q = t σ H fun x H1 => uB x fun c => Q (.bl (!c)) H1 := rfl
theorem tChain_eq {r r' : R2} {ta tb tc : TE} {σ : St} : tChain r r' ta tb tc σ H Q = ta σ H fun x H1 => tb σ H1 fun y H2 => r x y H2 fun z H3 => uB z fun k => if k = true then tc σ H3 fun w' H4 => r' y w' H4 Q else Q (.bl false) H3 := rfl
theorem uR_r {q : Addr → Prop} : uR (.ref a) q = q a := by simp [uR]
theorem uFld_eq {C : Addr} {ta : TE} {f : Str} {σ : St} : uFld C ta f σ H Q = ta σ H fun x H1 => uR x fun a => ∃ dx fs v, H1 a = some (.ins C dx fs) ∧ fs.lookup f = some v ∧ Q v H1 := by
  unfold uFld uR
  congr; funext x H1
  apply propext
  constructor
  · rintro ⟨a, dx, fs, v, h1, h2, h3, h4⟩; exact ⟨a, h1, dx, fs, v, h2, h3, h4⟩
  · rintro ⟨a, h1, dx, fs, v, h2, h3, h4⟩; exact ⟨a, dx, fs, v, h1, h2, h3, h4⟩
theorem uSetF_eq {C : Addr} {ta tv : TE} {f : Str} {σ : St} {D : Ends} : uSetF C ta tv f D σ H = tv σ H fun y H1 => ta σ H1 fun x H2 => uR x fun a => ∃ dx fs, H2 a = some (.ins C dx fs) ∧ fs.length < 1000 ∧ D.nx σ (upd H2 a (.ins C dx (putF f y fs))) := by
  unfold uSetF uR
  congr; funext x H1; congr; funext x2 H2
  apply propext
  constructor
  · rintro ⟨a, dx, fs, h1, h2, h3, h4⟩; exact ⟨a, h1, dx, fs, h2, h3, h4⟩
  · rintro ⟨a, h1, dx, fs, h2, h3, h4⟩; exact ⟨a, dx, fs, h1, h2, h3, h4⟩
theorem tMeth_eq {C : Addr} {m : Str} {sp : Sp} {dvs : List V} {E : XK} {ta : TE} {t : TA} {σ : St} : tMeth C m sp dvs E ta t σ H Q = ta σ H fun x H1 => uR x fun a => ∃ dx fs, H1 a = some (.ins C dx fs) ∧ fs.lookup m = none ∧ t σ H1 fun vs H2 => sp (.ref a :: (vs ++ dvs)) H2 Q E := by
  unfold tMeth uR
  congr; funext x H1
  apply propext
  constructor
  · rintro ⟨a, dx, fs, rfl, h2, h3, h4⟩; exact ⟨a, rfl, dx, fs, h2, h3, h4⟩
  · rintro ⟨a, rfl, dx, fs, h2, h3, h4⟩; exact ⟨a, dx, fs, rfl, h2, h3, h4⟩
theorem tMethX_eq {C : Addr} {m : Str} {sp : Sp} {dvs : List V} {Ex : Addr → St → Hp → Prop} {ta : TE} {t : TA} {σ : St} : tMethX C m sp dvs Ex ta t σ H Q = ta σ H fun x H1 => uR x fun a => ∃ dx fs, H1 a = some (.ins C dx fs) ∧ fs.lookup m = none ∧ t σ H1 fun vs H2 => sp (.ref a :: (vs ++ dvs)) H2 Q (XE Ex σ) := by
  unfold tMethX uR
  congr; funext x H1
  apply propext
  constructor
  · rintro ⟨a, dx, fs, rfl, h2, h3, h4⟩; exact ⟨a, rfl, dx, fs, h2, h3, h4⟩
  · rintro ⟨a, rfl, dx, fs, h2, h3, h4⟩; exact ⟨a, dx, fs, rfl, h2, h3, h4⟩
end
/-! ### loops, comprehensions: by what is walked -/
section
variable {K : PySem.W.Frag} {g : TG} {tb : TS} {D : Ends} {σ : St} {H : Hp} {ta : TA} {tl : TE} {wi : TI} {R : It → Hp → Prop} {j : Int} {tt : TT} {te : TE} {ix : List (Option Nat)} {Q : VK}
def ForJ (J : It) (g : TG) (tb : TS) (D : Ends) (σ : St) (H : Hp) : Prop := ∃ W : Nat → Nat → St → Hp → Prop, (∃ m, W 0 m σ H) ∧ ∀ i m σ H, W i m σ H →
  (J.stop i H ∧ D.nx σ H) ∨ (J.go i H ∧ ∃ N : St → Hp → Prop, (∀ σ' H', N σ' H' → ∃ m', m' < m ∧ W (i + 1) m' σ' H') ∧ ∀ x H', J.yld i H x H' → g x σ H' fun σ2 H2 => tb { D with nx := N, ct := N, bk := D.nx } σ2 H2)
theorem tFor_eq : tFor wi g tb D σ H = wi σ H fun J H1 => ForJ J g tb D σ H1 := rfl
def uI1 (vs : List V) (q : Int → Prop) : Prop := ∃ j, vs = [.int j] ∧ q j
theorem uI1_i {q : Int → Prop} : uI1 [.int j] q = q j := by simp [uI1]
theorem iRng1_eq : iRng1 ta σ H R = ta σ H fun vs H1 => uI1 vs fun j => -(2 ^ 62) ≤ j ∧ j < 2 ^ 62 ∧ R (Itr 0 j.toNat) H1 := rfl
theorem iList_eq : iList K tl σ H R = tl σ H fun x H1 => uR x fun a => (∃ xs, SqL K H1 a xs) ∧ R (Itl K a) H1 := rfl
theorem iTup_eq : iTup K tl σ H R = tl σ H fun x H1 => uR x fun a => (∃ xs, SqT K H1 a xs) ∧ R (Itt K a) H1 := rfl
def uR2 (vs : List V) (q : Addr → Addr → Prop) : Prop := ∃ a b, vs = [.ref a, .ref b] ∧ q a b
theorem uR2_r {q : Addr → Addr → Prop} {a b : Addr} : uR2 [.ref a, .ref b] q = q a b := by
  apply propext
  constructor
  · rintro ⟨c, d, e, h⟩; cases e; exact h
  · exact fun h => ⟨a, b, rfl, h⟩
theorem iZip_eq : iZip K ta σ H R = ta σ H fun vs H1 => uR2 vs fun a b => (∃ xs, SqL K H1 a xs) ∧ (∃ ys, SqL K H1 b ys) ∧ R (Itz K a b) H1 := by
  unfold iZip uR2
  rfl
def CompJ (J : It) (g : TG) (tt : TT) (te : TE) (τ : St) (H : Hp) (Q : VK) : Prop := ∃ W : Nat → Nat → St → List V → Hp → Prop, (∃ m, W 0 m τ [] H) ∧ ∀ i m τ ys H2, W i m τ ys H2 → ys.length < sizeLine ∧
  ((J.stop i H2 ∧ ∀ D, H2 D = none → Q (.ref D) (upd H2 D (.lst ys))) ∨
   (J.go i H2 ∧ ∀ x H3, J.yld i H2 x H3 → g x τ H3 fun τ1 H4 => tt τ1 H4 fun ok H5 => if ok = true then te τ1 H5 fun y H6 => ∃ m', m' < m ∧ W (i + 1) m' τ1 (ys ++ [y]) H6 else ∃ m', m' < m ∧ W (i + 1) m' τ1 ys H5))
theorem tLC_eq : tLC ix wi g tt te σ H Q = wi σ H fun J H1 => CompJ J g tt te (pick ix σ) H1 Q := rfl
theorem ForJ.rng {lo : Int} {n : Nat} (Pv : Nat → St → Hp → Prop) (h0 : Pv 0 σ H)
    (hs : ∀ i σ H, i < n → Pv i σ H → g (.int (lo + i)) σ H fun σ2 H2 => tb { D with nx := Pv (i + 1), ct := Pv (i + 1), bk := D.nx } σ2 H2) (hd : ∀ σ H, Pv n σ H → D.nx σ H) : ForJ (Itr lo n) g tb D σ H := for_range Pv h0 hs hd
theorem ForJ.lst {a : Addr} {xs : List V} (Pv : Nat → St → Hp → Prop) (h0 : Pv 0 σ H) (hl : ∀ i σ H, i ≤ xs.length → Pv i σ H → SqL K H a xs)
    (hs : ∀ i x σ H, xs[i]? = some x → Pv i σ H → g x σ H fun σ2 H2 => tb { D with nx := Pv (i + 1), ct := Pv (i + 1), bk := D.nx } σ2 H2) (hd : ∀ σ H, Pv xs.length σ H → D.nx σ H) : ForJ (Itl K a) g tb D σ H := for_list Pv h0 hl hs hd
/-- what a turn of a comprehension is to reach -/
def CompN (N : St → List V → Hp → Prop) (ys : List V) (τ1 : St) (te : TE) (ok : Bool) (H5 : Hp) : Prop := if ok = true then te τ1 H5 fun y H6 => N τ1 (ys ++ [y]) H6 else N τ1 ys H5
theorem CompN_t {N : St → List V → Hp → Prop} {ys : List V} {τ : St} : CompN N ys τ te true H = te τ H fun y H6 => N τ (ys ++ [y]) H6 := rfl
theorem CompN_f {N : St → List V → Hp → Prop} {ys : List V} {τ : St} : CompN N ys τ te false H = N τ ys H := rfl
theorem CompJ.rng {lo : Int} {n : Nat} {τ : St} (Pv : Nat → St → List V → Hp → Prop) (hz : ∀ i τ ys H, Pv i τ ys H → ys.length < sizeLine) (h0 : Pv 0 τ [] H)
    (hs : ∀ (N : St → List V → Hp → Prop) i τ ys H, i < n → Pv i τ ys H → (∀ τ ys H, Pv (i + 1) τ ys H → N τ ys H) → g (.int (lo + i)) τ H fun τ1 H4 => tt τ1 H4 fun ok H5 => CompN N ys τ1 te ok H5) (hd : ∀ τ ys H, Pv n τ ys H → ∀ D H', New H D (.lst ys) H' → Q (.ref D) H') : CompJ (Itr lo n) g tt te τ H Q := by
  refine ⟨fun i m τ ys H => m = n - i ∧ i ≤ n ∧ Pv i τ ys H, ⟨n, by simp, Nat.zero_le _, h0⟩, ?_⟩
  rintro i m τ ys H2 ⟨rfl, hi, p⟩
  refine ⟨hz i τ ys H2 p, ?_⟩
  by_cases hlt : i < n
  · refine .inr ⟨hlt, fun x H' y => ?_⟩
    obtain ⟨e, y⟩ := y
    subst e y
    exact hs (fun τ1 ys H => ∃ m', m' < n - i ∧ m' = n - (i + 1) ∧ i + 1 ≤ n ∧ Pv (i + 1) τ1 ys H) i τ ys _ hlt p fun τ1 zs H q => ⟨n - (i + 1), by omega, rfl, hlt, q⟩
  · have e : i = n := by omega
    subst e
    exact .inl ⟨Nat.le_refl _, fun D hD => hd τ ys H2 p D _ (.mk' hD)⟩
/-- a comprehension over two lists -/
theorem CompJ.zip {a b : Addr} {xs ys : List V} {τ : St} (hlen : xs.length = ys.length) (Pv : Nat → St → List V → Hp → Prop) (hz : ∀ i τ zs H, Pv i τ zs H → zs.length < sizeLine) (ha : ∀ i τ zs H, Pv i τ zs H → SqL K H a xs ∧ SqL K H b ys) (h0 : Pv 0 τ [] H)
    (hs : ∀ (N : St → List V → Hp → Prop) i x y p τ zs H, xs[i]? = some x → ys[i]? = some y → Pv i τ zs H → H p = none → (∀ τ zs H, Pv (i + 1) τ zs H → N τ zs H) → g (.ref p) τ (upd H p (.tup [x, y])) fun τ1 H4 => tt τ1 H4 fun ok H5 => CompN N zs τ1 te ok H5) (hd : ∀ τ zs H, Pv xs.length τ zs H → ∀ D H', New H D (.lst zs) H' → Q (.ref D) H') : CompJ (Itz K a b) g tt te τ H Q := by
  refine ⟨fun i m τ zs H => m = xs.length - i ∧ i ≤ xs.length ∧ Pv i τ zs H, ⟨xs.length, by simp, Nat.zero_le _, h0⟩, ?_⟩
  rintro i m τ zs H2 ⟨rfl, hi, p⟩
  refine ⟨hz i τ zs H2 p, ?_⟩
  obtain ⟨qa, qb⟩ := ha i τ zs H2 p
  by_cases hlt : i < xs.length
  · refine .inr ⟨⟨xs, ys, xs[i], ys[i]'(by omega), qa, qb, List.getElem?_eq_getElem hlt, List.getElem?_eq_getElem _⟩, fun v H' y => ?_⟩
    obtain ⟨T, x, y, hT, rfl, rfl, hx, hy⟩ := y
    exact hs (fun τ1 ys H => ∃ m', m' < xs.length - i ∧ m' = xs.length - (i + 1) ∧ i + 1 ≤ xs.length ∧ Pv (i + 1) τ1 ys H) i x y T τ zs _ (hx _ qa) (hy _ qb) p hT fun τ1 zs H q => ⟨xs.length - (i + 1), by omega, rfl, hlt, q⟩
  · have e : i = xs.length := by omega
    subst e
    exact .inl ⟨⟨xs, ys, qa, qb, Nat.le_refl _⟩, fun D hD => hd τ zs H2 p D _ (.mk' hD)⟩
end
end L2
set_option Elab.async false
set_option linter.all false
set_option maxRecDepth 100000
set_option maxHeartbeats 4000000
namespace L2
open PySem PySem.Spec PyProof.Rows
section
variable {X : Cx}
/-! ### texts: slices, join, repeated -/
def rSlS : V → Option Int → Option Int → Hp → VK → Prop := fun x lo hi H Q => ∃ z, x = .str z ∧ z.length ≤ sizeLine ∧ Q (.str (Txt.slice z lo hi)) H
theorem isSlice_of {h : Heap} {sl : Addr} {vl vu : Value} {lo hi : Option Int} (hs : h.IsSliceOf sl vl vu .none) (pl : IsPart vl lo) (pu : IsPart vu hi) : ∃ l u : Option (Int × Tok), h.IsSlice sl l u none ∧ l.map (·.1) = lo ∧ u.map (·.1) = hi := by
  obtain ⟨o, h1, h2, h3⟩ := hs
  cases pl with
  | none =>
    cases pu with
    | none => exact ⟨none, none, ⟨o, h1, h2, h3⟩, rfl, rfl⟩
    | int j t => exact ⟨none, some (j, t), ⟨o, h1, h2, h3⟩, rfl, rfl⟩
  | int i t' =>
    cases pu with
    | none => exact ⟨some (i, t'), none, ⟨o, h1, h2, h3⟩, rfl, rfl⟩
    | int j t => exact ⟨some (i, t'), some (j, t), ⟨o, h1, h2, h3⟩, rfl, rfl⟩
theorem sl_str : SlR X rSlS := by
  intro pins s σ H x v vl vu lo hi sl Q I rx hs pl pu h
  obtain ⟨z, rfl, hz, q⟩ := h
  obtain ⟨t, rfl⟩ := rx
  obtain ⟨l, u, hS, e1, e2⟩ := isSlice_of hs pl pu
  subst e1 e2
  exact ⟨"str", _, F.slot_str_getitem.lookup, typeIs_str _ _ _, wpAny_getItem_str_slice (l := l) (u := u) (st := none) hS rfl
    (post_val_or_str ⟨Nat.le_trans (Txt.slice_le z _ _) hz, fun t' k => ⟨.str _, H, I.tok k, ⟨_, rfl⟩, q⟩⟩)⟩
def uSl : V → Option Int → Option Int → Hp → VK → Prop := fun x lo hi H Q => (∃ a xs, x = .ref a ∧ H a = some (.lst xs) ∧ ∀ p H2, New H p (.lst (cutV xs lo hi)) H2 → Q (.ref p) H2) ∨ rSlS x lo hi H Q
theorem SlR.weak {r r' : V → Option Int → Option Int → Hp → VK → Prop} (h : SlR X r) (hw : ∀ x l u H Q, r' x l u H Q → r x l u H Q) : SlR X r' :=
  fun pins s σ H x v vl vu lo hi sl Q I rx hs pl pu q => h pins s σ H x v vl vu lo hi sl Q I rx hs pl pu (hw _ _ _ _ _ q)
theorem sl_U : SlR X uSl := ((sl_list (X := X)).or sl_str).weak fun x l u H Q h => by
  rcases h with ⟨a, xs, e, h, q⟩ | h
  · exact .inl ⟨a, xs, e, SqL.of h, fun p hp => q p _ (.mk' hp)⟩
  · exact .inr h
/-- a slice's part as a reading -/
def uPart (v : V) (q : Int → Prop) : Prop := ∃ i, v = .int i ∧ q i
theorem uPart_i {i : Int} {q : Int → Prop} : uPart (.int i) q = q i := by simp [uPart]
theorem tPart_eq {t : TE} {σ : St} {H : Hp} {Q : Option Int → Hp → Prop} : tPart t σ H Q = t σ H fun x H1 => uPart x fun i => Q (some i) H1 := rfl
theorem uSl_s {z : Str} {lo hi : Option Int} {H : Hp} {Q : VK} : uSl (.str z) lo hi H Q = (z.length ≤ sizeLine ∧ Q (.str (Txt.slice z lo hi)) H) := by simp [uSl, rSlS]
theorem uSl_r {a : Addr} {lo hi : Option Int} {H : Hp} {Q : VK} : uSl (.ref a) lo hi H Q = ∃ xs, H a = some (.lst xs) ∧ ∀ p H2, New H p (.lst (cutV xs lo hi)) H2 → Q (.ref p) H2 := by simp [uSl, rSlS]
/-- x.join(list of texts) -/
theorem strsAre_of {ys : List Str} : ∀ {us : List Value}, Vals (ys.map V.str) us → StrsAre us ys := by
  induction ys with
  | nil => intro us r; rw [List.map_nil] at r; cases r; exact .nil
  | cons n ns ih =>
    intro us r
    rw [List.map_cons] at r
    cases r with
    | cons r1 r2 =>
      obtain ⟨t, e⟩ := r1
      subst e
      exact .cons n t (ih r2)
def rJoin : V → List V → Hp → VK → Prop := fun x vs H Q => ∃ z p ys, x = .str z ∧ vs = [.ref p] ∧ H p = some (.lst (ys.map V.str)) ∧ (ys.map (·.length)).sum + ys.length * z.length ≤ 16777216 ∧ Q (.str (Txt.join z ys)) H
theorem mt_join : MtR X "str.join" rJoin := by
  intro pins s σ H x xs v us Q I rx rs h
  obtain ⟨z, p, ys, rfl, rfl, hp, hz, q⟩ := h
  obtain ⟨t, rfl⟩ := rx
  cases rs with
  | cons r1 rr =>
    cases rr
    cases (show _ = Value.ref p from r1)
    obtain ⟨its, r, ht, _⟩ := I.list (SqL.of (K := X.K) hp)
    exact join_list ht.isList (by simpa using strsAre_of r) hz fun t' k => ⟨.str _, H, I.tok k, ⟨_, rfl⟩, q⟩
/-- text * n -/
def repS (z : Str) (n : Nat) : Str := ⟨((List.replicate n z.cps.toList).flatten).toArray⟩
theorem foldl_repN {α : Type} (l : List α) : ∀ (n : Nat) (acc : List α), List.foldl (fun x1 x2 : Array α => x1 ++ x2) acc.toArray (List.replicate n l.toArray) = (acc ++ (List.replicate n l).flatten).toArray
  | 0, acc => by simp
  | n + 1, acc => by
    rw [List.replicate_succ, List.foldl_cons, List.append_toArray, foldl_repN l n (acc ++ l)]
    simp [List.replicate_succ]
theorem repS_eq (z : Str) (n : Nat) : (⟨(List.replicate n z.cps).foldl (· ++ ·) #[]⟩ : Str) = repS z n := by
  have h := foldl_repN z.cps.toList n []
  unfold repS
  congr 1
theorem flat_len {α : Type} (l : List α) : ∀ n : Nat, ((List.replicate n l).flatten).length = l.length * n
  | 0 => by simp
  | n + 1 => by rw [List.replicate_succ, List.flatten_cons, List.length_append, flat_len l n, Nat.mul_succ]; omega
theorem repS_len (z : Str) (n : Nat) : (repS z n).length = z.length * n := by
  show (((List.replicate n z.cps.toList).flatten).toArray).size = _
  rw [List.size_toArray, flat_len]
  rfl
def rRepS : R2 := fun x y H Q => ∃ z n, x = .str z ∧ y = .int n ∧ 1 < n ∧ n < 2 ^ 31 ∧ z.length ≠ 0 ∧ z.length * n.toNat ≤ sizeLine ∧ Q (.str (repS z n.toNat)) H
theorem op_repS : OpR X (binaryOp .Mult) rRepS := by
  intro pins s σ H x y v u Q I rx ry h
  obtain ⟨z, n, rfl, rfl, h1, h2, h3, h4, q⟩ := h
  obtain ⟨t, rfl⟩ := rx
  obtain ⟨t', rfl⟩ := ry
  have hs : sizeLine = 16777216 := sizeLine_eq
  have hc : (n == 1 || z.length == 0) = false := by
    rw [Bool.or_eq_false_iff]
    exact ⟨beq_eq_false_iff_ne.mpr (by omega), beq_eq_false_iff_ne.mpr h3⟩
  have hz : z.length ≤ 16777216 := by
    have : z.length * 1 ≤ z.length * n.toNat := Nat.mul_le_mul_left _ (by omega)
    omega
  refine PySem.P.mul_str ?_ ?_ ?_ ?_
  · rw [decide_eq_false (show ¬ n < -(2 ^ 63 : Int) by omega), decide_eq_false (show ¬ n ≥ 2 ^ 63 by omega)]; rfl
  · intro _ _ hgt
    have : (16777216 : Int) ≤ (2 ^ 63 - 1) / n := Int.le_ediv_of_mul_le (by omega) (by omega)
    omega
  · intro _ _
    exact decide_eq_false (by omega)
  · rw [if_neg (show ¬ n < 1 by omega), if_neg (by rw [hc]; exact Bool.false_ne_true), repS_eq]
    exact ⟨by rw [repS_len]; omega, ⟨.str _, H, I.tok _, ⟨_, rfl⟩, q⟩⟩
/-! ### lists: clear, list(..), items set -/
theorem rSetL_r {p : Addr} {k : Int} {v : V} {H : Hp} {Q : Hp → Prop} : rSetL (.ref p) (.int k) v H Q = ∃ xs j, H p = some (.lst xs) ∧ ixN xs.length k = some j ∧ Q (upd H p (.lst (xs.set j v))) := by
  apply propext; constructor
  · rintro ⟨p', xs, k', j, e1, e2, h⟩; cases e1; cases e2; exact ⟨xs, j, h⟩
  · rintro ⟨xs, j, h⟩; exact ⟨p, xs, k, j, rfl, rfl, h⟩
def uListOf : List V → Hp → VK → Prop := fun xs H Q => ∃ p ys, xs = [.ref p] ∧ (H p = some (.lst ys) ∨ H p = some (.tup ys)) ∧ ∀ l H2, New H l (.lst ys) H2 → Q (.ref l) H2
theorem uListOf_r {a : Addr} {H : Hp} {Q : VK} : uListOf [.ref a] H Q = ∃ ys, (H a = some (.lst ys) ∨ H a = some (.tup ys)) ∧ ∀ l H2, New H l (.lst ys) H2 → Q (.ref l) H2 := by
  apply propext; constructor
  · rintro ⟨p, ys, e, h⟩; cases e; exact ⟨ys, h⟩
  · rintro ⟨ys, h⟩; exact ⟨a, ys, rfl, h⟩
/-- xs.clear() -/
def uClear (to : TE) : TE := fun σ H Q => to σ H fun x H1 => uR x fun l => ∃ xs, H1 l = some (.lst xs) ∧ Q .non (upd H1 l (.lst []))
theorem rJoin_sr {z : Str} {p : Addr} {H : Hp} {Q : VK} : rJoin (.str z) [.ref p] H Q = ∃ ys : List Str, H p = some (.lst (ys.map V.str)) ∧ (ys.map (·.length)).sum + ys.length * z.length ≤ 16777216 ∧ Q (.str (Txt.join z ys)) H := by
  apply propext; constructor
  · rintro ⟨z', p', ys, e1, e2, h⟩; cases e1; cases e2; exact ⟨ys, h⟩
  · rintro ⟨ys, h⟩; exact ⟨z, p, ys, rfl, rfl, h⟩
end
end L2
set_option Elab.async false
set_option linter.all false
set_option maxRecDepth 100000
set_option maxHeartbeats 4000000
namespace L2
open PySem PySem.Spec PyProof.Rows
/-! ### for i, x in enumerate(list) -/
def Ite (K : PySem.W.Frag) (a : Addr) : It :=
  ⟨fun i H => ∃ xs x, SqL K H a xs ∧ xs[i]? = some x, fun i H v H' => ∃ T x, H T = none ∧ v = .ref T ∧ H' = upd H T (.tup [.int i, x]) ∧ ∀ xs, SqL K H a xs → xs[i]? = some x, fun i H => ∃ xs, SqL K H a xs ∧ xs.length ≤ i⟩
section
variable {X : Cx}
def iEnum (K : PySem.W.Frag) (ta : TA) : TI := fun σ H R => ta σ H fun vs H1 => ∃ a, vs = [.ref a] ∧ (∃ xs, SqL K H1 a xs) ∧ R (Ite K a) H1
end
section
variable {K : PySem.W.Frag} {g : TG} {tb : TS} {D : Ends} {σ : St} {H : Hp} {ta : TA} {R : It → Hp → Prop}
def uR1 (vs : List V) (q : Addr → Prop) : Prop := ∃ a, vs = [.ref a] ∧ q a
theorem uR1_r {q : Addr → Prop} {a : Addr} : uR1 [.ref a] q = q a := by
  apply propext; constructor
  · rintro ⟨c, e, h⟩; cases e; exact h
  · exact fun h => ⟨a, rfl, h⟩
theorem iEnum_eq : iEnum K ta σ H R = ta σ H fun vs H1 => uR1 vs fun a => (∃ xs, SqL K H1 a xs) ∧ R (Ite K a) H1 := rfl
end
end L2
set_option Elab.async false
set_option linter.all false
set_option maxRecDepth 100000
set_option maxHeartbeats 4000000
namespace L2
open PySem PySem.Spec PyProof.Rows
section
variable {X : Cx}
/-- o.f op= value where the class is known -/
def uAugF (C : Addr) (ta tv : TE) (rd : V → V → Hp → VK → Prop) (f : Str) : TS := fun D σ H => ta σ H fun x H1 => uR x fun a => ∃ dx fs v, H1 a = some (.ins C dx fs) ∧ fs.lookup f = some v ∧
  tv σ H1 fun y H2 => rd v y H2 fun z H3 => ∃ dx' fs', H3 a = some (.ins C dx' fs') ∧ fs'.length < 1000 ∧ D.nx σ (upd H3 a (.ins C dx' (putF f z fs')))
theorem rAdd_ii {i j : Int} {H : Hp} {Q : VK} : rAdd (.int i) (.int j) H Q = Q (.int (i + j)) H := by simp [rAdd]
theorem rSub_ii {i j : Int} {H : Hp} {Q : VK} : rSub (.int i) (.int j) H Q = Q (.int (i - j)) H := by simp [rSub]
theorem pe_g0 {cm : Bool} {k j : Nat} {x : Str} {ps : List Str} {sp : Sp} {p pos : Pos} (G : GF X.prog X.w X.K X.mg X.base cm j x ps sp) (hr : Room cm k X.A) (hg : Gl X x) (hj : j ≤ k := by decide) (hdb : (x == ("__debug__" : Str)) = false := by decide) : PE X (.Call (.Name x p) [] [] pos) (tCall sp [] E0 tNil) := by
  obtain ⟨f, fd, F, hm, hk, hb⟩ := G.ex
  exact pe_call0 F (hr.mono hj) hg hm hk hb .nil pass0 hdb
/-- is, is not None -/
def uIsN (neg : Bool) : R2 := fun x y H Q => y = .non ∧ Q (.bl (if neg then !decide (x = .non) else decide (x = .non))) H
theorem op_isU : OpR X (compareOp .Is) (uIsN false) := op_isN.weak fun x y H Q h => ⟨h.1, by simpa using h.2⟩
theorem uIsN_n {c : Bool} {H : Hp} {Q : VK} : uIsN c .non .non H Q = Q (.bl (if c then false else true)) H := by simp [uIsN]
theorem uIsN_i {c : Bool} {i : Int} {H : Hp} {Q : VK} : uIsN c (.int i) .non H Q = Q (.bl (if c then true else false)) H := by simp [uIsN]
/-- text * n beside the rest -/
def uMulS : R2 := fun x y H Q => uMul x y H Q ∨ rRepS x y H Q
theorem op_mulS : OpR X (binaryOp .Mult) uMulS := op_mulU.or op_repS
theorem uMulS_ii {i j : Int} {H : Hp} {Q : VK} : uMulS (.int i) (.int j) H Q = (CMul i j ∧ Q (.int (i * j)) H) := by simp [uMulS, uMul_ii, rRepS]
theorem uMulS_ri {a : Addr} {i : Int} {H : Hp} {Q : VK} : uMulS (.ref a) (.int i) H Q = uMul (.ref a) (.int i) H Q := by simp [uMulS, rRepS]
theorem uMulS_si {z : Str} {i : Int} {H : Hp} {Q : VK} : uMulS (.str z) (.int i) H Q = (1 < i ∧ i < 2 ^ 31 ∧ z.length ≠ 0 ∧ z.length * i.toNat ≤ sizeLine ∧ Q (.str (repS z i.toNat)) H) := by
  simp [uMulS, uMul, rRepS]
/-- x.join(e) -/
def uS (v : V) (q : Str → Prop) : Prop := ∃ z, v = .str z ∧ q z
theorem uS_s {z : Str} {q : Str → Prop} : uS (.str z) q = q z := by simp [uS]
def uJoinE (to te : TE) : TE := fun σ H Q => to σ H fun x H1 => uS x fun z => te σ H1 fun y H2 => rJoin (.str z) [y] H2 Q
theorem pe_b_join {o e : Expr} {to te : TE} {apos cpos : Pos} (ho : PE X o to) (he : PE X e te) (hbase : attributeBase o "join" X.env (eval o X.env) = eval o X.env := by rfl) (hline : (apos.endLine == cpos.line) = true := by rfl) (hp : plainE e = true := by rfl) :
    PE X (.Call (.Attribute o "join" apos) [e] [] cpos) (uJoinE to te) := by
  intro pins s σ H Q I h
  have hs : starEach [e] X.env = [(false, eval e X.env)] := star1 hp
  refine wpAny_Call_method_late hbase (by rw [hs]; rfl) hline rfl (thn (ho pins s σ H _ I h) fun v s1 ⟨x, H1, I1, r1, z, ex, q1⟩ => ?_)
  subst ex
  obtain ⟨h1, h2⟩ := tyV_is (T := "str") I1 r1 rfl
  refine ⟨"str", "str.join", PySem.F.plainAttrs_str, PySem.F.slot_str_join, PySem.F.type_str_join, h1, h2, ?_⟩
  rw [hs]
  refine Calls.callWith_builtin rfl (Calls.evalArgs_plain ?_)
  have hA := pa_cons he pa_nil (hs := hs) cpos pins s1 σ H1 (fun ys H2 => match ys with | [y] => rJoin (.str z) [y] H2 Q | _ => False) I1 q1
  rw [hs] at hA
  refine thn hA fun us s2 ⟨vs, H2, I2, r2, q2⟩ => ?_
  match vs, q2, r2 with
  | [y], q2, r2 => exact mt_join pins s2 σ H2 (.str z) [y] v us Q I2 r1 r2 q2
/-- xs[::-1]: some list of items of xs -/
def uRev (te : TE) : TE := fun σ H Q => te σ H fun x H1 => uR x fun a => ∃ xs, H1 a = some (.lst xs) ∧ ∀ ys : List V, (∀ y ∈ ys, y ∈ xs) → ys.length ≤ xs.length → ∀ p H2, New H1 p (.lst ys) H2 → Q (.ref p) H2
end
section
variable {K : PySem.W.Frag} {g : TG} {tb : TS} {D : Ends} {σ : St} {H : Hp} {ta : TA} {tl : TE} {wi : TI} {R : It → Hp → Prop} {j : Int} {tt : TT} {te : TE} {ix : List (Option Nat)} {Q : VK}
def uI2 (vs : List V) (q : Int → Int → Prop) : Prop := ∃ i j, vs = [.int i, .int j] ∧ q i j
theorem uI2_i {i : Int} {q : Int → Int → Prop} : uI2 [.int i, .int j] q = q i j := by
  apply propext; constructor
  · rintro ⟨a, b, e, h⟩; cases e; exact h
  · exact fun h => ⟨i, j, rfl, h⟩
theorem iRng2_eq : iRng2 ta σ H R = ta σ H fun vs H1 => uI2 vs fun i j => (-(2 ^ 62) ≤ i ∧ i < 2 ^ 62 ∧ -(2 ^ 62) ≤ j ∧ j < 2 ^ 62) ∧ R (Itr i (j - i).toNat) H1 := rfl
theorem ForJ.tup {a : Addr} {xs : List V} (Pv : Nat → St → Hp → Prop) (h0 : Pv 0 σ H) (hl : ∀ i σ H, i ≤ xs.length → Pv i σ H → SqT K H a xs)
    (hs : ∀ i x σ H, xs[i]? = some x → Pv i σ H → g x σ H fun σ2 H2 => tb { D with nx := Pv (i + 1), ct := Pv (i + 1), bk := D.nx } σ2 H2) (hd : ∀ σ H, Pv xs.length σ H → D.nx σ H) : ForJ (Itt K a) g tb D σ H := for_tup Pv h0 hl hs hd
/-- a comprehension over a list -/
theorem CompJ.lst {a : Addr} {xs : List V} {τ : St} (Pv : Nat → St → List V → Hp → Prop) (hz : ∀ i τ ys H, Pv i τ ys H → ys.length < sizeLine) (ha : ∀ i τ ys H, Pv i τ ys H → SqL K H a xs) (h0 : Pv 0 τ [] H)
    (hs : ∀ (N : St → List V → Hp → Prop) i x τ ys H, xs[i]? = some x → Pv i τ ys H → (∀ τ ys H, Pv (i + 1) τ ys H → N τ ys H) → g x τ H fun τ1 H4 => tt τ1 H4 fun ok H5 => CompN N ys τ1 te ok H5) (hd : ∀ τ ys H, Pv xs.length τ ys H → ∀ D H', New H D (.lst ys) H' → Q (.ref D) H') : CompJ (Itl K a) g tt te τ H Q := by
  refine ⟨fun i m τ ys H => m = xs.length - i ∧ i ≤ xs.length ∧ Pv i τ ys H, ⟨xs.length, by simp, Nat.zero_le _, h0⟩, ?_⟩
  rintro i m τ ys H2 ⟨rfl, hi, p⟩
  refine ⟨hz i τ ys H2 p, ?_⟩
  have q := ha i τ ys H2 p
  by_cases hlt : i < xs.length
  · refine .inr ⟨⟨xs, xs[i], q, by simp [hlt]⟩, fun x H' y => ?_⟩
    obtain ⟨e, y⟩ := y
    subst e
    exact hs (fun τ1 ys H => ∃ m', m' < xs.length - i ∧ m' = xs.length - (i + 1) ∧ i + 1 ≤ xs.length ∧ Pv (i + 1) τ1 ys H) i x τ ys _ (y xs q) p fun τ1 zs H q => ⟨xs.length - (i + 1), by omega, rfl, hlt, q⟩
  · have e : i = xs.length := by omega
    subst e
    exact .inl ⟨⟨xs, q, Nat.le_refl _⟩, fun D hD => hd τ ys H2 p D _ (.mk' hD)⟩
/-- a statement behind which what holds is said -/
def tCut (t : TS) : TS := fun D σ H => ∃ Mid : St → Hp → Prop, t { D with nx := Mid } σ H ∧ ∀ σ' H', Mid σ' H' → D.nx σ' H'
theorem ps_cut {st : Stmt} {t : TS} (h : PS X st t) : PS X st (tCut t) := fun pins s σ H D I hw => by
  obtain ⟨Mid, h1, h2⟩ := hw
  refine thn (h pins s σ H _ I h1) fun f s1 q => ?_
  cases f with
  | next => obtain ⟨σ', H', I', q⟩ := q; exact ⟨σ', H', I', h2 _ _ q⟩
  | ret v => exact q
  | brk => exact q
  | cont => exact q
theorem tCut_eq {t : TS} {D : Ends} {σ : St} {H : Hp} : tCut t D σ H = ∃ Mid : St → Hp → Prop, t { D with nx := Mid } σ H ∧ ∀ σ' H', Mid σ' H' → D.nx σ' H' := rfl
end
end L2
set_option Elab.async false
set_option linter.all false
set_option maxRecDepth 100000
set_option maxHeartbeats 4000000
namespace L2
open PySem PySem.Spec PyProof.Rows
/-- a judgement as one thing (a term of rules is elaborated once, not twice a level) -/
structure W (p : Prop) : Prop where
  h : p
section
variable {X : Cx}
theorem w_pss_nil  : W (PSs X [] tNext) := ⟨pss_nil ⟩
theorem w_pss_cons {st : Stmt} {rest : List Stmt} {t : TS} {u : TS} (h1 : W (PS X st t)) (h2 : W (PSs X rest u)) : W (PSs X (st :: rest) (tSeq t u)) := ⟨pss_cons (h1 := h1.h) (h2 := h2.h)⟩
theorem w_pss_one {st : Stmt} {t : TS} (h1 : W (PS X st t)) : W (PSs X [st] t) := ⟨pss_one (h1 := h1.h)⟩
theorem w_ps_ret {e : Expr} {te : TE} {pos : Pos} (he : W (PE X e te)) : W (PS X (.Return (some e) pos) (tRet te)) := ⟨ps_ret (he := he.h)⟩
theorem w_ps_expr {e : Expr} {te : TE} {pos : Pos} (he : W (PE X e te)) (hs : swapsWith e none pos.line X.env = pure false := by rfl) : W (PS X (.Expr e pos) (tDrop te)) := ⟨ps_expr (he := he.h) (hs := hs)⟩
theorem w_ps_set {pos : Pos} {i : Nat} {x : Str} {e : Expr} {te : TE} {pos' : Pos} (hN : X.N.Nodup) (hi : X.N[i]? = some x) (hx : Loc X.env.scope x) (he : W (PE X e te)) (hs : swapsWith e (some (.Name x pos')) pos.line X.env = pure false := by rfl) (hf : X.fn x = true ∨ X.env.scope.names.lookup x = some .local := by first | exact .inl rfl | exact .inr rfl | assumption) : W (PS X (.Assign [.Name x pos'] e pos) (tAsg te (gName i))) := ⟨ps_set (hN := hN) (hi := hi) (hx := hx) (he := he.h) (hs := hs) (hf := hf)⟩
theorem w_ps_asg {pos : Pos} {tg e : Expr} {te : TE} {g : TG} (he : W (PE X e te)) (hg : W (PG X tg g)) (hs : swapsWithSole [tg] e pos.line X.env = pure false := by rfl) (hw : swappedStores [tg] e X.env = pure none := by rfl) (h1 : (assignEach [tg] X.env).map (·.2) = [assign tg X.env] := by rfl) : W (PS X (.Assign [tg] e pos) (tAsg te g)) := ⟨ps_asg (he := he.h) (hg := hg.h) (hs := hs) (hw := hw) (h1 := h1)⟩
theorem w_ps_aug {pos : Pos} {i : Nat} {x : Str} {e : Expr} {te : TE} {op : Operator} {ti : TIp} {pos' : Pos} (hN : X.N.Nodup) (hi : X.N[i]? = some x) (hx : Loc X.env.scope x) (he : W (PE X e te)) (ho : PIp X op ti) (hf : X.fn x = true ∨ X.env.scope.names.lookup x = some .local := by first | exact .inl rfl | exact .inr rfl | assumption) : W (PS X (.AugAssign (.Name x pos') op e pos) (tAug i te ti)) := ⟨ps_aug (hN := hN) (hi := hi) (hx := hx) (he := he.h) (ho := ho) (hf := hf)⟩
theorem w_ps_if {t : TS} {u : TS} {pos : Pos} {c : Expr} {a b : List Stmt} {tc : TT} (hc : W (PT X c tc)) (ha : W (PSs X a t)) (hb : W (PSs X b u)) : W (PS X (.If c a b pos) (tIfS tc t u)) := ⟨ps_if (hc := hc.h) (ha := ha.h) (hb := hb.h)⟩
theorem w_ps_for {tg : Expr} {c : Bool} {iter : Expr} {body : List Stmt} {wi : TI} {g : TG} {tb : TS} {pos : Pos} (hp : PassesOwn (model X.prog X.w) X.A X.env X.xe) (hc : c = true → X.calm = true) (hi : W (PIc c X tg iter wi)) (hg : W (PG X tg g)) (hb : W (PSs X body tb)) (hs : ∀ x, foldedSetIterable iter X.env x = pure x := by intro _; rfl) : W (PS X (.For tg iter body [] pos) (tFor wi g tb)) := ⟨ps_for (hp := hp) (hc := hc) (hi := hi.h) (hg := hg.h) (hb := hb.h) (hs := hs)⟩
theorem w_ps_raisep {Ex : Addr → St → Hp → Prop} {C : Addr} {x : Str} {np cpos pos : Pos} {e : Expr} {es : List Expr} {t : TA} (hc : X.calm = true) (T : Throws X Ex) (O : ErrK X.K C) (hg : Gl X x) (hm : X.mg x = some (.ref C)) (ha : W (PA X (e :: es) t)) (hp : plainE e = true := by rfl) (hps : plainEs es = true := by rfl) (hdb : (x == ("__debug__" : Str)) = false := by decide) : W (PS X (.Raise (some (.Call (.Name x np) (e :: es) [] cpos)) none pos) (tRaise C Ex t)) := ⟨ps_raisep (hc := hc) (T := T) (O := O) (hg := hg) (hm := hm) (ha := ha.h) (hp := hp) (hps := hps) (hdb := hdb)⟩
theorem w_pi_range1p {tg a : Expr} {ta : TA} {p pos : Pos} (hg : Gl X "range") (hm : X.mg "range" = none) (ha : W (PA X [a] ta)) (hp : plainE a = true := by rfl) : W (PIc true X tg (.Call (.Name "range" p) [a] [] pos) (iRng1 ta)) := ⟨pi_range1p (hg := hg) (hm := hm) (ha := ha.h) (hp := hp)⟩
theorem w_pi_zipp {elts : List Expr} {kk : Nat} {tp p pos : Pos} {a b : Expr} {ta : TA} (hg : Gl X "zip") (hm : X.mg "zip" = none) (ha : W (PA X [a, b] ta)) (hp : plainE a = true := by rfl) (hp' : plainE b = true := by rfl) : W (PIc false X (.Tuple elts kk tp) (.Call (.Name "zip" p) [a, b] [] pos) (iZip X.K ta)) := ⟨pi_zipp (hg := hg) (hm := hm) (ha := ha.h) (hp := hp) (hp' := hp')⟩
theorem w_pi_list {tg : Expr} {l : Expr} {tl : TE} (hl : W (PE X l tl)) : W (PI X tg l (iList X.K tl)) := ⟨pi_list (hl := hl.h)⟩
theorem w_pa_nil  : W (PA X [] tNil) := ⟨pa_nil ⟩
theorem w_pa_p {e : Expr} {es : List Expr} {te : TE} {t : TA} (ha : W (PE X e te)) (hr : W (PA X es t)) (hp : plainE e = true := by rfl) : W (PA X (e :: es) (tCons te t)) := ⟨pa_p (ha := ha.h) (hr := hr.h) (hp := hp)⟩
theorem w_pt_not {a : Expr} {pos : Pos} {tA : TT} (ha : W (PT X a tA)) : W (PT X (.UnaryOp .Not a pos) (tNot tA)) := ⟨pt_not (ha := ha.h)⟩
theorem w_pw_and1 {a : Expr} {pos : Pos} {tA : TT} (ha : W (PT X a tA)) : W (PW X (.BoolOp .And [a] pos) tA) := ⟨pw_and1 (ha := ha.h)⟩
theorem w_pw_or1 {a : Expr} {pos : Pos} {tA : TT} (ha : W (PT X a tA)) : W (PW X (.BoolOp .Or [a] pos) tA) := ⟨pw_or1 (ha := ha.h)⟩
theorem w_pw_and {a : Expr} {b : Expr} {pos : Pos} {tA : TT} {tB' : TT} {rest : List Expr} (ha : W (PT X a tA)) (hb : W (PW X (.BoolOp .And (b :: rest) pos) tB')) : W (PW X (.BoolOp .And (a :: b :: rest) pos) (tAnd tA tB')) := ⟨pw_and (ha := ha.h) (hb := hb.h)⟩
theorem w_pw_or {a : Expr} {b : Expr} {pos : Pos} {tA : TT} {tB' : TT} {rest : List Expr} (ha : W (PT X a tA)) (hb : W (PW X (.BoolOp .Or (b :: rest) pos) tB')) : W (PW X (.BoolOp .Or (a :: b :: rest) pos) (tOr tA tB')) := ⟨pw_or (ha := ha.h) (hb := hb.h)⟩
theorem w_pt_cmpR {a : Expr} {b : Expr} {ta : TE} {tb : TE} {pos : Pos} {op : CmpOp} {r : R2} (ho : OpR X (compareOp op) r) (ha : W (PE X a ta)) (hb : W (PE X b tb)) (hm : behindInMarks op b = false) : W (PT X (.Compare a [op] [b] pos) (tTest (tOp r ta tb))) := ⟨pt_cmpR (ho := ho) (ha := ha.h) (hb := hb.h) (hm := hm)⟩
theorem w_pt_tru {a : Expr} {ta : TE} (ha : W (PE X a ta)) (he : ∀ whole, isTrue a X.env whole = (do let v ← whole; standAt a.pos; holding [v] (truthy v)) := by intro _; rfl) : W (PT X a (tTru X.K ta)) := ⟨pt_tru (ha := ha.h) (he := he)⟩
theorem w_pv (i : Nat) {x : Str} {pos : Pos} (hN : X.N[i]? = some x := by rfl) (hv : Vis X.env.scope x := by first | exact Or.inl rfl | exact Or.inr (Or.inl rfl) | exact Or.inr (Or.inr rfl)) (hd : (x == ("__debug__" : Str)) = false := by decide) (hcd : (x == ("__classdict__" : Str)) = false := by decide) : W (PE X (.Name x pos) (tVar i)) := ⟨pv (i := i) (hN := hN) (hv := hv) (hd := hd) (hcd := hcd)⟩
theorem w_pe_gv {x : Str} {v : V} {pos : Pos} (hg : Gl X x) (hm : ∃ u, X.mg x = some u ∧ RelV v u) (hd : (x == ("__debug__" : Str)) = false := by decide) : W (PE X (.Name x pos) (tC v)) := ⟨pe_gv (hg := hg) (hm := hm) (hd := hd)⟩
theorem w_pe_bltn {x : Str} {v : V} {u : Value} {pos : Pos} (hg : Gl X x) (hm : X.mg x = none) (hv : bootBuiltins x = some u) (r : RelV v u) (hn : x ≠ "__name__" := by decide) (hd : (x == ("__debug__" : Str)) = false := by decide) : W (PE X (.Name x pos) (tC v)) := ⟨pe_bltn (hg := hg) (hm := hm) (hv := hv) (r := r) (hn := hn) (hd := hd)⟩
theorem w_pe_non {j pos} : W (PE X (.Constant .none j pos) (tC .non)) := ⟨pe_non ⟩
theorem w_pe_bl {b j pos} : W (PE X (.Constant (.bool b) j pos) (tC (.bl b))) := ⟨pe_bl ⟩
theorem w_pe_int {i j pos} : W (PE X (.Constant (.int i) j pos) (tC (.int i))) := ⟨pe_int ⟩
theorem w_pe_str {x j pos} : W (PE X (.Constant (.str x) j pos) (tC (.str x))) := ⟨pe_str ⟩
theorem w_pe_op {a : Expr} {b : Expr} {ta : TE} {tb : TE} {pos : Pos} {op : Operator} {r : R2} (ho : OpR X (binaryOp op) r) (ha : W (PE X a ta)) (hb : W (PE X b tb)) : W (PE X (.BinOp a op b pos) (tOp r ta tb)) := ⟨pe_op (ho := ho) (ha := ha.h) (hb := hb.h)⟩
theorem w_pe_not {a : Expr} {ta : TE} {pos : Pos} (ha : W (PE X a ta)) : W (PE X (.UnaryOp .Not a pos) (tNotV ta)) := ⟨pe_not (ha := ha.h)⟩
theorem w_pe_un {a : Expr} {ta : TE} {pos : Pos} {op : UnaryOp} {r : V → Hp → VK → Prop} (ho : UnR X (unaryOp op) r) (ha : W (PE X a ta)) : W (PE X (.UnaryOp op a pos) (tUn r ta)) := ⟨pe_un (ho := ho) (ha := ha.h)⟩
theorem w_pe_one {a : Expr} {pos : Pos} {op} {t : TE} (h : W (PE X a t)) : W (PE X (.BoolOp op [a] pos) t) := ⟨pe_one (h := h.h)⟩
theorem w_pe_and {a : Expr} {b : Expr} {ta : TE} {tb : TE} {pos : Pos} {rest : List Expr} (ha : W (PE X a ta)) (hb : W (PE X (.BoolOp .And (b :: rest) pos) tb)) : W (PE X (.BoolOp .And (a :: b :: rest) pos) (tAndV ta tb)) := ⟨pe_and (ha := ha.h) (hb := hb.h)⟩
theorem w_pe_or {a : Expr} {b : Expr} {ta : TE} {tb : TE} {pos : Pos} {rest : List Expr} (ha : W (PE X a ta)) (hb : W (PE X (.BoolOp .Or (b :: rest) pos) tb)) : W (PE X (.BoolOp .Or (a :: b :: rest) pos) (tOrV ta tb)) := ⟨pe_or (ha := ha.h) (hb := hb.h)⟩
theorem w_pe_cmpR {a : Expr} {b : Expr} {ta : TE} {tb : TE} {pos : Pos} {op : CmpOp} {r : R2} (ho : OpR X (compareOp op) r) (ha : W (PE X a ta)) (hb : W (PE X b tb)) (hm : behindInMarks op b = false) : W (PE X (.Compare a [op] [b] pos) (tOp r ta tb)) := ⟨pe_cmpR (ho := ho) (ha := ha.h) (hb := hb.h) (hm := hm)⟩
theorem w_pe_chain {a : Expr} {b : Expr} {c : Expr} {ta : TE} {tb : TE} {tc : TE} {pos : Pos} {op op' : CmpOp} {r r' : R2} (ho : OpR X (compareOp op) r) (ho' : OpR X (compareOp op') r') (ha : W (PE X a ta)) (hb : W (PE X b tb)) (hc : W (PE X c tc)) (hm : lastMarks [op, op'] [b, c] = false := by with_unfolding_all rfl) : W (PE X (.Compare a [op, op'] [b, c] pos) (tChain r r' ta tb tc)) := ⟨pe_chain (ho := ho) (ho' := ho') (ha := ha.h) (hb := hb.h) (hc := hc.h) (hm := hm)⟩
theorem w_pe_ifExp {a : Expr} {b : Expr} {ta : TE} {tb : TE} {pos : Pos} {tA : TT} {c : Expr} (hc : W (PT X c tA)) (ha : W (PE X a ta)) (hb : W (PE X b tb)) : W (PE X (.IfExp c a b pos) (tIf tA ta tb)) := ⟨pe_ifExp (hc := hc.h) (ha := ha.h) (hb := hb.h)⟩
theorem w_pe_lstA {es : List Expr} {t : TA} {pos : Pos} (h : W (PA X es t)) : W (PE X (.List es pos) (tLstA t)) := ⟨pe_lstA (h := h.h)⟩
theorem w_pe_tupA {es : List Expr} {t : TA} {x1} {pos : Pos} (h : W (PA X es t)) : W (PE X (.Tuple es x1 pos) (tTupA t)) := ⟨pe_tupA (h := h.h)⟩
theorem w_pe_dnewA {pos : Pos} : W (PE X (.Dict [] [] pos) tDNewA) := ⟨pe_dnewA ⟩
theorem w_pe_ix {a : Expr} {b : Expr} {ta : TE} {tb : TE} {pos : Pos} {r : R2} (hr : IxR X r) (ha : W (PE X a ta)) (hb : W (PE X b tb)) (hs : PlainIx b) : W (PE X (.Subscript a b pos) (tOp r ta tb)) := ⟨pe_ix (hr := hr) (ha := ha.h) (hb := hb.h) (hs := hs)⟩
theorem w_pe_slice {e : Expr} {te : TE} {lo : Option Expr} {hi : Option Expr} {tl : TO} {th : TO} {pos : Pos} {p2 : Pos} {r : V → Option Int → Option Int → Hp → VK → Prop} (hr : SlR X r) (he : W (PE X e te)) (hl : W (PO X lo tl)) (hu : W (PO X hi th)) : W (PE X (.Subscript e (.Slice lo hi none p2) pos) (tSl r te tl th)) := ⟨pe_slice (hr := hr) (he := he.h) (hl := hl.h) (hu := hu.h)⟩
theorem w_pe_g {cm : Bool} {k : Nat} {j : Nat} {x : Str} {ps : List Str} {sp : Sp} {e : Expr} {es : List Expr} {t : TA} {p : Pos} {pos : Pos} (G : GF X.prog X.w X.K X.mg X.base cm j x ps sp) (hr : Room cm k X.A) (hg : Gl X x) (ha : W (PA X (e :: es) t)) (hj : j ≤ k := by decide) (hdb : (x == ("__debug__" : Str)) = false := by decide) (hp : plainE e = true := by rfl) (hps : plainEs es = true := by rfl) : W (PE X (.Call (.Name x p) (e :: es) [] pos) (tCall sp [] E0 t)) := ⟨pe_g (G := G) (hr := hr) (hg := hg) (ha := ha.h) (hj := hj) (hdb := hdb) (hp := hp) (hps := hps)⟩
theorem w_pe_gX {cm : Bool} {k : Nat} {j : Nat} {x : Str} {ps : List Str} {sp : Sp} {e : Expr} {es : List Expr} {t : TA} {p : Pos} {pos : Pos} {Ex : Addr → St → Hp → Prop} (T : Throws X Ex) (G : GX X.prog X.w X.K X.mg X.base cm j x ps sp) (hr : Room cm k X.A) (hg : Gl X x) (ha : W (PA X (e :: es) t)) (hj : j ≤ k := by decide) (hdb : (x == ("__debug__" : Str)) = false := by decide) (hp : plainE e = true := by rfl) (hps : plainEs es = true := by rfl) : W (PE X (.Call (.Name x p) (e :: es) [] pos) (tCallX sp [] Ex t)) := ⟨pe_gX (T := T) (G := G) (hr := hr) (hg := hg) (ha := ha.h) (hj := hj) (hdb := hdb) (hp := hp) (hps := hps)⟩
theorem w_pe_callBp {id : String} {r : List V → Hp → VK → Prop} {x : Str} {e : Expr} {es : List Expr} {t : TA} {p pos : Pos} (hc : CallR X (.builtin id) r) (hg : Gl X x) (hm : X.mg x = none) (hv : bootBuiltins x = some (.builtin id)) (ha : W (PA X (e :: es) t)) (hp : plainE e = true := by rfl) (hps : plainEs es = true := by rfl) (hn : x ≠ "__name__" := by decide) (hdb : (x == ("__debug__" : Str)) = false := by decide) : W (PE X (.Call (.Name x p) (e :: es) [] pos) (tCB r t)) := ⟨pe_callBp (hc := hc) (hg := hg) (hm := hm) (hv := hv) (ha := ha.h) (hp := hp) (hps := hps) (hn := hn) (hdb := hdb)⟩
theorem w_pe_callTyp {T : String} {r : List V → Hp → VK → Prop} {x : Str} {e : Expr} {es : List Expr} {t : TA} {p pos : Pos} (hc : CallR X (.type T) r) (hg : Gl X x) (hm : X.mg x = none) (hv : bootBuiltins x = some (.type T)) (ha : W (PA X (e :: es) t)) (hp : plainE e = true := by rfl) (hps : plainEs es = true := by rfl) (hn : x ≠ "__name__" := by decide) (hdb : (x == ("__debug__" : Str)) = false := by decide) : W (PE X (.Call (.Name x p) (e :: es) [] pos) (tCB r t)) := ⟨pe_callTyp (hc := hc) (hg := hg) (hm := hm) (hv := hv) (ha := ha.h) (hp := hp) (hps := hps) (hn := hn) (hdb := hdb)⟩
theorem w_pe_append {o e : Expr} {to te : TE} {apos cpos : Pos} (ho : W (PE X o to)) (he : W (PE X e te)) (hbase : attributeBase o "append" X.env (eval o X.env) = eval o X.env := by rfl) (hline : (apos.endLine == cpos.line) = true := by rfl) (hp : plainE e = true := by rfl) : W (PE X (.Call (.Attribute o "append" apos) [e] [] cpos) (uApp to te)) := ⟨pe_append (ho := ho.h) (he := he.h) (hbase := hbase) (hline := hline) (hp := hp)⟩
theorem w_pe_lc {c : Bool} {X : Cx} {elt tg iter : Expr} {ifs : List Expr} {sc : Scope} {pos : Pos} {N' : List Str} {ix : List (Option Nat)} {wi : TI} {g : TG} {tt : TT} {te : TE} (hc : c = true → X.calm = true) (L : LcOk X sc N' ix) (hi : W (PIc c X tg iter wi)) (hg : ∀ pins C fp s H, W (PG (cxLC X sc N' pins C fp s H) tg g)) (ht : ∀ pins C fp s H, W (PTs (cxLC X sc N' pins C fp s H) ifs tt)) (he : ∀ pins C fp s H, W (PE (cxLC X sc N' pins C fp s H) elt te)) (hs : ∀ x, foldedSetIterable iter X.env x = pure x := by intro _; rfl) : W (PE X (.ListComp elt [⟨tg, iter, ifs, 0⟩] sc pos) (tLC ix wi g tt te)) := ⟨pe_lc (hc := hc) (L := L) (hi := hi.h) (hg := fun z0 z1 z2 z3 z4 => (hg z0 z1 z2 z3 z4).h) (ht := fun z0 z1 z2 z3 z4 => (ht z0 z1 z2 z3 z4).h) (he := fun z0 z1 z2 z3 z4 => (he z0 z1 z2 z3 z4).h) (hs := hs)⟩
theorem w_pg_name {pos : Pos} {i : Nat} {x : Str} (hN : X.N.Nodup) (hi : X.N[i]? = some x) (hx : Loc X.env.scope x) (hf : X.fn x = true ∨ X.env.scope.names.lookup x = some .local := by first | exact .inl rfl | exact .inr rfl | assumption) : W (PG X (.Name x pos) (gName i)) := ⟨pg_name (hN := hN) (hi := hi) (hx := hx) (hf := hf)⟩
theorem w_pg_tupA {X : Cx} {pos : Pos} {es : List Expr} {k : Nat} {t : TGs} {n : Nat} (h : W (PGs X es t)) (hl : (assignEach es X.env).length = n := by rfl) (hst : (assignEach es X.env).findIdx? (·.1) = none := by rfl) : W (PG X (.Tuple es k pos) (gTup X.K n t)) := ⟨pg_tupA (h := h.h) (hl := hl) (hst := hst)⟩
theorem w_pg_lst {pos : Pos} {es : List Expr} {k : Nat} {t : TGs} {n : Nat} (hc : X.calm = true) (h : W (PGs X es t)) (hl : (assignEach es X.env).length = n := by rfl) (hst : (assignEach es X.env).findIdx? (·.1) = none := by rfl) : W (PG X (.Tuple es k pos) (gLst X.K n t)) := ⟨pg_lst (hc := hc) (h := h.h) (hl := hl) (hst := hst)⟩
theorem w_pgs_nil  : W (PGs X [] gNil) := ⟨pgs_nil ⟩
theorem w_pgs_cons {e : Expr} {es : List Expr} {t : TG} {u : TGs} (h1 : W (PG X e t)) (h2 : W (PGs X es u)) (hs : (assignEach (e :: es) X.env).map (·.2) = assign e X.env :: (assignEach es X.env).map (·.2) := by rfl) : W (PGs X (e :: es) (gCons t u)) := ⟨pgs_cons (h1 := h1.h) (h2 := h2.h) (hs := hs)⟩
theorem w_pts_nil {X : Cx} : W (PTs X [] tAll) := ⟨pts_nil ⟩
theorem w_pts_one {X : Cx} {c : Expr} {t : TT} (h : W (PT X c t)) : W (PTs X [c] t) := ⟨pts_one (h := h.h)⟩
theorem w_ps_try {X : Cx} {i : Nat} {D : Addr} {x n : Str} {np hpos pos : Pos} {body : List Stmt} {b₀ : Stmt} {suite : List Stmt} {tb : (Addr → St → Hp → Prop) → TS} {ts : TS} (hc : X.calm = true) (hex : X.ex = []) (hstk : X.stack = X.env :: X.outer ∧ X.env.frame = some X.env.locals) (hN : X.N.Nodup) (hi : X.N[i]? = some n) (hlo : X.env.scope.names.lookup n = some .local) (OD : ErrK X.K D) (hg : Gl X x) (hm : X.mg x = some (.ref D)) (hb : ∀ pins Ex, W (PSs (cxTry X pins Ex) body (tb Ex))) (hs : ∀ pins ea, W (PSs (cxSuite X pins ea) (b₀ :: suite) ts)) (hdb : (x == ("__debug__" : Str)) = false := by decide) : W (PS X (.Try body [.ExceptHandler (some (.Name x np)) (some n) (b₀ :: suite) hpos] [] [] pos) (tTry X.K i D tb ts)) := ⟨ps_try (hc := hc) (hex := hex) (hstk := hstk) (hN := hN) (hi := hi) (hlo := hlo) (OD := OD) (hg := hg) (hm := hm) (hb := fun z0 z1 => (hb z0 z1).h) (hs := fun z0 z1 => (hs z0 z1).h) (hdb := hdb)⟩
theorem w_pt_truL {Y : Cx} {sc : Scope} {N' : List Str} {pins : List (Addr × Obj)} {D : Addr} {fp : List Addr} {s : Shared} {H : Hp} {a : Expr} {ta : TE} (ha : W (PE (cxLC Y sc N' pins D fp s H) a ta)) (he : ∀ whole, isTrue a (cxLC Y sc N' pins D fp s H).env whole = (do let v ← whole; standAt a.pos; holding [v] (truthy v)) := by intro _; rfl) : W (PT (cxLC Y sc N' pins D fp s H) a (tTru Y.K ta)) := ⟨pt_truL (ha := ha.h) (he := he)⟩
theorem w_pg_tupL {Y : Cx} {sc : Scope} {N' : List Str} {pins : List (Addr × Obj)} {D : Addr} {fp : List Addr} {s : Shared} {H : Hp} {pos : Pos} {es : List Expr} {k : Nat} {t : TGs} {n : Nat} (h : W (PGs (cxLC Y sc N' pins D fp s H) es t)) (hl : (assignEach es (cxLC Y sc N' pins D fp s H).env).length = n := by rfl) (hst : (assignEach es (cxLC Y sc N' pins D fp s H).env).findIdx? (·.1) = none := by rfl) : W (PG (cxLC Y sc N' pins D fp s H) (.Tuple es k pos) (gTup Y.K n t)) := ⟨pg_tupL (h := h.h) (hl := hl) (hst := hst)⟩
theorem w_pe_b_join {o e : Expr} {to te : TE} {apos cpos : Pos} (ho : W (PE X o to)) (he : W (PE X e te)) (hbase : attributeBase o "join" X.env (eval o X.env) = eval o X.env := by rfl) (hline : (apos.endLine == cpos.line) = true := by rfl) (hp : plainE e = true := by rfl) : W (PE X (.Call (.Attribute o "join" apos) [e] [] cpos) (uJoinE to te)) := ⟨pe_b_join (ho := ho.h) (he := he.h) (hbase := hbase) (hline := hline) (hp := hp)⟩
theorem w_pi_tup {tg : Expr} {l : Expr} {tl : TE} (hl : W (PE X l tl)) : W (PI X tg l (iTup X.K tl)) := ⟨pi_tup (hl := hl.h)⟩
theorem w_po_none  : W (PO X none tNoPart) := ⟨po_none ⟩
theorem w_po_some {e : Expr} {te : TE} (h : W (PE X e te)) : W (PO X (some e) (tPart te)) := ⟨po_some (h := h.h)⟩
theorem w_pe_g0 {cm : Bool} {k j : Nat} {x : Str} {ps : List Str} {sp : Sp} {p pos : Pos} (G : GF X.prog X.w X.K X.mg X.base cm j x ps sp) (hr : Room cm k X.A) (hg : Gl X x) (hj : j ≤ k := by decide) (hdb : (x == ("__debug__" : Str)) = false := by decide) : W (PE X (.Call (.Name x p) [] [] pos) (tCall sp [] E0 tNil)) := ⟨pe_g0 (G := G) (hr := hr) (hg := hg) (hj := hj) (hdb := hdb)⟩
theorem w_ps_cut {st : Stmt} {t : TS} (h : W (PS X st t)) : W (PS X st (tCut t)) := ⟨ps_cut (h := h.h)⟩
theorem w_pt {e : Expr} {t : TT} (h : W (PW X e t)) : W (PT X e t) := ⟨PW.pt h.h⟩
end
end L2
set_option Elab.async false
set_option linter.all false
set_option maxRecDepth 100000
set_option maxHeartbeats 4000000
namespace L2
open PySem PySem.Spec PyProof.Rows
/-! ### for c in text -/
def asc (z : Str) : Bool := z.cps.all (· < 128)
def Its (z : Str) : It := ⟨fun i _ => i < z.cps.size, fun i H x H' => H' = H ∧ ∃ c, z.cps[i]? = some c ∧ x = .str ⟨#[c]⟩, fun i _ => z.cps.size ≤ i⟩
theorem turn_str {P : Program} {w : World} {K : PySem.W.Frag} {tg : Expr} (z : Str) (it : Addr) : Turn true P w K tg (Its z) [it] it (fun i h => ∃ t, h.IsStrIter it "str_ascii_iterator" z t i) where
  mem := by simp
  obj := fun i h st b hb => by
    have e : b = it := by simpa using hb
    subst e
    obtain ⟨t, o, e, c, d⟩ := st
    exact ⟨o, e, fun v z => by rw [d] at z; cases z⟩
  keep := fun i h h' st k => by
    obtain ⟨t, o, e, r⟩ := st
    exact ⟨t, o, k it (by simp) o e, r⟩
  item := by
    intro X hP hw hK hc i pins s σ H E I hf st hg
    subst hP hw hK
    obtain ⟨t, st⟩ := st
    obtain ⟨f0, f1, f2, f3, f4, f5⟩ := hf it (by simp)
    have hi : i < z.cps.size := hg
    refine wpAny_pyNext_ascii_item st (c := z.cps[i]) (by simp [hi]) fun h' st' sb => ?_
    have I1 : Inv X pins σ H { s with heap := h', toks := s.toks + 1 } := I.turned (fun b o hb e => (sb.2 b hb).trans e) f0 f1 f3 f4 f5
    obtain ⟨o, e, c, d⟩ := id st'
    exact ⟨_, rfl, go_of (s := { s with heap := h', toks := s.toks + 1 }) e c d (by decide) ⟨.str ⟨#[z.cps[i]]⟩, H, I1, ⟨_, rfl⟩, ⟨rfl, _, by simp [hi], rfl⟩, ⟨t, st'⟩, fun b hb => (hf b hb).1⟩⟩
  done := by
    intro X hP hw hK hc i pins s σ H E I hf st hg
    subst hP hw hK
    obtain ⟨t, st⟩ := st
    obtain ⟨f0, f1, f2, f3, f4, f5⟩ := hf it (by simp)
    have hi : z.cps.size ≤ i := hg
    exact wpAny_pyNext_ascii_end (I.ok.hd (hc rfl)) st (by simp [hi]) fun h' eb => ⟨rfl, I.turned (t' := s.toks) (fun b o hb e => eb b o hb e) f0 f1 f3 f4 f5⟩
  self := fun _ _ _ _ _ st h => by
    obtain ⟨t, st⟩ := st
    exact wpAny_pyIter_striter_ascii st h
section
variable {X : Cx} {tg : Expr}
def iStr (tl : TE) : TI := fun σ H R => tl σ H fun x H1 => uS x fun z => asc z = true ∧ R (Its z) H1
theorem iStr_eq {tl : TE} {σ : St} {H : Hp} {R : It → Hp → Prop} : iStr tl σ H R = tl σ H fun x H1 => uS x fun z => asc z = true ∧ R (Its z) H1 := rfl
theorem pi_str {l : Expr} {tl : TE} (hl : PE X l tl) : PIc true X tg l (iStr tl) := by
  intro pins s σ H R I h
  refine thn (hl pins s σ H _ I h) fun v s1 ⟨x, H1, I1, r1, q1⟩ => ?_
  obtain ⟨z, e, ha, q⟩ := q1
  subst e
  obtain ⟨t, rfl⟩ := r1
  refine wpAny_pyIter_ascii ha ?_
  refine ⟨s1.heap.objs.size, [s1.heap.objs.size], _, _, H1, rfl, I1.kept (t' := s1.toks) fun b o e => Heap.get?_push_of_some _ e, turn_str z _, ⟨t, _, Heap.get?_push_size _ rfl, rfl, rfl⟩, fun b hb => ?_, q⟩
  have e : b = s1.heap.objs.size := by simpa using hb
  subst e
  exact I1.fpOk (Nat.le_refl _) (I1.hok.fresh (Nat.le_refl _))
end
/-! ### for i, c in enumerate(text), enumerate(text, start=1) -/
theorem Draws.later {prog : Program} {w : World} {A : Around} {it : Addr} {fp : List Addr} {n k : Nat} {P : Nat → Value → Prop} {St : Nat → Heap → Prop} (D : Draws prog w A it fp n P St) :
    Draws prog w A it fp (n + k) (fun i v => P (i - k) v) (fun i h => k ≤ i ∧ St (i - k) h) where
  live := fun _ _ st => D.live _ _ st.2
  frame := fun _ _ _ st hk => ⟨st.1, D.frame _ _ _ st.2 hk⟩
  item := fun i s Q E hi st hQ => D.item (i - k) s Q E (by have := st.1; omega) st.2 fun x h' tk p st' sb => hQ x h' tk p ⟨by have := st.1; omega, by
    have e : i + 1 - k = i - k + 1 := by have := st.1; omega
    rw [e]; exact st'⟩ sb
  done := fun s Q E st hE => D.done s Q E (by
    have e : n + k - k = n := by omega
    have := st.2; rwa [e] at this) hE
def IteS (z : Str) (k : Nat) : It :=
  ⟨fun i _ => i < z.cps.size, fun i H v H' => ∃ T c, H T = none ∧ v = .ref T ∧ z.cps[i]? = some c ∧ H' = upd H T (.tup [.int ((i : Nat) + k : Nat), .str ⟨#[c]⟩]), fun i _ => i = z.cps.size⟩
structure EnumStS (e it : Addr) (z : Str) (k i : Nat) (h : Heap) : Prop where
  en : ∃ old, IsEnum h e it ((i + k : Nat) : Int) old
  a : ∃ t, h.IsStrIter it "str_ascii_iterator" z t i
theorem turn_enumS {P : Program} {w : World} {K : PySem.W.Frag} {elts : List Expr} {kk : Nat} {tp : Pos} {z : Str} {k : Nat} {e it : Addr} (hne : e ≠ it) :
    Turn true P w K (.Tuple elts kk tp) (IteS z k) [e, it] e (EnumStS e it z k) where
  mem := by simp
  obj := fun i h st b hb => by
    obtain ⟨⟨old, a1⟩, ⟨t, o4, a4, _, d4⟩⟩ := st
    simp only [List.mem_cons, List.not_mem_nil, or_false] at hb
    rcases hb with rfl | rfl
    · exact ⟨_, a1, fun v q => nomatch q⟩
    · exact ⟨_, a4, fun v q => by rw [d4] at q; cases q⟩
  keep := fun i h h' st k => by
    obtain ⟨⟨old, a1⟩, ⟨t, o, a4, r⟩⟩ := st
    exact ⟨⟨old, k _ (by simp) _ a1⟩, t, o, k _ (by simp) o a4, r⟩
  item := by
    intro X hP hw hK hc i pins s σ H E I hf st hg
    subst hP hw hK
    obtain ⟨⟨old, a1⟩, ⟨t, a4⟩⟩ := st
    have hi : i < z.cps.size := hg
    have hid := I.ok.hd (hc rfl)
    have D := Draws.later (k := k) (Draws.strAscii (prog := X.prog) (w := X.w) (A := X.A.in1) hid it z t)
    refine wpAny_pyNext_enum_itemD D a1 (i := i + k) ⟨by omega, by rw [Nat.add_sub_cancel]; exact a4⟩ (by omega) hne (by simpa using hne) fun x h' tk px b1 b2 b3 b4 b5 => ?_
    obtain ⟨c, u, hcc, rfl⟩ := px
    rw [Nat.add_sub_cancel] at hcc
    refine ⟨_, rfl, wpAny_letOwnedTupleGo_enum (s := { s with heap := h', toks := tk + 1 }) b1 fun h2 c1 c2 => ?_⟩
    have zlt : e < s.heap.objs.size := Heap.lt_size a1
    have nz : s.heap.objs.size ≠ e := Nat.ne_of_gt zlt
    have all : ∀ c o, c ≠ e → c ≠ it → s.heap.get? c = some o → h2.get? c = some o := fun c o n1 n2 q => c2.extBut c o n1 (b5 c o n1 n2 q)
    have tT : h2.get? s.heap.objs.size = some { cls := .type "tuple", data := .seq #[.int ((i + k : Nat) : Int) tk, .str ⟨#[c]⟩ u] } := c2.extBut _ _ nz b3
    have hfr : H s.heap.objs.size = none := I.hok.fresh (Nat.le_refl _)
    have hok0 : HOk X.prog X.w H h2 := fun b u q0 => by
      refine (I.hok b u q0).stay (fun c v hc q => ?_) (fun _ q => q) fun _ _ q => q
      have hnn : ∀ d ∈ [e, it], c ≠ d := fun d hd w => by
        have fd := (hf d hd).1
        rcases hc with k | k
        · rw [k] at w; rw [w, fd] at q0; cases q0
        · rw [w, fd] at k; cases k
      exact all c v (hnn e (by simp)) (hnn it (by simp)) q
    have lt0 : ∀ b o, s.heap.get? b = some o → b ≠ s.heap.objs.size := fun b o e => Nat.ne_of_lt (Heap.lt_size e)
    have I2 : Inv X pins σ (upd H s.heap.objs.size (.tup [.int ((i + k : Nat) : Int), .str ⟨#[c]⟩])) { s with heap := h2, toks := tk + 1 } := by
      refine I.step (g' := s.gens) (d' := s.drawn) (t' := tk + 1) (ch := [e, it]) (fun b hb => ?_) (fun b o _ _ hb q _ => ?_) (fun b o _ _ hb q _ => ?_) (fun b o _ q n => ?_) (fun b o hb q => ?_) (fun b ps q => ?_) (fun b o u q => ?_) (fun b ps q => ?_) (fun m hm => ?_) (hok0.add hfr ?_) I.bare
      · obtain ⟨f0, f1, f2, f3, f4, f5⟩ := hf b hb
        exact ⟨f3, f1, f4, f5⟩
      · simp only [List.mem_cons, List.not_mem_nil, or_false, not_or] at hb
        exact all b o hb.1 hb.2 q
      · simp only [List.mem_cons, List.not_mem_nil, or_false, not_or] at hb
        exact ⟨o.slots, all b o hb.1 hb.2 q⟩
      · rw [upd_ne (lt0 b o q)]; exact n
      · simp only [List.mem_cons, List.not_mem_nil, or_false, not_or] at hb
        exact ⟨o, all b o hb.1 hb.2 q⟩
      · rw [upd_ne (ne_of_none q hfr)]; exact q
      · rw [upd_ne (ne_of_none q hfr)]; exact q
      · exact ⟨#[], by rw [upd_ne (ne_of_none q hfr), q]; simp⟩
      · obtain ⟨o, es, ep, ho, r⟩ := hm
        exact ⟨o, es, ep, all _ o (Ne.symm (hf e (by simp)).2.1) (Ne.symm (hf it (by simp)).2.1) ho, r⟩
      · exact ⟨by show 2 ≤ sizeLine; decide, [.int ((i + k : Nat) : Int) tk, .str ⟨#[c]⟩ u], .cons ⟨_, rfl⟩ (.cons ⟨_, rfl⟩ .nil), ⟨_, tT, rfl, _, rfl⟩⟩
    refine ⟨.ref s.heap.objs.size, _, I2, rfl, ⟨_, c, hfr, rfl, hcc, rfl⟩, ?_, fun b hb => ?_⟩
    · obtain ⟨_, b2⟩ := b2
      have e1 : i + k + 1 - k = i + 1 := by omega
      rw [e1] at b2
      obtain ⟨o, b2, r⟩ := b2
      have e3 : ((i + 1 + k : Nat) : Int) = ((i + k : Nat) : Int) + 1 := by omega
      refine ⟨?_, t, o, c2.extBut _ _ (Ne.symm hne) b2, r⟩
      rw [e3]
      exact ⟨_, c1⟩
    · have ne : b ≠ s.heap.objs.size := fun q => by
        have : b < s.heap.objs.size := by
          simp only [List.mem_cons, List.not_mem_nil, or_false] at hb
          obtain ⟨o4, a4, _⟩ := a4
          rcases hb with rfl | rfl
          · exact zlt
          · exact Heap.lt_size a4
        exact absurd (q ▸ this) (Nat.lt_irrefl _)
      rw [upd_ne ne]
      exact (hf b hb).1
  done := by
    intro X hP hw hK hc i pins s σ H E I hf st hg
    subst hP hw hK
    obtain ⟨⟨old, a1⟩, ⟨t, a4⟩⟩ := st
    have hi : i = z.cps.size := hg
    have hid := I.ok.hd (hc rfl)
    have D := Draws.strAscii (prog := X.prog) (w := X.w) (A := X.A.in1) hid it z t
    rw [hi] at a4
    refine wpAny_pyNext_enum_endD D a1 a4 fun h' up => ⟨rfl, ?_⟩
    refine I.step (g' := s.gens) (d' := s.drawn) (t' := s.toks) (ch := [it]) (fun b hb => ?_) (fun b o _ _ hb q _ => ?_) (fun b o _ _ hb q _ => ?_) (fun _ _ _ _ n => n) (fun b o hb q => ?_) (fun _ _ q => q) (fun _ _ _ q => q) (fun b ps q => ⟨#[], by rw [q]; simp⟩) (fun m hm => ?_) (fun b u q0 => ?_) I.bare
    · have hb' : b ∈ [e, it] := by simp only [List.mem_cons, List.not_mem_nil, or_false] at hb ⊢; exact .inr hb
      obtain ⟨f0, f1, f2, f3, f4, f5⟩ := hf b hb'
      exact ⟨f3, f1, f4, f5⟩
    · simp only [List.mem_cons, List.not_mem_nil, or_false] at hb
      exact up b o hb q
    · simp only [List.mem_cons, List.not_mem_nil, or_false] at hb
      exact ⟨o.slots, up b o hb q⟩
    · simp only [List.mem_cons, List.not_mem_nil, or_false] at hb
      exact ⟨o, up b o hb q⟩
    · obtain ⟨o, es, ep, ho, r⟩ := hm
      exact ⟨o, es, ep, up _ o (Ne.symm (hf it (by simp)).2.1) ho, r⟩
    · refine (I.hok b u q0).stay (fun c v hc q => ?_) (fun _ q => q) fun _ _ q => q
      have hnn : c ≠ it := fun w => by
        have fd := (hf it (by simp)).1
        rcases hc with k | k
        · rw [k] at w; rw [w, fd] at q0; cases q0
        · rw [w, fd] at k; cases k
      exact up c v hnn q
  self := fun _ _ _ _ _ st h => by
    obtain ⟨old, a1⟩ := st.en
    exact wpAny_pyIter_enum a1 h
end L2
set_option Elab.async false
set_option linter.all false
set_option maxRecDepth 100000
set_option maxHeartbeats 4000000
namespace L2
open PySem PySem.Spec PyProof.Rows
section
variable {prog : Program} {w : World} {A : Around} {E : Value → Shared → Prop} {s : Shared}
theorem typeCallK_enumerate (a b : Value) : checkTypeCall "enumerate" ⟨[a], [(Str.ofString "start", b)]⟩ = pure () := by kernel_rfl
theorem newCallK_enumerate (a b : Value) : checkBuiltinCall "enumerate.__new__" ⟨[.type "enumerate", a], [(Str.ofString "start", b)]⟩ = pure () := by kernel_rfl
theorem initK_enumerate (o a b : Value) : argsOk "object.__init__" ⟨[o, a], [(Str.ofString "start", b)]⟩ := by
  unfold argsOk; kernel_rfl
theorem enumNewK (x : Str) (t u : Tok) : Meets (Builtin.«enumerate.__new__» ⟨[.type "enumerate", .str x t], [(Str.ofString "start", .int 1 u)]⟩) (fun _ R s =>
      R (.ok (.ret (.ref (s.heap.push { cls := .type (strIterType x), data := .fields #[.str x t, .int 0 0] }).objs.size)))
        { s with heap := (s.heap.push { cls := .type (strIterType x), data := .fields #[.str x t, .int 0 0] }).push { cls := .type "enumerate", data := .fields #[.none, .bool false, .ref s.heap.objs.size, rawInt 1, .none, .none] } }) :=
  .of_wp fun prog w A R s h => by
    obtain ⟨hp, g, d, tk, os⟩ := s
    have hsub := sub_enumerate
    wp_walk
    refine wpAny_stack_any fun st => wpAny_pure ?_
    split
    · rename_i c _ _ _ _ _
      cases (c == Value.type "enumerate")
      · wp_walk using wpAny_pyIter_strU
        exact ⟨_, rfl, h⟩
      · wp_walk using wpAny_pyIter_strU
        exact ⟨_, rfl, h⟩
    · wp_walk using wpAny_pyIter_strU
      exact ⟨_, rfl, h⟩
end
end L2
set_option Elab.async false
set_option linter.all false
set_option maxRecDepth 100000
set_option maxHeartbeats 4000000
namespace L2
open PySem PySem.Spec PyProof.Rows
section
variable {prog : Program} {w : World} {A : Around} {E : Value → Shared → Prop} {s : Shared}
theorem objInitK {T newId : String} {self a : Value} {kws : List (Str × Value)} (hl : typeLookup (.type T) "__init__" = pure (some (.builtin "object.__init__")))
    (hm : Bind.madeBy (.type T) = pure (some newId)) (hne : (some newId != some "object.__new__") = true) : Meets (Builtin.«object.__init__» ⟨[self, a], kws⟩) (fun _ R s => s.TypeIs self T ∧ R (.ok (.ret .none)) s) := by
  refine Meets.of_wp fun prog w A R s ⟨hT, hq⟩ => ?_
  repeat (any_goals (first | assumption | wp_step))
  exact ⟨_, rfl, hq⟩
theorem callTypeK {T newId : String} {Bn : Builtin} {a : Value} {kws : List (Str × Value)} {S : PySem.Spec} {Q : Value → Shared → Prop} (ft : TypeCalled T newId "object.__init__") (hne : (some newId != some "object.__new__") = true)
    (hct : checkTypeCall T ⟨[a], kws⟩ = pure ()) (hcn : checkBuiltinCall newId ⟨[.type T, a], kws⟩ = pure ()) (hok : ∀ obj, argsOk "object.__init__" ⟨[obj, a], kws⟩) (entryN : entryFor table newId = some Bn) (g : Meets (Bn ⟨[.type T, a], kws⟩) S)
    (h : S A.in1 (wants (fun obj s₁ => s₁.TypeIs obj T ∧ Q obj s₁) E) s) : wpAny (model prog w) A (call (.type T) [a] kws) Q E s := by
  obtain ⟨c, tl, hmro⟩ := ft.mro
  have hmade := ft.made
  have hsub := ft.sub
  refine wpAny_call (A := A) (codeAny_of_tree (A := A) ?_)
  show wpAny (model prog w) _ (callAny (.type T) _) _ _ _
  refine wpAny_pure ⟨Code.quiet_builtin _ (by decide +kernel), codeAny_builtin (A := A) F.entry_type_call ?_⟩
  rw [Around.under_plain (weight_type_call_type T [a] kws) (units_type_call_type T [a] kws)]
  have k1 := ft.notType
  have k2 := ft.canCreate
  repeat (any_goals (first | assumption | wp_step))
  refine codeAny_mono (codeAny_call_builtin ft.plain entryN (wpAny_of_eq hcn (g prog w A.in1 _ s h))) fun r s1 hr => ?_
  cases r with
  | error e => exact hr
  | ok fl =>
    cases fl with
    | ret obj =>
      have hli := ft.init.lookup
      have hbi := ft.init.bind obj
      have hT := hr.1
      repeat (any_goals (first | assumption | wp_step))
      refine codeAny_mono (codeAny_call_builtin ft.init.plain F.entry_object_init (ft.init.check _ _ _ _ _ _ _ _ hr.1 (hok obj) (objInitK ft.init.lookup ft.made hne prog w A.in1 (wants (fun r s2 => r = .none ∧ Q obj s2) E) s1 ⟨hr.1, rfl, hr.2⟩))) fun r2 s2 hr2 => ?_
      cases r2 with
      | error e => exact hr2
      | ok fl2 =>
        cases fl2 with
        | ret r =>
          obtain ⟨rfl, hq⟩ := hr2
          repeat (any_goals (first | assumption | wp_step))
        | _ => exact hr2.elim
    | _ => exact hr.elim
theorem callEnumK {x : Str} {t u : Tok} {Q : Value → Shared → Prop}
    (h : ∀ h', IsEnum h' (s.heap.objs.size + 1) s.heap.objs.size 1 .none → h'.IsStrIter s.heap.objs.size (strIterType x) x t 0 → h'.objs.size = s.heap.objs.size + 2 → (∀ b o, s.heap.get? b = some o → h'.get? b = some o) → Q (.ref (s.heap.objs.size + 1)) { s with heap := h' }) :
    wpAny (model prog w) A (call (.type "enumerate") [.str x t] [(Str.ofString "start", .int 1 u)]) Q E s := by
  refine callTypeK F.called_enumerate (by decide) (typeCallK_enumerate _ _) (newCallK_enumerate _ _) (fun obj => initK_enumerate obj _ _) F.entry_enumerate_new (enumNewK x t u) ?_
  have hz : (s.heap.push { cls := .type (strIterType x), data := .fields #[.str x t, .int 0 0] }).objs.size = s.heap.objs.size + 1 := Heap.size_push ..
  show _ ∧ _
  rw [hz]
  have he : IsEnum ((s.heap.push { cls := .type (strIterType x), data := .fields #[.str x t, .int 0 0] }).push { cls := .type "enumerate", data := .fields #[.none, .bool false, .ref s.heap.objs.size, rawInt 1, .none, .none] }) (s.heap.objs.size + 1) s.heap.objs.size 1 .none := by
    have q := Heap.get?_push_size (s.heap.push { cls := .type (strIterType x), data := .fields #[.str x t, .int 0 0] }) (o := { cls := .type "enumerate", data := .fields #[.none, .bool false, .ref s.heap.objs.size, rawInt 1, .none, .none] }) rfl
    rw [hz] at q; exact q
  exact ⟨⟨_, he, rfl⟩, h _ he ⟨_, Heap.get?_push_of_some _ (Heap.get?_push_size _ rfl), rfl, rfl⟩ (by rw [Heap.size_push, hz]) fun b o y => Heap.get?_push_of_some _ (Heap.get?_push_of_some _ y)⟩
theorem callWithTK {M : Model} {pos : Pos} {T : String} {args : List (Bool × Sem Value)} {keywords : List (Option Str × Sem Value)} {Q : Value → Shared → Prop} (hplain : args.any (·.1) = false) (hkw : keywords.any (·.1.isNone) = false)
    (h : wpAny M A (evalArgs (.type T) true args keywords) (fun a s1 => wpAny M A (call (.type T) a.pos a.kw) Q E s1) E s) : wpAny M A (callWith pos (.type T) [] args keywords) Q E s := by
  unfold callWith
  refine wpAny_bind (wpAny_holding (wpAny_mono h (fun a s1 h1 => wpAny_bind (wpAny_standAt ?_)) fun _ _ x => x))
  simp only [hplain, hkw, Bool.or_false]
  exact wpAny_bind (wpAny_pure (wpAny_bind (wpAny_mono h1 (fun r s2 hr => wpAny_bind (wpAny_holding (wpAny_point (wpAny_pure hr)))) fun _ _ x => x)))
end
section
variable {X : Cx}
def iEnumS (k : Nat) (ta : TE) : TI := fun σ H R => ta σ H fun x H1 => uS x fun z => asc z = true ∧ R (IteS z k) H1
theorem iEnumS_eq {k : Nat} {ta : TE} {σ : St} {H : Hp} {R : It → Hp → Prop} : iEnumS k ta σ H R = ta σ H fun x H1 => uS x fun z => asc z = true ∧ R (IteS z k) H1 := rfl
theorem strIterType_asc {z : Str} (h : asc z = true) : strIterType z = "str_ascii_iterator" := by
  unfold strIterType; rw [show z.cps.all (· < 128) = true from h]; rfl
theorem pi_enumS {elts : List Expr} {kk : Nat} {tp p pos : Pos} {a : Expr} {ta : TE} (hg : Gl X "enumerate") (hm : X.mg "enumerate" = none) (ha : PE X a ta) (hp : plainE a = true := by rfl) :
    PIc true X (.Tuple elts kk tp) (.Call (.Name "enumerate" p) [a] [] pos) (iEnumS 0 ta) := by
  intro pins s σ H R I h
  have hs : starEach [a] X.env = [(false, eval a X.env)] := star1 hp
  have hA := pa_cons ha pa_nil (hs := hs) pos pins s σ H (fun ys H2 => match ys with | [y] => uS y fun z => asc z = true ∧ R (IteS z 0) H2 | _ => False) I h
  refine Call_ (ld_blt I hg hm boot_enumerate (PyProof.Rows.callWith_type1 (thn hA fun us s1 ⟨vs, H1, I1, r1, q1⟩ => ?_) hs rfl))
  match vs, q1, r1 with
  | [y], ⟨z, ey, hz, q⟩, r1 =>
    subst ey
    cases r1 with
    | cons r rr =>
      cases rr
      obtain ⟨t, rfl⟩ := r
      refine call_enumerate_str fun h' a1 a4 a6 a7 => wpAny_pyIter_enum (s := { s1 with heap := h' }) a1 ?_
      rw [strIterType_asc hz] at a4
      refine ⟨_, _, _, _, H1, rfl, I1.kept (t' := s1.toks) a7, turn_enumS (Nat.succ_ne_self _), ⟨⟨_, a1⟩, t, a4⟩, fun b hb => ?_, q⟩
      have le : s1.heap.objs.size ≤ b := by
        simp only [List.mem_cons, List.not_mem_nil, or_false] at hb
        rcases hb with rfl | rfl <;> omega
      exact I1.fpOk le (I1.hok.fresh le)
theorem pi_enumK {elts : List Expr} {kk j : Nat} {tp p pos kp cp : Pos} {a : Expr} {ta : TE} (hg : Gl X "enumerate") (hm : X.mg "enumerate" = none) (ha : PE X a ta) (hp : plainE a = true := by rfl) :
    PIc true X (.Tuple elts kk tp) (.Call (.Name "enumerate" p) [a] [⟨some (Str.ofString "start"), .Constant (.int 1) j cp, kp⟩] pos) (iEnumS 1 ta) := by
  intro pins s σ H R I h
  have hs : starEach [a] X.env = [(false, eval a X.env)] := star1 hp
  have hA := pa_cons ha pa_nil (hs := hs) pos pins s σ H (fun ys H2 => match ys with | [y] => uS y fun z => asc z = true ∧ R (IteS z 1) H2 | _ => False) I h
  refine wpAny_Call_Name_kw (ld_blt I hg hm boot_enumerate (callWithTK (by rw [hs]; rfl) rfl ?_))
  rw [hs] at hA ⊢
  refine evalArgs_kwB rfl (thn hA fun us s1 ⟨vs, H1, I1, r1, q1⟩ => kws_cons (thn (pe_int pins s1 σ H1 (fun v H => v = .int 1 ∧ H = H1) I1 ⟨rfl, rfl⟩) fun w2 s2 ⟨y2, H2, I2, r2, ey2, eH2⟩ => kws_nil ?_))
  subst ey2 eH2
  obtain ⟨t2, rfl⟩ := r2
  match vs, q1, r1 with
  | [y], ⟨z, ey, hz, q⟩, r1 =>
    subst ey
    cases r1 with
    | cons r rr =>
      cases rr
      obtain ⟨t, rfl⟩ := r
      refine callEnumK (s := s2) fun h' a1 a4 a6 a7 => wpAny_pyIter_enum (s := { s2 with heap := h' }) a1 ?_
      rw [strIterType_asc hz] at a4
      refine ⟨_, _, _, _, H2, rfl, I2.kept (t' := s2.toks) a7, turn_enumS (Nat.succ_ne_self _), ⟨⟨_, a1⟩, t, a4⟩, fun b hb => ?_, q⟩
      have le : s2.heap.objs.size ≤ b := by
        simp only [List.mem_cons, List.not_mem_nil, or_false] at hb
        rcases hb with rfl | rfl
        · exact Nat.le_succ _
        · exact Nat.le_refl _
      exact I2.fpOk le (I2.hok.fresh le)
end
section
variable {K : PySem.W.Frag} {g : TG} {tb : TS} {D : Ends} {σ : St} {H : Hp} {tt : TT} {te : TE} {Q : VK}
theorem ForJ.enumS {z : Str} {k : Nat} (Pv : Nat → St → Hp → Prop) (h0 : Pv 0 σ H)
    (hs : ∀ i c p σ H, z.cps[i]? = some c → Pv i σ H → H p = none → g (.ref p) σ (upd H p (.tup [.int ((i + k : Nat) : Int), .str ⟨#[c]⟩])) fun σ2 H2 => tb { D with nx := Pv (i + 1), ct := Pv (i + 1), bk := D.nx } σ2 H2) (hd : ∀ σ H, Pv z.cps.size σ H → D.nx σ H) : ForJ (IteS z k) g tb D σ H := by
  refine ⟨fun i m σ H => m = z.cps.size - i ∧ i ≤ z.cps.size ∧ Pv i σ H, ⟨z.cps.size, by simp, Nat.zero_le _, h0⟩, ?_⟩
  rintro i m σ H ⟨rfl, hi, p⟩
  by_cases hlt : i < z.cps.size
  · refine .inr ⟨hlt, Pv (i + 1), fun σ' H' p' => ⟨z.cps.size - (i + 1), by omega, rfl, hlt, p'⟩, fun x H' y => ?_⟩
    obtain ⟨T, c, hT, rfl, hc, rfl⟩ := y
    exact hs i c T σ _ hc p hT
  · have e : i = z.cps.size := by omega
    subst e
    exact .inl ⟨rfl, hd σ H p⟩
/-- a comprehension over a text -/
theorem CompJ.str {z : Str} {τ : St} (Pv : Nat → St → List V → Hp → Prop) (hz : ∀ i τ ys H, Pv i τ ys H → ys.length < sizeLine) (h0 : Pv 0 τ [] H)
    (hs : ∀ (N : St → List V → Hp → Prop) i c τ ys H, z.cps[i]? = some c → Pv i τ ys H → (∀ τ ys H, Pv (i + 1) τ ys H → N τ ys H) → g (.str ⟨#[c]⟩) τ H fun τ1 H4 => tt τ1 H4 fun ok H5 => CompN N ys τ1 te ok H5) (hd : ∀ τ ys H, Pv z.cps.size τ ys H → ∀ D H', New H D (.lst ys) H' → Q (.ref D) H') : CompJ (Its z) g tt te τ H Q := by
  refine ⟨fun i m τ ys H => m = z.cps.size - i ∧ i ≤ z.cps.size ∧ Pv i τ ys H, ⟨z.cps.size, by simp, Nat.zero_le _, h0⟩, ?_⟩
  rintro i m τ ys H2 ⟨rfl, hi, p⟩
  refine ⟨hz i τ ys H2 p, ?_⟩
  by_cases hlt : i < z.cps.size
  · refine .inr ⟨hlt, fun x H' y => ?_⟩
    obtain ⟨e, c, hc, rfl⟩ := y
    subst e
    exact hs (fun τ1 ys H => ∃ m', m' < z.cps.size - i ∧ m' = z.cps.size - (i + 1) ∧ i + 1 ≤ z.cps.size ∧ Pv (i + 1) τ1 ys H) i c τ ys _ hc p fun τ1 zs H q => ⟨z.cps.size - (i + 1), by omega, rfl, hlt, q⟩
  · have e : i = z.cps.size := by omega
    subst e
    exact .inl ⟨Nat.le_refl _, fun D hD => hd τ ys H2 p D _ (.mk' hD)⟩
end
end L2
set_option Elab.async false
set_option linter.all false
set_option maxRecDepth 100000
set_option maxHeartbeats 4000000
namespace L2
open PySem PySem.Spec PyProof.Rows
section
variable {X : Cx}
/-! ### all(list of bools) -/
def uAll : List V → Hp → VK → Prop := fun xs H Q => uR1 xs fun p => ∃ bs : List Bool, H p = some (.lst (bs.map V.bl)) ∧ Q (.bl (bs.all id)) H
theorem vals_bl {bs : List Bool} : ∀ {us : List Value}, Vals (bs.map V.bl) us → us = bs.map Value.bool := by
  induction bs with
  | nil => intro us r; rw [List.map_nil] at r; cases r; rfl
  | cons b bs ih =>
    intro us r
    rw [List.map_cons] at r
    cases r with
    | cons r1 r2 => rw [show _ = Value.bool b from r1, ih r2]; rfl
theorem call_allU (hc : X.calm = true) : CallR X (.builtin "all") uAll := by
  intro pins s σ H xs us Q I r h
  obtain ⟨p, rfl, bs, hp, q⟩ := h
  cases r with
  | cons r1 rr =>
    cases rr
    cases (show _ = Value.ref p from r1)
    obtain ⟨its, rv, pl, _⟩ := I.list (SqL.of (K := X.K) hp)
    have e := vals_bl rv
    subst e
    have hne : p ≠ s.heap.objs.size := by obtain ⟨o, e, _⟩ := pl.isList; exact Nat.ne_of_lt (Heap.lt_size e)
    refine call_all_walk (wpAny_pyIter_list pl.isList ?_)
    have hl : ∀ k : Nat, k = bs.length → (List.range k).all (fun i => bs.getD i true) = bs.all id := by
      intro k e
      subst e
      rw [Bool.eq_iff_iff, List.all_eq_true, List.all_eq_true]
      constructor
      · intro h x hx
        obtain ⟨i, hi, rfl⟩ := List.getElem_of_mem hx
        have := h i (List.mem_range.mpr hi)
        rw [List.getD_eq_getElem?_getD, List.getElem?_eq_getElem hi] at this
        exact this
      · intro h i hi
        have hi := List.mem_range.mp hi
        rw [List.getD_eq_getElem?_getD, List.getElem?_eq_getElem hi]
        exact h _ (List.getElem_mem hi)
    refine ⟨s.heap.objs.size, _, _, _, _, _, fun i => bs.getD i true, rfl, Walks.list (prog := X.prog) (w := X.w) (A := X.A.in1) (show X.A.in1.handled = none from I.ok.hd hc) s.heap.objs.size p hne (bs.map Value.bool).toArray, ⟨⟨_, Heap.get?_push_size _ rfl, rfl, rfl⟩, pl.isList.push _⟩, ?_, fun h' tk kp => ?_⟩
    · intro i v s2 Q2 E2 hv hQ
      have hv : (bs.map Value.bool)[i]? = some v := by simpa using hv
      rw [List.getElem?_map] at hv
      cases e : bs[i]? with
      | none => rw [e] at hv; cases hv
      | some b =>
        rw [e] at hv
        cases hv
        have e2 : bs.getD i true = b := by rw [List.getD_eq_getElem?_getD, e]; rfl
        have hQ : Q2 (bs.getD i true) s2 := hQ
        rw [e2] at hQ
        exact wpAny_pure hQ
    · refine ⟨.bl _, H, I.kept (t' := tk) fun b o e => kp b o ?_ (Heap.get?_push_of_some _ e), rfl, ?_⟩
      · simpa using Nat.ne_of_lt (Heap.lt_size e)
      · rw [hl _ (by simp)]; exact q
theorem uAll_r {p : Addr} {H : Hp} {Q : VK} : uAll [.ref p] H Q = ∃ bs : List Bool, H p = some (.lst (bs.map V.bl)) ∧ Q (.bl (bs.all id)) H := uR1_r
/-! ### is True, is False, is None -/
def uIs (neg : Bool) : R2 := fun x y H Q => (y = .non ∨ ∃ b, y = .bl b ∧ flatV x = true) ∧ Q (.bl (if neg then !decide (x = y) else decide (x = y))) H
theorem op_isV : OpR X (compareOp .Is) (uIs false) := by
  intro pins s σ H x y v u Q I rx ry h
  obtain ⟨hy, q⟩ := h
  rcases hy with rfl | ⟨b, rfl, hf⟩
  · exact op_isN pins s σ H x .non v u Q I rx ry ⟨rfl, by simpa using q⟩
  · cases ry
    cases x with
    | bl c =>
      cases rx
      refine wpAny_pure ⟨.bl _, H, I, rfl, ?_⟩
      have e : decide (V.bl c = V.bl b) = (Value.bool c == Value.bool b) := by cases c <;> cases b <;> rfl
      have q' : Q (.bl (decide (V.bl c = V.bl b))) H := q
      rw [e] at q'
      exact q'
    | int i =>
      obtain ⟨t, rfl⟩ := rx
      exact wpAny_pure ⟨.bl false, H, I, rfl, by simpa using q⟩
    | str z =>
      obtain ⟨t, rfl⟩ := rx
      exact wpAny_pure ⟨.bl false, H, I, rfl, by simpa using q⟩
    | non =>
      cases rx
      exact wpAny_pure ⟨.bl false, H, I, rfl, by simpa using q⟩
    | _ => exact absurd (show false = true from hf) Bool.false_ne_true
theorem uIs_b {c b : Bool} {x : V} {H : Hp} {Q : VK} : uIs c x (.bl b) H Q = (flatV x = true ∧ Q (.bl (if c then !decide (x = .bl b) else decide (x = .bl b))) H) := by simp [uIs]
theorem uIs_n {c : Bool} {x : V} {H : Hp} {Q : VK} : uIs c x .non H Q = Q (.bl (if c then !decide (x = .non) else decide (x = .non))) H := by simp [uIs]
/-! ### in -/
def uIn : R2 := fun x y H Q => (∃ i j, x = .str i ∧ y = .str j ∧ Q (.bl (!(Builtin.Str.occurrences j i 0 j.length 1).isEmpty)) H) ∨ ∃ p xs, y = .ref p ∧ (H p = some (.lst xs) ∨ H p = some (.tup xs)) ∧ flatV x = true ∧ xs.all flatV = true ∧ Q (.bl (inV x xs)) H
theorem op_inU (hu : X.A.units < cLine) : OpR X (compareOp .In) uIn := (op_in_str.or op_in_seq).weak fun x y H Q h => by
  rcases h with h | ⟨p, xs, e, h, f1, f2, q⟩
  · exact .inl h
  · exact .inr ⟨p, xs, e, h.elim (fun h => .inl (SqL.of h)) (fun h => .inr (SqT.of h)), f1, f2, by simpa using q⟩
theorem uIn_ss {x y : Str} {H : Hp} {Q : VK} : uIn (.str x) (.str y) H Q = Q (.bl (!(Builtin.Str.occurrences y x 0 y.length 1).isEmpty)) H := by simp [uIn]
theorem uIn_r {x : V} {p : Addr} {H : Hp} {Q : VK} : uIn x (.ref p) H Q = ∃ xs, (H p = some (.lst xs) ∨ H p = some (.tup xs)) ∧ flatV x = true ∧ xs.all flatV = true ∧ Q (.bl (inV x xs)) H := by simp [uIn]
/-! ### rfind, split -/
def uM1 (to te : TE) (r : Str → V → Hp → VK → Prop) : TE := fun σ H Q => to σ H fun x H1 => uS x fun z => te σ H1 fun y H2 => r z y H2 Q
theorem uM1_eq {to te : TE} {r : Str → V → Hp → VK → Prop} {σ : St} {H : Hp} {Q : VK} : uM1 to te r σ H Q = to σ H fun x H1 => uS x fun z => te σ H1 fun y H2 => r z y H2 Q := rfl
theorem pe_sm1 {o e : Expr} {to te : TE} {apos cpos : Pos} {m : Str} {id : String} {r : Str → V → Hp → VK → Prop} (hs1 : Slot "str" m id) (hs2 : typeOf (.builtin id) = pure (.type "method_descriptor"))
    (hr : ∀ (pins : List (Addr × Obj)) (s : Shared) (σ : St) (H : Hp) (z : Str) (y : V) (t : Tok) (v : Value) (Q : VK), Inv X pins σ H s → RelV y v → r z y H Q → wpAny (model X.prog X.w) X.A (call (.builtin id) [.str z t, v]) (fun u s1 => ∃ x H', Inv X pins σ H' s1 ∧ RelV x u ∧ Q x H') X.xe s)
    (ho : PE X o to) (he : PE X e te) (hbase : attributeBase o m X.env (eval o X.env) = eval o X.env := by rfl) (hline : (apos.endLine == cpos.line) = true := by rfl) (hp : plainE e = true := by rfl) :
    PE X (.Call (.Attribute o m apos) [e] [] cpos) (uM1 to te r) := by
  intro pins s σ H Q I h
  have hs : starEach [e] X.env = [(false, eval e X.env)] := star1 hp
  refine wpAny_Call_method_late hbase (by rw [hs]; rfl) hline rfl (thn (ho pins s σ H _ I h) fun v s1 ⟨x, H1, I1, r1, z, ex, q1⟩ => ?_)
  subst ex
  obtain ⟨h1, h2⟩ := tyV_is (T := "str") I1 r1 rfl
  refine ⟨"str", id, PySem.F.plainAttrs_str, hs1, hs2, h1, h2, ?_⟩
  rw [hs]
  refine Calls.callWith_builtin rfl (Calls.evalArgs_plain ?_)
  have hA := pa_cons he pa_nil (hs := hs) cpos pins s1 σ H1 (fun ys H2 => match ys with | [y] => r z y H2 Q | _ => False) I1 q1
  rw [hs] at hA
  refine thn hA fun us s2 ⟨vs, H2, I2, r2, q2⟩ => ?_
  obtain ⟨t, rfl⟩ := r1
  match vs, q2, r2 with
  | [y], q2, .cons ry .nil => exact hr pins s2 σ H2 z y t _ Q I2 ry q2
def rRfind : Str → V → Hp → VK → Prop := fun z y H Q => uS y fun q => Q (.int (PySem.Txt.rfind z q)) H
theorem pe_b_rfind {o e : Expr} {to te : TE} {apos cpos : Pos} (ho : PE X o to) (he : PE X e te) (hbase : attributeBase o "rfind" X.env (eval o X.env) = eval o X.env := by rfl) (hline : (apos.endLine == cpos.line) = true := by rfl) (hp : plainE e = true := by rfl) :
    PE X (.Call (.Attribute o "rfind" apos) [e] [] cpos) (uM1 to te rRfind) :=
  pe_sm1 PySem.F.slot_str_rfind PySem.F.type_str_rfind (fun pins s σ H z y t v Q I ry q => by
    obtain ⟨w, rfl, q⟩ := q
    obtain ⟨u, rfl⟩ := ry
    exact call_meets PySem.F.slot_str_rfind (typeIs_str _ _ _) PySem.F.entry_str_rfind (PySem.F.args_str_rfind_2 _ _) (gives_str_rfind z w t u).meets ⟨.int _, H, I.tok _, ⟨_, rfl⟩, q⟩) ho he hbase hline hp
theorem rRfind_s {z q : Str} {H : Hp} {Q : VK} : rRfind z (.str q) H Q = Q (.int (PySem.Txt.rfind z q)) H := uS_s
theorem vals_strsFrom : ∀ (k : Nat) (ys : List Str), Vals (ys.map V.str) (strsFrom k ys)
  | _, [] => .nil
  | k, y :: ys => .cons ⟨k, rfl⟩ (vals_strsFrom (k + 1) ys)
def rSplit : Str → V → Hp → VK → Prop := fun z y H Q => uS y fun q => (q.length == 0) = false ∧ z.length < sizeLine ∧ (PySem.Txt.split z q).length ≤ sizeLine ∧ ∀ p H2, New H p (.lst ((PySem.Txt.split z q).map V.str)) H2 → Q (.ref p) H2
theorem pe_b_split {o e : Expr} {to te : TE} {apos cpos : Pos} (ho : PE X o to) (he : PE X e te) (hbase : attributeBase o "split" X.env (eval o X.env) = eval o X.env := by rfl) (hline : (apos.endLine == cpos.line) = true := by rfl) (hp : plainE e = true := by rfl) :
    PE X (.Call (.Attribute o "split" apos) [e] [] cpos) (uM1 to te rSplit) :=
  pe_sm1 PySem.F.slot_str_split PySem.F.type_str_split (fun pins s σ H z y t v Q I ry q => by
    obtain ⟨w, rfl, hw, hz, hn, q⟩ := q
    obtain ⟨u, rfl⟩ := ry
    have lay : ∀ (ys : List Str) (us : List Value) (k : Nat), ys = PySem.Txt.split z w → Vals (ys.map V.str) us → ∃ x H', Inv X pins σ H' { s with heap := s.heap.push { cls := .type "list", data := .seq us.toArray }, toks := k } ∧ RelV x (.ref s.heap.objs.size) ∧ Q x H' := fun ys us k e rv => by
      subst e
      have hl := rv.length
      rw [List.length_map] at hl
      exact ⟨.ref s.heap.objs.size, _, I.laid (t' := k) (o := .lst _) (fun b ob q => Heap.get?_push_of_some _ q) (Nat.le_refl _) ⟨by rw [List.length_map]; exact hn, us, 0, rv, Heap.get?_push_size _ rfl⟩, rfl, q _ _ (.mk' (I.hok.fresh (Nat.le_refl _)))⟩
    cases h1 : (decide (z.length < w.length) || decide (Builtin.Str.strKind z < Builtin.Str.strKind w))
    · cases hf : (Builtin.Str.occurrences z w 0 z.length (z.length + 1)).isEmpty
      · have es : PySem.Txt.split z w = Builtin.Str.partsBetween z (Builtin.Str.occurrences z w 0 z.length (z.length + 1)) w.length := (if_neg (ne_true_of_eq_false h1)).trans (if_neg (ne_true_of_eq_false hf))
        rw [es] at hn
        exact call_meets PySem.F.slot_str_split (typeIs_str _ _ _) PySem.F.entry_str_split (PySem.F.args_str_split_2 _ _) (meets_str_split_sep z w t u h1 hw hf (Nat.le_of_lt hz) hn) (lay _ _ _ es.symm (vals_strsFrom _ _))
      · exact call_meets PySem.F.slot_str_split (typeIs_str _ _ _) PySem.F.entry_str_split (PySem.F.args_str_split_2 _ _) (meets_str_split_not_found z w t u h1 hw hf) (lay [z] [.str z t] s.toks ((if_neg (ne_true_of_eq_false h1)).trans (if_pos hf)).symm (.cons ⟨t, rfl⟩ .nil))
    · exact call_meets PySem.F.slot_str_split (typeIs_str _ _ _) PySem.F.entry_str_split (PySem.F.args_str_split_2 _ _) (meets_str_split_cannot_occur z w t u h1) (lay [z] [.str z t] s.toks (if_pos h1).symm (.cons ⟨t, rfl⟩ .nil))) ho he hbase hline hp
theorem rSplit_s {z q : Str} {H : Hp} {Q : VK} : rSplit z (.str q) H Q = ((q.length == 0) = false ∧ z.length < sizeLine ∧ (PySem.Txt.split z q).length ≤ sizeLine ∧ ∀ p H2, New H p (.lst ((PySem.Txt.split z q).map V.str)) H2 → Q (.ref p) H2) := uS_s
/-! ### f"{a}{b}c" -/
def uFmt (te : TE) : TE := fun σ H Q => te σ H fun x H1 => (∃ z, x = .str z ∧ z.length ≤ sizeLine ∧ Q (.str z) H1) ∨ ∃ i, x = .int i ∧ i.natAbs.log2 < 1920 ∧ Q (.str (toString i)) H1
def rFmt : V → Hp → VK → Prop := fun x H1 Q => (∃ z, x = .str z ∧ z.length ≤ sizeLine ∧ Q (.str z) H1) ∨ ∃ i, x = .int i ∧ i.natAbs.log2 < 1920 ∧ Q (.str (toString i)) H1
theorem uFmt_eq {te : TE} {σ : St} {H : Hp} {Q : VK} : uFmt te σ H Q = te σ H fun x H1 => rFmt x H1 Q := rfl
theorem rFmt_s {z : Str} {H : Hp} {Q : VK} : rFmt (.str z) H Q = (z.length ≤ sizeLine ∧ Q (.str z) H) := by simp [rFmt]
theorem rFmt_i {i : Int} {H : Hp} {Q : VK} : rFmt (.int i) H Q = (i.natAbs.log2 < 1920 ∧ Q (.str (toString i)) H) := by simp [rFmt]
theorem pe_fmt {e : Expr} {te : TE} {pos : Pos} (he : PE X e te) : PE X (.FormattedValue e (-1) none pos) (uFmt te) := by
  intro pins s σ H Q I h
  refine FormattedValue_plain (thn (he pins s σ H _ I h) fun v s1 ⟨x, H1, I1, r1, q1⟩ => ?_)
  rcases q1 with ⟨z, rfl, hz, q⟩ | ⟨i, rfl, hi, q⟩
  · obtain ⟨t, rfl⟩ := r1
    exact formatField_str (fun t' tk => ⟨.str z, H1, I1.tok _, ⟨_, rfl⟩, q⟩) hz
  · obtain ⟨t, rfl⟩ := r1
    exact formatField_int_small hi ⟨.str _, H1, I1.tok _, ⟨_, rfl⟩, q⟩
abbrev TJ := Str → TE
def PJ (X : Cx) (es : List Expr) (tj : TJ) : Prop := ∀ (out : Str) (pins : List (Addr × Obj)) (s : Shared) (σ : St) (H : Hp) (Q : VK), Inv X pins σ H s → tj out σ H Q →
  wpAny (model X.prog X.w) X.A (joinParts out (evalEach es X.env)) (fun u s1 => ∃ x H', Inv X pins σ H' s1 ∧ RelV x u ∧ Q x H') X.xe s
def jNil : TJ := fun out _ H Q => out.length ≤ sizeLine ∧ Q (.str out) H
def jCons (te : TE) (tj : TJ) : TJ := fun out σ H Q => te σ H fun x H1 => uS x fun y => (out ++ y).length ≤ sizeLine ∧ tj (out ++ y) σ H1 Q
theorem pj_nil : PJ X [] jNil := fun out pins s σ H Q I h => joinParts_nil ⟨.str out, H, I.tok _, ⟨_, rfl⟩, h.2⟩ h.1
theorem pj_cons {e : Expr} {es : List Expr} {te : TE} {tj : TJ} (he : PE X e te) (hj : PJ X es tj) : PJ X (e :: es) (jCons te tj) := fun out pins s σ H Q I h => by
  refine joinParts_cons (thn (he pins s σ H _ I h) fun v s1 ⟨x, H1, I1, r1, q1⟩ => ?_)
  obtain ⟨y, rfl, hy, q⟩ := q1
  obtain ⟨t, rfl⟩ := r1
  exact ⟨hy, hj _ pins s1 σ H1 Q I1 q⟩
def tJoined (tj : TJ) : TE := tj Str.empty
theorem tJoined_eq {tj : TJ} : tJoined tj = tj Str.empty := rfl
theorem pe_fstr {e e' : Expr} {es : List Expr} {tj : TJ} {pos : Pos} (h : PJ X (e :: e' :: es) tj) : PE X (.JoinedStr (e :: e' :: es) pos) (tJoined tj) := fun pins s σ H Q I q => JoinedStr_many (h Str.empty pins s σ H Q I q)
/-! ### int(text), str(text), tuple(list) -/
def uIntT : List V → Hp → VK → Prop := fun xs H Q => uInt xs H Q ∨ ∃ z n, xs = [.str z] ∧ z.length ≤ 640 ∧ PySem.intText? z = some n ∧ Q (.int n) H
theorem call_intT : CallR X (.type "int") uIntT := by
  intro pins s σ H xs us Q I r h
  rcases h with h | ⟨z, n, rfl, hl, hn, q⟩
  · exact call_intU pins s σ H xs us Q I r h
  · cases r with
    | cons r1 rr =>
      cases rr
      obtain ⟨t, rfl⟩ := r1
      exact PySem.W.KIN.call_text hn hl ⟨.int n, H, I.tok _, ⟨_, rfl⟩, q⟩
theorem uIntT_i {i : Int} {H : Hp} {Q : VK} : uIntT [.int i] H Q = Q (.int i) H := by simp [uIntT, uInt]
theorem uIntT_b {k : Bool} {H : Hp} {Q : VK} : uIntT [.bl k] H Q = Q (.int (if k then 1 else 0)) H := by simp [uIntT, uInt]
theorem uIntT_s {z : Str} {H : Hp} {Q : VK} : uIntT [.str z] H Q = ∃ n, z.length ≤ 640 ∧ PySem.intText? z = some n ∧ Q (.int n) H := by simp [uIntT, uInt]
def uStrT : List V → Hp → VK → Prop := fun xs H Q => uStr xs H Q ∨ ∃ z, xs = [.str z] ∧ Q (.str z) H
theorem call_strT : CallR X (.type "str") uStrT := by
  intro pins s σ H xs us Q I r h
  rcases h with h | ⟨z, rfl, q⟩
  · exact call_strU pins s σ H xs us Q I r h
  · cases r with
    | cons r1 rr =>
      cases rr
      obtain ⟨t, rfl⟩ := r1
      exact PySem.P.str_of_str ⟨.str z, H, I, ⟨_, rfl⟩, q⟩
theorem uStrT_i {i : Int} {H : Hp} {Q : VK} : uStrT [.int i] H Q = (i.natAbs.log2 < 1920 ∧ Q (.str (toString i)) H) := by simp [uStrT, uStr]
theorem uStrT_s {z : Str} {H : Hp} {Q : VK} : uStrT [.str z] H Q = Q (.str z) H := by simp [uStrT, uStr]
def uTupOf : List V → Hp → VK → Prop := fun xs H Q => uR1 xs fun p => ∃ ys, H p = some (.lst ys) ∧ ∀ l H2, New H l (.tup ys) H2 → Q (.ref l) H2
theorem call_tupU : CallR X (.type "tuple") uTupOf := call_tuple_of.weak fun xs H Q h => by
  obtain ⟨p, e, ys, h1, q⟩ := h
  exact ⟨p, ys, e, .inl ⟨SqL.of h1, fun l hl => q l _ (.mk' hl)⟩⟩
theorem uTupOf_r {p : Addr} {H : Hp} {Q : VK} : uTupOf [.ref p] H Q = ∃ ys, H p = some (.lst ys) ∧ ∀ l H2, New H l (.tup ys) H2 → Q (.ref l) H2 := uR1_r
def uOrd : List V → Hp → VK → Prop := fun xs H Q => ∃ x, xs = [.str x] ∧ x.length = 1 ∧ Q (.int (x.cps.getD 0 0 : Nat)) H
theorem call_ordU : CallR X (.builtin "ord") uOrd := call_ord
theorem uOrd_s {x : Str} {H : Hp} {Q : VK} : uOrd [.str x] H Q = (x.length = 1 ∧ Q (.int (x.cps.getD 0 0 : Nat)) H) := by simp [uOrd]
end
end L2
set_option Elab.async false
set_option linter.all false
set_option maxRecDepth 100000
set_option maxHeartbeats 4000000
namespace L2
open PySem PySem.Spec PyProof.Rows
/-! ### == of tuples of flat things -/
section
variable {X : Cx}
def uEqT : R2 := fun x y H Q => uEq false x y H Q ∨ ∃ a b xs ys, x = .ref a ∧ y = .ref b ∧ H a = some (.tup xs) ∧ H b = some (.tup ys) ∧ xs.all flatV = true ∧ ys.all flatV = true ∧ Q (.bl (eqL xs ys)) H
theorem op_eqT0 (hu : X.A.units < cLine) : OpR X (compareOp .Eq) (fun x y H Q => ∃ a b xs ys, x = .ref a ∧ y = .ref b ∧ H a = some (.tup xs) ∧ H b = some (.tup ys) ∧ xs.all flatV = true ∧ ys.all flatV = true ∧ Q (.bl (eqL xs ys)) H) := by
  intro pins s σ H x y v u Q I rx ry h
  obtain ⟨a, b, xs, ys, rfl, rfl, ha, hb, fx, fy, q⟩ := h
  cases rx
  cases ry
  obtain ⟨is, r1, p1, _⟩ := I.tuple (SqT.of (K := X.K) ha)
  obtain ⟨js, r2, p2, _⟩ := I.tuple (SqT.of (K := X.K) hb)
  have l1 := r1.length
  have l2 := r2.length
  refine SeqAt.eq_tupleAt (e := fun j => eqV (xs.getD j .non) (ys.getD j .non)) p1 p2 hu (fun j h1 h2 => ?_) ⟨.bl _, H, I, rfl, ?_⟩
  · simp only [List.size_toArray] at h1 h2
    have e1 : xs[j]? = some (xs.getD j .non) := by rw [List.getD_eq_getElem?_getD, List.getElem?_eq_getElem (by omega)]; rfl
    have e2 : ys[j]? = some (ys.getD j .non) := by rw [List.getD_eq_getElem?_getD, List.getElem?_eq_getElem (by omega)]; rfl
    obtain ⟨u, g1, q1⟩ := r1.get e1
    obtain ⟨v, g2, q2⟩ := r2.get e2
    rw [List.getElem?_eq_getElem h1] at g1
    rw [List.getElem?_eq_getElem h2] at g2
    have w1 : is.toArray[j] = u := by simpa using Option.some.inj g1
    have w2 : js.toArray[j] = v := by simpa using Option.some.inj g2
    rw [w1, w2]
    exact eqAt_V q1 q2 (List.all_eq_true.mp fx _ (List.mem_of_getElem? e1)) (List.all_eq_true.mp fy _ (List.mem_of_getElem? e2))
  · have e : eqL xs ys = ((List.range (min is.toArray.size js.toArray.size)).all (fun j => eqV (xs.getD j .non) (ys.getD j .non)) && is.toArray.size == js.toArray.size) := by
      unfold eqL
      simp only [List.size_toArray]
      rw [l1, l2]
      by_cases hz : is.length = js.length
      · rw [hz]; simp
      · have z : (is.length == js.length) = false := by simpa using hz
        rw [z, Bool.false_and, Bool.and_false]
    rw [← e]
    exact q
theorem op_eqT (hu : X.A.units < cLine) : OpR X (compareOp .Eq) uEqT := (op_eqU hu).or (op_eqT0 hu)
theorem uEqT_ii {i j : Int} {H : Hp} {Q : VK} : uEqT (.int i) (.int j) H Q = Q (.bl (decide (i = j))) H := by simp [uEqT, uEq, scal]
theorem uEqT_ss {x y : Str} {H : Hp} {Q : VK} : uEqT (.str x) (.str y) H Q = Q (.bl (decide (x = y))) H := by simp [uEqT, uEq, scal]
theorem uEqT_bb {x y : Bool} {H : Hp} {Q : VK} : uEqT (.bl x) (.bl y) H Q = Q (.bl (decide (x = y))) H := by simp [uEqT, uEq, scal]
theorem uEqT_rr {a b : Addr} {H : Hp} {Q : VK} : uEqT (.ref a) (.ref b) H Q = ∃ xs ys, ((H a = some (.lst xs) ∧ H b = some (.lst ys)) ∨ (H a = some (.tup xs) ∧ H b = some (.tup ys))) ∧ xs.all flatV = true ∧ ys.all flatV = true ∧ Q (.bl (eqL xs ys)) H := by
  apply propext; constructor
  · rintro (h | ⟨a', b', xs, ys, e1, e2, h1, h2, f1, f2, q⟩)
    · rw [uEq_rr] at h
      obtain ⟨xs, ys, h1, h2, f1, f2, q⟩ := h
      exact ⟨xs, ys, .inl ⟨h1, h2⟩, f1, f2, q⟩
    · cases e1; cases e2; exact ⟨xs, ys, .inr ⟨h1, h2⟩, f1, f2, q⟩
  · rintro ⟨xs, ys, ⟨h1, h2⟩ | ⟨h1, h2⟩, f1, f2, q⟩
    · exact .inl (by rw [uEq_rr]; exact ⟨xs, ys, h1, h2, f1, f2, q⟩)
    · exact .inr ⟨a, b, xs, ys, rfl, rfl, h1, h2, f1, f2, q⟩
end
end L2
set_option Elab.async false
set_option linter.all false
set_option maxRecDepth 100000
set_option maxHeartbeats 4000000
namespace L2
open PySem PySem.Spec PyProof.Rows
section
variable {X : Cx}
/-! ### a dict of the text, texts to objects: D.get(e) -/
inductive EntsAre (w : World) : List DictEntry → List (Str × Addr) → Prop
  | nil : EntsAre w [] []
  | cons {k : Str} {t : Tok} {r : Addr} {es : List DictEntry} {kvs : List (Str × Addr)} : EntsAre w es kvs → EntsAre w ({ hash := PyData.keyHash w.params k, key := .str k t, val := .ref r } :: es) ((k, r) :: kvs)
structure DicK (w : World) (K : PySem.W.Frag) (a : Addr) (kvs : List (Str × Addr)) : Prop where
  ex : ∃ es n, K.lookup a = some { cls := .type "dict", dict := none, data := .dict es n, slots := #[] } ∧ EntsAre w es.toList kvs
  nd : (kvs.map (·.1)).Nodup
  ns : (a == sysModules) = false
def getK (kvs : List (Str × Addr)) (z : Str) : V := match kvs.find? (fun p => p.1 = z) with | some p => .ref p.2 | none => .non
theorem ents_pairs {P : Program} {w : World} : ∀ {es : List DictEntry} {kvs : List (Str × Addr)}, EntsAre w es kvs → PySem.Pairs (mixKind P w) es (kvs.map fun p => (Sum.inr p.1, Value.ref p.2)) ∧ ∀ e ∈ es, ∃ k, (mixKind P w).is k e.key = true ∧ e.hash = (mixKind P w).hash k
  | _, _, .nil => ⟨.nil, fun e he => by cases he⟩
  | _, _, .cons (k := k) (t := t) h => by
    obtain ⟨h1, h2⟩ := ents_pairs (P := P) h
    refine ⟨.cons (mixKind_str P w k t) rfl h1, fun e he => ?_⟩
    rcases List.mem_cons.mp he with rfl | he
    · exact ⟨Sum.inr k, mixKind_str P w k t, rfl⟩
    · exact h2 e he
theorem DicK.dictOf {w : World} {P : Program} {K : PySem.W.Frag} {a : Addr} {kvs : List (Str × Addr)} {h : Heap} (D : DicK w K a kvs) (hk : ∀ o, K.lookup a = some o → h.get? a = some o) : h.DictOf (mixKind P w) a (kvs.map fun p => (Sum.inr p.1, Value.ref p.2)) := by
  obtain ⟨es, n, h1, h2⟩ := D.ex
  obtain ⟨p1, p2⟩ := ents_pairs (P := P) h2
  refine ⟨_, es, n, hk _ h1, ⟨rfl, rfl, rfl⟩, rfl, fun e he => p2 e (by simpa using he), p1, ?_⟩
  rw [List.map_map]
  have e : ((fun p : Key × Value => p.1) ∘ fun p : Str × Addr => ((Sum.inr p.1 : Key), Value.ref p.2)) = (fun z : Str => (Sum.inr z : Key)) ∘ (fun p : Str × Addr => p.1) := rfl
  rw [e, ← List.map_map]
  exact List.Pairwise.map _ (fun x y q z => q (Sum.inr.inj z)) D.nd
def tGetK (kvs : List (Str × Addr)) (te : TE) : TE := fun σ H Q => te σ H fun y H1 => uS y fun z => Q (getK kvs z) H1
theorem tGetK_eq {kvs : List (Str × Addr)} {te : TE} {σ : St} {H : Hp} {Q : VK} : tGetK kvs te σ H Q = te σ H fun y H1 => uS y fun z => Q (getK kvs z) H1 := rfl
theorem valueAt_getK {kvs : List (Str × Addr)} {z : Str} : RelV (getK kvs z) ((PySem.valueAt (kvs.map fun p => ((Sum.inr p.1 : Key), Value.ref p.2)) (Sum.inr z)).getD .none) := by
  unfold getK PySem.valueAt
  rw [List.find?_map]
  have e : ((fun kv : Key × Value => decide (kv.1 = Sum.inr z)) ∘ fun p : Str × Addr => ((Sum.inr p.1 : Key), Value.ref p.2)) = fun p : Str × Addr => decide (p.1 = z) := by
    funext p
    simp
  rw [e]
  cases kvs.find? (fun p => decide (p.1 = z)) with
  | none => rfl
  | some p => rfl
theorem pe_getK {x : Str} {a : Addr} {kvs : List (Str × Addr)} {e : Expr} {te : TE} {np apos cpos : Pos} (hg : Gl X x) (hm : X.mg x = some (.ref a)) (D : DicK X.w X.K a kvs) (he : PE X e te)
    (hbase : attributeBase (.Name x np) "get" X.env (eval (.Name x np) X.env) = eval (.Name x np) X.env := by rfl) (hline : (apos.endLine == cpos.line) = true := by rfl) (hp : plainE e = true := by rfl) (hd : (x == ("__debug__" : Str)) = false := by decide) :
    PE X (.Call (.Attribute (.Name x np) "get" apos) [e] [] cpos) (tGetK kvs te) := by
  intro pins s σ H Q I h
  have hs : starEach [e] X.env = [(false, eval e X.env)] := star1 hp
  refine wpAny_Call_method_late hbase (by rw [hs]; rfl) hline rfl (thn (pe_gv (v := .ref a) hg ⟨_, hm, rfl⟩ hd pins s σ H (fun v H1 => v = .ref a ∧ H1 = H) I ⟨rfl, rfl⟩) fun v s1 ⟨x1, H1, I1, r1, ex, eH⟩ => ?_)
  subst ex eH
  cases r1
  have dd := D.dictOf (P := X.prog) (h := s1.heap) fun o ho => I1.kIn a o ho
  refine ⟨"dict", "dict.get", PySem.F.plainAttrs_dict, PySem.F.slot_dict_get, PySem.F.type_dict_get, dd.typeIs, fun b q => ?_, ?_⟩
  · cases q
    obtain ⟨ob, _, _, h1, h2, _⟩ := dd
    exact ⟨ob, h1, h2.2.1⟩
  rw [hs]
  refine Calls.callWith_builtin rfl (Calls.evalArgs_plain ?_)
  have hA := pa_cons he pa_nil (hs := hs) cpos pins s1 σ H1 (fun ys H2 => match ys with | [y] => uS y fun z => Q (getK kvs z) H2 | _ => False) I1 h
  rw [hs] at hA
  refine thn hA fun us s2 ⟨vs, H2, I2, r2, q2⟩ => ?_
  match vs, q2, r2 with
  | [y], q2, .cons ry .nil =>
    obtain ⟨z, ey, q⟩ := q2
    subst ey
    obtain ⟨t, rfl⟩ := ry
    have dd2 := D.dictOf (P := X.prog) (h := s2.heap) fun o ho => I2.kIn a o ho
    refine call_meetsIn PySem.F.slot_dict_get dd2.typeIs PySem.F.entry_dict_get (PySem.F.args_dict_get_2 _ _) (meets_dict_get (mixKind X.prog X.w) a (mixKind_str X.prog X.w z t) D.ns) ⟨_, dd2.mapOf, ?_⟩
    exact ⟨getK kvs z, H2, I2.tok _, valueAt_getK, q⟩
end
end L2
set_option Elab.async false
set_option linter.all false
set_option maxRecDepth 100000
set_option maxHeartbeats 4000000
namespace L2
open PySem PySem.Spec PyProof.Rows
/-! ### range(0, n, 3) -/
def Itr3 (lo st : Int) (n : Nat) : It := ⟨fun i _ => i < n, fun i H x H' => H' = H ∧ x = .int (lo + i * st), fun i _ => n ≤ i⟩
section
variable {X : Cx} {tg : Expr}
def uI3 (vs : List V) (q : Int → Int → Int → Prop) : Prop := ∃ i j k, vs = [.int i, .int j, .int k] ∧ q i j k
theorem uI3_i {i j k : Int} {q : Int → Int → Int → Prop} : uI3 [.int i, .int j, .int k] q = q i j k := by
  apply propext; constructor
  · rintro ⟨a, b, c, e, h⟩; cases e; exact h
  · exact fun h => ⟨i, j, k, rfl, h⟩
def iRng3 (ta : TA) : TI := fun σ H R => ta σ H fun vs H1 => uI3 vs fun i j k => (0 ≤ i ∧ i ≤ j ∧ j < 2 ^ 20 ∧ 0 < k ∧ k < 2 ^ 20) ∧ R (Itr3 i k ((j - i + k - 1) / k).toNat) H1
theorem iRng3_eq {ta : TA} {σ : St} {H : Hp} {R : It → Hp → Prop} : iRng3 ta σ H R = ta σ H fun vs H1 => uI3 vs fun i j k => (0 ≤ i ∧ i ≤ j ∧ j < 2 ^ 20 ∧ 0 < k ∧ k < 2 ^ 20) ∧ R (Itr3 i k ((j - i + k - 1) / k).toNat) H1 := rfl
end
section
variable {g : TG} {tb : TS} {D : Ends} {σ : St} {H : Hp}
end
end L2
set_option Elab.async false
set_option linter.all false
set_option maxRecDepth 100000
set_option maxHeartbeats 4000000
namespace L2
open PySem PySem.Spec PyProof.Rows
section
variable {prog : Program} {w : World} {A : Around} {E : Value → Shared → Prop} {s : Shared}

theorem tup_at {h h' : Heap} {l : Addr} {xs : Array Value} (x : h.IsTuple l xs) (k : ∀ o, h.get? l = some o → h'.get? l = some o) : h'.IsTuple l xs := by
  obtain ⟨o, e, r⟩ := x
  exact ⟨o, k o e, r⟩
theorem tupN_next {it t : Addr} {i : Nat} {items : Array Value} {x : Value} {Q : Value → Shared → Prop} (hit : s.heap.IsTupleIter it t i) (ht : s.heap.IsTuple t items) (hx : items[i]? = some x)
    (k : ∀ h', h'.IsTupleIter it t (i + 1) → Heap.SameBut it s.heap h' → Q x { s with heap := h' }) : wpAny (model prog w) A (Builtin.SmallTypes.nextOf (.ref it)) Q E s := by
  obtain ⟨o, ho, hc, hd⟩ := id hit
  obtain ⟨ol, hol, _, nl, hdl⟩ := ht
  unfold Builtin.SmallTypes.nextOf
  refine wpAny_bind (wpAny_callSpecial?_slot (name := Str.ofString "__next__") hit.typeIs F.slot_tuple_iterator_next (wpAny_call_entry F.slot_tuple_iterator_next hit.typeIs F.entry_tuple_iterator_next ?_ (F.args_tuple_iterator_next_1 _)))
  refine wpAny_bind (m := field (.ref it) 0) (wpAny_field ho hd (x := .ref t) rfl ?_)
  rw [if_neg (show ¬ ((Value.ref t == Value.none) = true) by simp)]
  refine wpAny_bind (m := field (.ref it) 1) (wpAny_field ho hd (x := .int i 0) rfl (wpAny_bind (m := seqItems? (.ref t)) (wpAny_seqItems hol hdl ?_)))
  simp only [Int.toNat_natCast, hx]
  refine wpAny_bind (m := setField _ _ _) (wpAny_setField ho hd (by simp) (wpAny_pure ⟨x, rfl, wpAny_pure (k _ ?_ (Heap.SameBut.update ..))⟩))
  refine ⟨_, Heap.get?_update_self _ ho (Obj.isFreed_of_fields (Obj.data_mapFields hd _)), (Obj.cls_mapFields ..).trans hc, ?_⟩
  rw [Obj.data_mapFields hd]
  simp [rawInt]
theorem tupN_last {it t : Addr} {i : Nat} {items : Array Value} {Q : Value → Shared → Prop} (hh : Hnd A s.heap) (hit : s.heap.IsTupleIter it t i) (ht : s.heap.IsTuple t items) (hx : items[i]? = none)
    (k : ∀ h' e, Heap.ExtBut it s.heap h' → (∃ o, h'.get? e = some o ∧ o.cls = .type "StopIteration") → E (.ref e) { s with heap := h' }) : wpAny (model prog w) A (Builtin.SmallTypes.nextOf (.ref it)) Q E s := by
  obtain ⟨o, ho, hc, hd⟩ := id hit
  obtain ⟨ol, hol, _, nl, hdl⟩ := ht
  unfold Builtin.SmallTypes.nextOf
  refine wpAny_bind (wpAny_callSpecial?_slot (name := Str.ofString "__next__") hit.typeIs F.slot_tuple_iterator_next (wpAny_call_entry F.slot_tuple_iterator_next hit.typeIs F.entry_tuple_iterator_next ?_ (F.args_tuple_iterator_next_1 _)))
  refine wpAny_bind (m := field (.ref it) 0) (wpAny_field ho hd (x := .ref t) rfl ?_)
  rw [if_neg (show ¬ ((Value.ref t == Value.none) = true) by simp)]
  refine wpAny_bind (m := field (.ref it) 1) (wpAny_field ho hd (x := .int i 0) rfl (wpAny_bind (m := seqItems? (.ref t)) (wpAny_seqItems hol hdl ?_)))
  simp only [Int.toNat_natCast, hx]
  refine wpAny_bind (wpAny_rule (wpAny_bind (wpAny_setField ho hd (by simp) ?_)))
  refine stop_raised (hh.keeps fun b q hq e => (Heap.get?_update_other _ _ fun z => ?_).trans e) fun h' e up st => k h' e (fun b q hb z => up b q ((Heap.get?_update_other _ _ (Ne.symm hb)).trans z)) st
  obtain ⟨C, hC⟩ := hq
  rw [← z, ho] at e
  cases e
  rw [hc] at hC
  cases hC
theorem zipT_next {z TI TO i1 i2 l1 l2 : Addr} {k1 k2 : Nat} {xs ys : Array Value} {x y a b : Value} {Q : Option Value → Shared → Prop} (D : ZipApart z TI TO i1 i2 l1 l2) (hz : IsZip s.heap z TI TO .none) (hTI : IsPair s.heap TI (.ref i1) (.ref i2)) (hTO : IsPair s.heap TO a b)
    (h1 : s.heap.IsTupleIter i1 l1 k1) (h2 : s.heap.IsListIter i2 l2 k2) (hl1 : s.heap.IsTuple l1 xs) (hl2 : s.heap.IsList l2 ys) (hx : xs[k1]? = some x) (hy : ys[k2]? = some y)
    (k : ∀ h', IsZip h' z TI TO (rawInt s.heap.objs.size) → IsPair h' TO x y → h'.IsTupleIter i1 l1 (k1 + 1) → h'.IsListIter i2 l2 (k2 + 1) → IsPair h' s.heap.objs.size x y → h'.objs.size = s.heap.objs.size + 1 →
      (∀ c o, c ≠ z → c ≠ TO → c ≠ i1 → c ≠ i2 → s.heap.get? c = some o → h'.get? c = some o) → Q (some (.ref s.heap.objs.size)) { s with heap := h' }) : wpAny (model prog w) A (pyNext (.ref z)) Q E s := by
  have hT : s.TypeIs (.ref z) "zip" := ⟨_, hz, rfl⟩
  have core : ∀ (Q' : Value → Shared → Prop) (E' : Value → Shared → Prop), (∀ h', IsZip h' z TI TO (rawInt s.heap.objs.size) → IsPair h' TO x y → h'.IsTupleIter i1 l1 (k1 + 1) → h'.IsListIter i2 l2 (k2 + 1) → IsPair h' s.heap.objs.size x y → h'.objs.size = s.heap.objs.size + 1 →
      (∀ c o, c ≠ z → c ≠ TO → c ≠ i1 → c ≠ i2 → s.heap.get? c = some o → h'.get? c = some o) → Q' (.ref s.heap.objs.size) { s with heap := h' }) →
      wpAny (model prog w) A.in1 (Builtin.«zip.__next__» ⟨[.ref z], []⟩) (fun fin s' => ∃ v, fin = .done (.ret v) ∧ Q' v s') E' s := by
    intro Q' E' kk
    refine wpAny_bind (m := field (.ref z) 2) (wpAny_field hz rfl (x := .bool false) rfl (wpAny_bind (m := field (.ref z) 3) (wpAny_field hz rfl (x := .ref TI) rfl (wpAny_bind (wpAny_seqItems hTI rfl (wpAny_bind (m := Builtin.SmallTypes.ownedTupleIsFree (.ref z)) ?_))))))
    unfold Builtin.SmallTypes.ownedTupleIsFree
    refine wpAny_bind (wpAny_field hz rfl (x := .none) rfl (wpAny_pure ?_))
    simp only [if_true]
    refine wpAny_bind (wpAny_rule (wpAny_bind (wpAny_field hz rfl (x := .ref TO) rfl (wpAny_bind (wpAny_setField_rec hz (by simp) fun g1 z1 s1 => ?_)))))
    replace z1 : IsZip g1 z TI TO .ellipsis := z1
    refine wpAny_bind ?_
    simp only [List.zipIdx_cons, List.zipIdx_nil, List.forIn_cons, List.forIn_nil]
    refine wpAny_bind (wpAny_bind (wpAny_onRaise (wpAny_bind (m := Builtin.SmallTypes.nextOf (.ref i1)) ?_)))
    refine tupN_next (s := { s with heap := g1 }) (h1.at fun o e => s1.extBut _ o D.i1z e) (tup_at hl1 fun o e => s1.extBut _ o D.l1z e) hx fun g2 a2 s2 => wpAny_pure ?_
    have t2 : IsPair g2 TO a b := s2.extBut _ _ D.TOi1 (s1.extBut _ _ D.TOz hTO)
    refine wpAny_bind (wpAny_seqItems t2 rfl (wpAny_bind (wpAny_updateSeq_pair t2 fun g3 t3 s3 => ?_)))
    replace t3 : IsPair g3 TO x b := t3
    refine wpAny_bind (wpAny_letGo (wpAny_pure (wpAny_bind (wpAny_bind (wpAny_onRaise (wpAny_bind (m := Builtin.SmallTypes.nextOf (.ref i2)) ?_))))))
    refine wpAny_nextOf_list_item (((h2.extBut s1.extBut D.i2z).extBut s2.extBut D.i12.symm).extBut s3.extBut D.TOi2.symm) (((hl2.extBut s1.extBut D.l2z).extBut s2.extBut D.l2i1).extBut s3.extBut D.l2TO) hy fun g4 b4 s4 => wpAny_pure ?_
    have t4 : IsPair g4 TO x b := s4.extBut _ _ D.TOi2 t3
    refine wpAny_bind (wpAny_seqItems t4 rfl (wpAny_bind (wpAny_updateSeq_pair t4 fun g5 t5 s5 => ?_)))
    replace t5 : IsPair g5 TO x y := t5
    refine wpAny_bind (wpAny_letGo (wpAny_pure (wpAny_pure (wpAny_bind (wpAny_seqItems t5 rfl (wpAny_bind (wpAny_newTuple ?_)))))))
    have sz : g5.objs.size = s.heap.objs.size := by rw [s5.1, s4.1, s3.1, s2.1, s1.1]
    have z5 : IsZip g5 z TI TO .ellipsis := s5.extBut _ _ D.TOz.symm (s4.extBut _ _ D.i2z.symm (s3.extBut _ _ D.TOz.symm (s2.extBut _ _ D.i1z.symm z1)))
    have old : ∀ c o, c ≠ z → c ≠ TO → c ≠ i1 → c ≠ i2 → s.heap.get? c = some o → g5.get? c = some o := fun c o c1 c2 c3 c4 e => s5.extBut _ _ c2 (s4.extBut _ _ c4 (s3.extBut _ _ c2 (s2.extBut _ _ c3 (s1.extBut _ _ c1 e))))
    have a5 : g5.IsTupleIter i1 l1 (k1 + 1) := a2.at fun o e => s5.extBut _ _ D.TOi1.symm (s4.extBut _ _ D.i12 (s3.extBut _ _ D.TOi1.symm e))
    have b5 : g5.IsListIter i2 l2 (k2 + 1) := b4.extBut s5.extBut D.TOi2.symm
    have zlt : z < g5.objs.size := Heap.lt_size z5
    refine wpAny_bind (m := Builtin.SmallTypes.ownedTupleHandOut (.ref z) (.ref g5.objs.size)) ?_
    unfold Builtin.SmallTypes.ownedTupleHandOut
    have z6 : IsZip (g5.push { cls := .type "tuple", data := .seq #[x, y] }) z TI TO .ellipsis := Heap.get?_push_of_some _ z5
    refine wpAny_bind (wpAny_setField_rec z6 (by simp) fun g7 z7 s7 => ?_)
    replace z7 : IsZip g7 z TI TO (rawInt g5.objs.size) := z7
    refine wpAny_setField_rec z7 (by simp) fun g8 z8 s8 => ?_
    replace z8 : IsZip g8 z TI TO (rawInt g5.objs.size) := z8
    have up : ∀ c o, c ≠ z → g5.get? c = some o → g8.get? c = some o := fun c o c1 e => s8.extBut _ _ c1 (s7.extBut _ _ c1 (Heap.get?_push_of_some _ e))
    have t8 : IsPair g8 g5.objs.size x y := s8.extBut _ _ (Nat.ne_of_gt zlt) (s7.extBut _ _ (Nat.ne_of_gt zlt) (Heap.get?_push_size _ rfl))
    have sz8 : g8.objs.size = g5.objs.size + 1 := by rw [s8.1, s7.1, Heap.size_push]
    rw [sz] at z8 t8 sz8
    refine wpAny_pure ⟨_, rfl, ?_⟩
    show Q' (.ref g5.objs.size) _
    rw [sz]
    exact kk g8 z8 (up _ _ D.TOz t5) (a5.at fun o e => up _ o D.i1z e) (b5.at fun o e => up _ o D.i2z e) t8 sz8 fun c o c1 c2 c3 c4 e => up c o c1 (old c o c1 c2 c3 c4 e)
  unfold pyNext
  exact wpAny_bind (wpAny_attempt (wpAny_callSpecial?_slot (name := Str.ofString "__next__") hT F.slot_zip_next (wpAny_call_entry F.slot_zip_next hT F.entry_zip_next (core _ _ fun h' q1 q2 q3 q4 q5 q6 q7 => wpAny_pure (k h' q1 q2 q3 q4 q5 q6 q7)) (F.args_zip_next_1 _))))
theorem zipT_last {z TI TO i1 i2 l1 l2 : Addr} {k1 : Nat} {xs : Array Value} {a b : Value} {Q : Option Value → Shared → Prop} (hh : Hnd A s.heap) (D : ZipApart z TI TO i1 i2 l1 l2) (hz : IsZip s.heap z TI TO .none) (hTI : IsPair s.heap TI (.ref i1) (.ref i2)) (hTO : IsPair s.heap TO a b)
    (h1 : s.heap.IsTupleIter i1 l1 k1) (hl1 : s.heap.IsTuple l1 xs) (hx : xs[k1]? = none)
    (k : ∀ h', (∀ c o, c ≠ z → c ≠ i1 → s.heap.get? c = some o → h'.get? c = some o) → Q none { s with heap := h' }) : wpAny (model prog w) A (pyNext (.ref z)) Q E s := by
  have hT : s.TypeIs (.ref z) "zip" := ⟨_, hz, rfl⟩
  have core : ∀ (Q' : Fin → Shared → Prop) (E' : Value → Shared → Prop), (∀ h' e, (∀ c o, c ≠ z → c ≠ i1 → s.heap.get? c = some o → h'.get? c = some o) → (∃ o, h'.get? e = some o ∧ o.cls = .type "StopIteration") → E' (.ref e) { s with heap := h' }) →
      wpAny (model prog w) A.in1 (Builtin.«zip.__next__» ⟨[.ref z], []⟩) Q' E' s := by
    intro Q' E' kE
    refine wpAny_bind (m := field (.ref z) 2) (wpAny_field hz rfl (x := .bool false) rfl (wpAny_bind (m := field (.ref z) 3) (wpAny_field hz rfl (x := .ref TI) rfl (wpAny_bind (wpAny_seqItems hTI rfl (wpAny_bind (m := Builtin.SmallTypes.ownedTupleIsFree (.ref z)) ?_))))))
    unfold Builtin.SmallTypes.ownedTupleIsFree
    refine wpAny_bind (wpAny_field hz rfl (x := .none) rfl (wpAny_pure ?_))
    simp only [if_true]
    refine wpAny_bind (wpAny_rule (wpAny_bind (wpAny_field hz rfl (x := .ref TO) rfl (wpAny_bind (wpAny_setField_rec hz (by simp) fun g1 z1 s1 => ?_)))))
    refine wpAny_bind ?_
    simp only [List.zipIdx_cons, List.zipIdx_nil, List.forIn_cons, List.forIn_nil]
    refine wpAny_bind (wpAny_bind (wpAny_onRaise (wpAny_bind (m := Builtin.SmallTypes.nextOf (.ref i1)) ?_)))
    have hh1 : Hnd A.in1 g1 := Hnd.keeps (h := s.heap) hh fun c o ⟨C, hC⟩ e => s1.extBut c o (fun q => by rw [q, hz] at e; cases e; cases hC) e
    refine tupN_last (s := { s with heap := g1 }) hh1 (h1.at fun o e => s1.extBut _ o D.i1z e) (tup_at hl1 fun o e => s1.extBut _ o D.l1z e) hx fun g2 e s2 st => ?_
    obtain ⟨oe, ge, ce⟩ := st
    have z2 : IsZip g2 z TI TO .ellipsis := s2 _ _ D.i1z.symm z1
    have ez : e ≠ z := fun q => by rw [q, z2] at ge; cases ge; simp at ce
    exact wpAny_setField_rec z2 (by simp) fun g3 _ s3 => kE g3 e (fun c o c1 c2 q => s3.extBut _ _ c1 (s2 _ _ c2 (s1.extBut _ _ c1 q))) ⟨oe, s3.extBut _ _ ez ge, ce⟩
  unfold pyNext
  refine wpAny_bind (wpAny_attempt (wpAny_callSpecial?_slot (name := Str.ofString "__next__") hT F.slot_zip_next (wpAny_call_entry F.slot_zip_next hT F.entry_zip_next (core _ _ fun h' e up st => ?_) (F.args_zip_next_1 _))))
  obtain ⟨o, g, c⟩ := st
  exact wpAny_bind (wpAny_isInstance (T := "StopIteration") (b := true) ⟨o, g, c⟩ isSubtype_stop (wpAny_pure (k h' up)))
end

abbrev zT1 (h : Heap) (l1 : Addr) : Heap := h.push { cls := .type "tuple_iterator", data := .fields #[.ref l1, .int 0 0] }
abbrev zT2 (h : Heap) (l1 l2 : Addr) : Heap := (zT1 h l1).push { cls := .type "list_iterator", data := .fields #[.ref l2, .int 0 0] }
abbrev zT3 (h : Heap) (l1 l2 : Addr) : Heap := (zT2 h l1 l2).push { cls := .type "tuple", data := .seq #[.ref h.objs.size, .ref (zT1 h l1).objs.size] }
abbrev zT4 (h : Heap) (l1 l2 : Addr) : Heap := (zT3 h l1 l2).push { cls := .type "tuple", data := .seq #[.none, .none] }
abbrev zT5 (h : Heap) (l1 l2 : Addr) : Heap := (zT4 h l1 l2).push { cls := .type "zip", data := .fields #[.none, .bool false, .bool false, .ref (zT2 h l1 l2).objs.size, .ref (zT3 h l1 l2).objs.size] }
theorem zipT_new (l1 l2 : Addr) (xs ys : Array Value) : Meets (Builtin.«zip.__new__» ⟨[.type "zip", .ref l1, .ref l2], []⟩) (fun _ R s => s.heap.IsTuple l1 xs ∧ s.heap.IsList l2 ys ∧ R (.ok (.ret (.ref (zT4 s.heap l1 l2).objs.size))) { s with heap := zT5 s.heap l1 l2 }) :=
  .of_wp fun prog w A R s h => by
    obtain ⟨hp, g, d, tk, os⟩ := s; obtain ⟨hl1, hl2, h⟩ := h
    have hsub := sub_zip
    have hL1 : Heap.IsTuple (Shared.heap ⟨hp, g, d, tk, os⟩) l1 xs := hl1
    have hL2 : Heap.IsList (Shared.heap ⟨hp.push { cls := .type "tuple_iterator", data := .fields #[.ref l1, .int 0 0] }, g, d, tk, os⟩) l2 ys := Heap.IsList.push hl2 _
    wp_walk using wpAny_pyIter_tuple hL1, wpAny_pyIter_list hL2
    exact ⟨_, rfl, h⟩
section
variable {prog : Program} {w : World} {A : Around} {E : Value → Shared → Prop} {s : Shared}
theorem callZipT {l1 l2 : Addr} {xs ys : Array Value} {Q : Value → Shared → Prop} (hl1 : s.heap.IsTuple l1 xs) (hl2 : s.heap.IsList l2 ys)
    (h : ∀ h', IsZip h' (s.heap.objs.size + 4) (s.heap.objs.size + 2) (s.heap.objs.size + 3) .none → IsPair h' (s.heap.objs.size + 2) (.ref s.heap.objs.size) (.ref (s.heap.objs.size + 1)) →
      IsPair h' (s.heap.objs.size + 3) .none .none → h'.IsTupleIter s.heap.objs.size l1 0 → h'.IsListIter (s.heap.objs.size + 1) l2 0 → h'.objs.size = s.heap.objs.size + 5 →
      (∀ c o, s.heap.get? c = some o → h'.get? c = some o) → Q (.ref (s.heap.objs.size + 4)) { s with heap := h' }) : wpAny (model prog w) A (call (.type "zip") [.ref l1, .ref l2]) Q E s := by
  refine callType_new F.called_zip (by decide) (F.typeCall_zip_2 _ _) (F.newCall_zip_2 _ _) (fun obj => F.args_object_init_3 obj _ _) F.entry_zip_new (zipT_new l1 l2 xs ys) ⟨hl1, hl2, ?_⟩
  have z1 : (zT1 s.heap l1).objs.size = s.heap.objs.size + 1 := Heap.size_push ..
  have z2 : (zT2 s.heap l1 l2).objs.size = s.heap.objs.size + 2 := by rw [Heap.size_push, z1]
  have z3 : (zT3 s.heap l1 l2).objs.size = s.heap.objs.size + 3 := by rw [Heap.size_push, z2]
  have z4 : (zT4 s.heap l1 l2).objs.size = s.heap.objs.size + 4 := by rw [Heap.size_push, z3]
  have z5 : (zT5 s.heap l1 l2).objs.size = s.heap.objs.size + 5 := by rw [Heap.size_push, z4]
  have g5 : (zT5 s.heap l1 l2).get? (zT4 s.heap l1 l2).objs.size = some _ := Heap.get?_push_size _ rfl
  have g4 : (zT5 s.heap l1 l2).get? (zT3 s.heap l1 l2).objs.size = some _ := Heap.get?_push_of_some _ (Heap.get?_push_size _ rfl)
  have g3 : (zT5 s.heap l1 l2).get? (zT2 s.heap l1 l2).objs.size = some _ := Heap.get?_push_of_some _ (Heap.get?_push_of_some _ (Heap.get?_push_size _ rfl))
  have g2 : (zT5 s.heap l1 l2).get? (zT1 s.heap l1).objs.size = some _ := Heap.get?_push_of_some _ (Heap.get?_push_of_some _ (Heap.get?_push_of_some _ (Heap.get?_push_size _ rfl)))
  have g1 : (zT5 s.heap l1 l2).get? s.heap.objs.size = some _ := Heap.get?_push_of_some _ (Heap.get?_push_of_some _ (Heap.get?_push_of_some _ (Heap.get?_push_of_some _ (Heap.get?_push_size _ rfl))))
  show _ ∧ _
  rw [z2, z3, z4] at g5
  rw [z1, z2] at g3
  rw [z3] at g4
  rw [z1] at g2
  rw [z4]
  refine ⟨⟨_, g5, rfl⟩, h _ g5 g3 g4 ⟨_, g1, rfl, rfl⟩ ⟨_, g2, rfl, rfl⟩ z5 fun c o x => ?_⟩
  exact Heap.get?_push_of_some _ (Heap.get?_push_of_some _ (Heap.get?_push_of_some _ (Heap.get?_push_of_some _ (Heap.get?_push_of_some _ x))))
end
/-- the pairs of the lists at a, b -/
def ItzT (K : PySem.W.Frag) (a b : Addr) : It :=
  ⟨fun i H => ∃ xs ys x y, SqT K H a xs ∧ SqL K H b ys ∧ xs[i]? = some x ∧ ys[i]? = some y, fun i H v H' => ∃ T x y, H T = none ∧ v = .ref T ∧ H' = upd H T (.tup [x, y]) ∧ (∀ xs, SqT K H a xs → xs[i]? = some x) ∧ ∀ ys, SqL K H b ys → ys[i]? = some y,
    fun i H => ∃ xs ys, SqT K H a xs ∧ SqL K H b ys ∧ xs.length ≤ i⟩
structure ZipTSt (z TI TO i1 i2 l1 l2 : Addr) (i : Nat) (h : Heap) : Prop where
  z : IsZip h z TI TO .none
  ti : IsPair h TI (.ref i1) (.ref i2)
  to : ∃ a b, IsPair h TO a b
  a : h.IsTupleIter i1 l1 i
  b : h.IsListIter i2 l2 i
theorem ZipTSt.keep {z TI TO i1 i2 l1 l2 : Addr} {i : Nat} {h h' : Heap} (x : ZipTSt z TI TO i1 i2 l1 l2 i h) (k : ∀ b ∈ [z, TI, TO, i1, i2], ∀ o, h.get? b = some o → h'.get? b = some o) : ZipTSt z TI TO i1 i2 l1 l2 i h' := by
  obtain ⟨a1, a2, ⟨u, v, a3⟩, a4, a5⟩ := x
  exact ⟨k _ (by simp) _ a1, k _ (by simp) _ a2, ⟨u, v, k _ (by simp) _ a3⟩, a4.at fun o e => k _ (by simp) o e, a5.at fun o e => k _ (by simp) o e⟩
theorem turn_zipT {P : Program} {w : World} {K : PySem.W.Frag} {elts : List Expr} {kk : Nat} {tp : Pos} {l1 l2 z TI TO i1 i2 : Addr} (D : ZipApart z TI TO i1 i2 l1 l2) :
    Turn false P w K (.Tuple elts kk tp) (ItzT K l1 l2) [z, TI, TO, i1, i2] z (ZipTSt z TI TO i1 i2 l1 l2) where
  mem := by simp
  obj := fun i h st b hb => by
    obtain ⟨a1, a2, ⟨u, v, a3⟩, ⟨o4, a4, _, d4⟩, ⟨o5, a5, _, d5⟩⟩ := st
    simp only [List.mem_cons, List.not_mem_nil, or_false] at hb
    rcases hb with rfl | rfl | rfl | rfl | rfl
    · exact ⟨_, a1, fun v q => nomatch q⟩
    · exact ⟨_, a2, fun v q => nomatch q⟩
    · exact ⟨_, a3, fun v q => nomatch q⟩
    · exact ⟨_, a4, fun v q => by rw [d4] at q; cases q⟩
    · exact ⟨_, a5, fun v q => by rw [d5] at q; cases q⟩
  keep := fun i h h' st k => st.keep k
  item := by
    intro X hP hw hK hc i pins s σ H E I hf st hg
    subst hP hw hK
    obtain ⟨xs, ys, x, y, hq1, hq2, hx, hy⟩ := hg
    obtain ⟨is1, rv1, p1, hz1⟩ := I.tuple hq1
    obtain ⟨is2, rv2, p2, hz2⟩ := I.list hq2
    obtain ⟨u1, hu1, ru1⟩ := rv1.get hx
    obtain ⟨u2, hu2, ru2⟩ := rv2.get hy
    obtain ⟨a1, a2, ⟨u, v, a3⟩, a4, a5⟩ := st
    refine zipT_next D a1 a2 a3 a4 a5 p1 p2.isList (x := u1) (y := u2) (by simpa using hu1) (by simpa using hu2) fun h' b1 b2 b3 b4 b5 b6 b7 => ?_
    refine ⟨_, rfl, wpAny_letOwnedTupleGo_zip (s := { s with heap := h' }) b1 fun h2 c1 c2 => ?_⟩
    have zlt : z < s.heap.objs.size := Heap.lt_size a1
    have nz : s.heap.objs.size ≠ z := Nat.ne_of_gt zlt
    have all : ∀ c o, c ≠ z → c ≠ TO → c ≠ i1 → c ≠ i2 → s.heap.get? c = some o → h2.get? c = some o := fun c o n1 n2 n3 n4 e => c2.extBut c o n1 (b7 c o n1 n2 n3 n4 e)
    have tT : h2.get? s.heap.objs.size = some { cls := .type "tuple", data := .seq #[u1, u2] } := c2.extBut _ _ nz b5
    have hfr : H s.heap.objs.size = none := I.hok.fresh (Nat.le_refl _)
    have hok0 : HOk X.prog X.w H h2 := fun b u e => by
      refine (I.hok b u e).stay (fun c v hc q => ?_) (fun _ q => q) fun _ _ q => q
      have hne : ∀ d ∈ [z, TI, TO, i1, i2], c ≠ d := fun d hd w => by
        have fd := (hf d hd).1
        rcases hc with k | k
        · rw [k] at w; rw [w, fd] at e; cases e
        · rw [w, fd] at k; cases k
      exact all c v (hne z (by simp)) (hne TO (by simp)) (hne i1 (by simp)) (hne i2 (by simp)) q
    have lt0 : ∀ b o, s.heap.get? b = some o → b ≠ s.heap.objs.size := fun b o e => Nat.ne_of_lt (Heap.lt_size e)
    have I2 : Inv X pins σ (upd H s.heap.objs.size (.tup [x, y])) { s with heap := h2 } := by
      refine I.step (g' := s.gens) (d' := s.drawn) (t' := s.toks) (ch := [z, TO, i1, i2]) (fun b hb => ?_) (fun b o _ _ hb e _ => ?_) (fun b o _ _ hb e _ => ?_) (fun b o _ e n => ?_) (fun b o hb e => ?_) (fun b ps e => ?_) (fun b o u e => ?_) (fun b ps e => ?_) (fun m hm => ?_) (hok0.add hfr ?_) I.bare
      · have hb' : b ∈ [z, TI, TO, i1, i2] := by simp only [List.mem_cons, List.not_mem_nil, or_false] at hb ⊢; rcases hb with h | h | h | h <;> simp [h]
        obtain ⟨f0, f1, f2, f3, f4, f5⟩ := hf b hb'
        exact ⟨f3, f1, f4, f5⟩
      · simp only [List.mem_cons, List.not_mem_nil, or_false, not_or] at hb
        exact all b o hb.1 hb.2.1 hb.2.2.1 hb.2.2.2 e
      · simp only [List.mem_cons, List.not_mem_nil, or_false, not_or] at hb
        exact ⟨o.slots, all b o hb.1 hb.2.1 hb.2.2.1 hb.2.2.2 e⟩
      · rw [upd_ne (lt0 b o e)]; exact n
      · simp only [List.mem_cons, List.not_mem_nil, or_false, not_or] at hb
        exact ⟨o, all b o hb.1 hb.2.1 hb.2.2.1 hb.2.2.2 e⟩
      · rw [upd_ne (ne_of_none e hfr)]; exact e
      · rw [upd_ne (ne_of_none e hfr)]; exact e
      · exact ⟨#[], by rw [upd_ne (ne_of_none e hfr), e]; simp⟩
      · obtain ⟨o, es, ep, ho, r⟩ := hm
        exact ⟨o, es, ep, all _ o (Ne.symm (hf z (by simp)).2.1) (Ne.symm (hf TO (by simp)).2.1) (Ne.symm (hf i1 (by simp)).2.1) (Ne.symm (hf i2 (by simp)).2.1) ho, r⟩
      · exact ⟨by show 2 ≤ sizeLine; decide, [u1, u2], .cons ru1 (.cons ru2 .nil), ⟨_, tT, rfl, _, rfl⟩⟩
    refine ⟨.ref s.heap.objs.size, _, I2, rfl, ⟨_, x, y, hfr, rfl, rfl, fun zs hz => by rw [I.tuple_inj hz hq1]; exact hx, fun zs hz => by rw [I.list_inj hz hq2]; exact hy⟩, ?_, fun b hb => ?_⟩
    · exact ⟨c1, c2.extBut _ _ D.TIz (b7 _ _ D.TIz D.TITO D.TIi1 D.TIi2 a2), ⟨u1, u2, c2.extBut _ _ D.TOz b2⟩, b3.at fun o e => c2.extBut _ o D.i1z e, b4.extBut c2.extBut D.i2z⟩
    · have ne : b ≠ s.heap.objs.size := fun q => by
        have : b < s.heap.objs.size := by
          simp only [List.mem_cons, List.not_mem_nil, or_false] at hb
          obtain ⟨o4, a4, _⟩ := a4
          obtain ⟨o5, a5, _⟩ := a5
          rcases hb with rfl | rfl | rfl | rfl | rfl
          · exact zlt
          · exact Heap.lt_size a2
          · exact Heap.lt_size a3
          · exact Heap.lt_size a4
          · exact Heap.lt_size a5
        exact absurd (q ▸ this) (Nat.lt_irrefl _)
      rw [upd_ne ne]
      exact (hf b hb).1
  done := by
    intro X hP hw hK hc i pins s σ H E I hf st hg
    subst hP hw hK
    obtain ⟨xs, ys, hq1, hq2, hx⟩ := hg
    obtain ⟨is1, rv1, p1, hz1⟩ := I.tuple hq1
    have hl := rv1.length
    obtain ⟨a1, a2, ⟨u, v, a3⟩, a4, a5⟩ := st
    refine zipT_last I.hnd D a1 a2 a3 a4 p1 (by simp; omega) fun h' up => ⟨rfl, ?_⟩
    refine I.step (g' := s.gens) (d' := s.drawn) (t' := s.toks) (ch := [z, i1]) (fun b hb => ?_) (fun b o _ _ hb e _ => ?_) (fun b o _ _ hb e _ => ?_) (fun _ _ _ _ n => n) (fun b o hb e => ?_) (fun _ _ e => e) (fun _ _ _ e => e) (fun b ps e => ⟨#[], by rw [e]; simp⟩) (fun m hm => ?_) (fun b u e => ?_) I.bare
    · have hb' : b ∈ [z, TI, TO, i1, i2] := by simp only [List.mem_cons, List.not_mem_nil, or_false] at hb ⊢; rcases hb with h | h <;> simp [h]
      obtain ⟨f0, f1, f2, f3, f4, f5⟩ := hf b hb'
      exact ⟨f3, f1, f4, f5⟩
    · simp only [List.mem_cons, List.not_mem_nil, or_false, not_or] at hb
      exact up b o hb.1 hb.2 e
    · simp only [List.mem_cons, List.not_mem_nil, or_false, not_or] at hb
      exact ⟨o.slots, up b o hb.1 hb.2 e⟩
    · simp only [List.mem_cons, List.not_mem_nil, or_false, not_or] at hb
      exact ⟨o, up b o hb.1 hb.2 e⟩
    · obtain ⟨o, es, ep, ho, r⟩ := hm
      exact ⟨o, es, ep, up _ o (Ne.symm (hf z (by simp)).2.1) (Ne.symm (hf i1 (by simp)).2.1) ho, r⟩
    · refine (I.hok b u e).stay (fun c v hc q => ?_) (fun _ q => q) fun _ _ q => q
      have hne : ∀ d ∈ [z, TI, TO, i1, i2], c ≠ d := fun d hd w => by
        have fd := (hf d hd).1
        rcases hc with k | k
        · rw [k] at w; rw [w, fd] at e; cases e
        · rw [w, fd] at k; cases k
      exact up c v (hne z (by simp)) (hne i1 (by simp)) q
  self := fun _ _ _ _ _ st h => wpAny_pyIter_zip st.z h
section
variable {X : Cx}
def iZipT (K : PySem.W.Frag) (ta : TA) : TI := fun σ H R => ta σ H fun vs H1 => ∃ a b, vs = [.ref a, .ref b] ∧ (∃ xs, SqT K H1 a xs) ∧ (∃ ys, SqL K H1 b ys) ∧ R (ItzT K a b) H1
theorem pi_zipT {elts : List Expr} {kk : Nat} {tp p pos : Pos} {a b : Expr} {ta : TA} (hg : Gl X "zip") (hm : X.mg "zip" = none) (ha : PA X [a, b] ta) (hs : starEach [a, b] X.env = [(false, eval a X.env), (false, eval b X.env)] := by rfl) (hs2 : starEach [b] X.env = [(false, eval b X.env)] := by rfl) :
    PIc false X (.Tuple elts kk tp) (.Call (.Name "zip" p) [a, b] [] pos) (iZipT X.K ta) := by
  intro pins s σ H R I h
  refine Call_ (ld_blt I hg hm boot_zip (PyProof.Rows.callWith_type1 (thn (ha pos pins s σ H _ I h) fun us s1 ⟨vs, H1, I1, r1, q1⟩ => ?_) (by rw [hs, hs2]) (by rw [hs2]; rfl)))
  obtain ⟨l1, l2, e, ⟨xs, h1⟩, ⟨ys, h2⟩, q⟩ := q1
  subst e
  cases r1 with
  | cons r rr =>
    cases rr with
    | cons r' rr =>
      cases rr
      cases (show _ = Value.ref l1 from r)
      cases (show _ = Value.ref l2 from r')
      obtain ⟨is1, rv1, p1, _⟩ := I1.tuple h1
      obtain ⟨is2, rv2, p2, _⟩ := I1.list h2
      have lt1 : l1 < s1.heap.objs.size := by obtain ⟨o, e, _⟩ := p1; exact Heap.lt_size e
      have lt2 : l2 < s1.heap.objs.size := by obtain ⟨o, e, _⟩ := p2.isList; exact Heap.lt_size e
      refine callZipT p1 p2.isList fun h' a1 a2 a3 a4 a5 a6 a7 => wpAny_pyIter_zip (s := { s1 with heap := h' }) a1 ?_
      refine ⟨_, _, _, _, H1, rfl, I1.kept (t' := s1.toks) a7, turn_zipT (zipApart_new lt1 lt2), ⟨a1, a2, ⟨_, _, a3⟩, a4, a5⟩, fun b hb => ?_, q⟩
      have le : s1.heap.objs.size ≤ b := by
        simp only [List.mem_cons, List.not_mem_nil, or_false] at hb
        rcases hb with rfl | rfl | rfl | rfl | rfl <;> omega
      exact I1.fpOk le (I1.hok.fresh le)
end

section
variable {K : PySem.W.Frag} {g : TG} {tb : TS} {D : Ends} {σ : St} {H : Hp} {ta : TA} {R : It → Hp → Prop}
theorem iZipT_eq : iZipT K ta σ H R = ta σ H fun vs H1 => uR2 vs fun a b => (∃ xs, SqT K H1 a xs) ∧ (∃ ys, SqL K H1 b ys) ∧ R (ItzT K a b) H1 := by
  apply propext
  constructor
  · intro h
    exact h
  · intro h
    exact h
/-- for a, b in zip(tuple, list) of one length -/
theorem ForJ.zipT {a b : Addr} {xs ys : List V} (hlen : xs.length = ys.length) (Pv : Nat → St → Hp → Prop) (h0 : Pv 0 σ H) (hl : ∀ i σ H, i ≤ xs.length → Pv i σ H → SqT K H a xs ∧ SqL K H b ys)
    (hs : ∀ i x y p σ H, xs[i]? = some x → ys[i]? = some y → Pv i σ H → H p = none → g (.ref p) σ (upd H p (.tup [x, y])) fun σ2 H2 => tb { D with nx := Pv (i + 1), ct := Pv (i + 1), bk := D.nx } σ2 H2) (hd : ∀ σ H, Pv xs.length σ H → D.nx σ H) : ForJ (ItzT K a b) g tb D σ H := by
  refine ⟨fun i m σ H => m = xs.length - i ∧ i ≤ xs.length ∧ Pv i σ H, ⟨xs.length, by simp, Nat.zero_le _, h0⟩, ?_⟩
  rintro i m σ H ⟨rfl, hi, p⟩
  obtain ⟨q1, q2⟩ := hl i σ H hi p
  by_cases hlt : i < xs.length
  · refine .inr ⟨⟨xs, ys, xs[i], ys[i]'(by omega), q1, q2, by simp [hlt], by simp [hlen ▸ hlt]⟩, Pv (i + 1), fun σ' H' p' => ⟨xs.length - (i + 1), by omega, rfl, hlt, p'⟩, fun v H' y => ?_⟩
    obtain ⟨T, x, y, hT, rfl, rfl, hx, hy⟩ := y
    exact hs i x y T σ _ (hx xs q1) (hy ys q2) p hT
  · have e : i = xs.length := by omega
    subst e
    exact .inl ⟨⟨xs, ys, q1, q2, Nat.le_refl _⟩, hd σ H p⟩
end
end L2
set_option Elab.async false
set_option linter.all false
set_option maxRecDepth 100000
set_option maxHeartbeats 4000000
namespace L2
open PySem PySem.Spec PyProof.Rows
section
variable {X : Cx}
theorem w_pi_str {tg : Expr} {l : Expr} {tl : TE} (hl : W (PE X l tl)) : W (PIc true X tg l (iStr tl)) := ⟨pi_str (hl := hl.h)⟩
theorem w_pi_enumS {elts : List Expr} {kk : Nat} {tp p pos : Pos} {a : Expr} {ta : TE} (hg : Gl X "enumerate") (hm : X.mg "enumerate" = none) (ha : W (PE X a ta)) (hp : plainE a = true := by rfl) : W (PIc true X (.Tuple elts kk tp) (.Call (.Name "enumerate" p) [a] [] pos) (iEnumS 0 ta)) := ⟨pi_enumS (hg := hg) (hm := hm) (ha := ha.h) (hp := hp)⟩
theorem w_pi_enumK {elts : List Expr} {kk j : Nat} {tp p pos kp cp : Pos} {a : Expr} {ta : TE} (hg : Gl X "enumerate") (hm : X.mg "enumerate" = none) (ha : W (PE X a ta)) (hp : plainE a = true := by rfl) : W (PIc true X (.Tuple elts kk tp) (.Call (.Name "enumerate" p) [a] [⟨some (Str.ofString "start"), .Constant (.int 1) j cp, kp⟩] pos) (iEnumS 1 ta)) := ⟨pi_enumK (hg := hg) (hm := hm) (ha := ha.h) (hp := hp)⟩
theorem w_pe_b_rfind {o e : Expr} {to te : TE} {apos cpos : Pos} (ho : W (PE X o to)) (he : W (PE X e te)) (hbase : attributeBase o "rfind" X.env (eval o X.env) = eval o X.env := by rfl) (hline : (apos.endLine == cpos.line) = true := by rfl) (hp : plainE e = true := by rfl) : W (PE X (.Call (.Attribute o "rfind" apos) [e] [] cpos) (uM1 to te rRfind)) := ⟨pe_b_rfind (ho := ho.h) (he := he.h) (hbase := hbase) (hline := hline) (hp := hp)⟩
theorem w_pe_b_split {o e : Expr} {to te : TE} {apos cpos : Pos} (ho : W (PE X o to)) (he : W (PE X e te)) (hbase : attributeBase o "split" X.env (eval o X.env) = eval o X.env := by rfl) (hline : (apos.endLine == cpos.line) = true := by rfl) (hp : plainE e = true := by rfl) : W (PE X (.Call (.Attribute o "split" apos) [e] [] cpos) (uM1 to te rSplit)) := ⟨pe_b_split (ho := ho.h) (he := he.h) (hbase := hbase) (hline := hline) (hp := hp)⟩
theorem w_pe_fmt {e : Expr} {te : TE} {pos : Pos} (he : W (PE X e te)) : W (PE X (.FormattedValue e (-1) none pos) (uFmt te)) := ⟨pe_fmt (he := he.h)⟩
theorem w_pj_nil  : W (PJ X [] jNil) := ⟨pj_nil ⟩
theorem w_pj_cons {e : Expr} {es : List Expr} {te : TE} {tj : TJ} (he : W (PE X e te)) (hj : W (PJ X es tj)) : W (PJ X (e :: es) (jCons te tj)) := ⟨pj_cons (he := he.h) (hj := hj.h)⟩
theorem w_pe_fstr {e e' : Expr} {es : List Expr} {tj : TJ} {pos : Pos} (h : W (PJ X (e :: e' :: es) tj)) : W (PE X (.JoinedStr (e :: e' :: es) pos) (tJoined tj)) := ⟨pe_fstr (h := h.h)⟩
theorem w_pe_getK {x : Str} {a : Addr} {kvs : List (Str × Addr)} {e : Expr} {te : TE} {np apos cpos : Pos} (hg : Gl X x) (hm : X.mg x = some (.ref a)) (D : DicK X.w X.K a kvs) (he : W (PE X e te)) (hbase : attributeBase (.Name x np) "get" X.env (eval (.Name x np) X.env) = eval (.Name x np) X.env := by rfl) (hline : (apos.endLine == cpos.line) = true := by rfl) (hp : plainE e = true := by rfl) (hd : (x == ("__debug__" : Str)) = false := by decide) : W (PE X (.Call (.Attribute (.Name x np) "get" apos) [e] [] cpos) (tGetK kvs te)) := ⟨pe_getK (hg := hg) (hm := hm) (D := D) (he := he.h) (hbase := hbase) (hline := hline) (hp := hp) (hd := hd)⟩
theorem w_pi_zipT {elts : List Expr} {kk : Nat} {tp p pos : Pos} {a b : Expr} {ta : TA} (hg : Gl X "zip") (hm : X.mg "zip" = none) (ha : W (PA X [a, b] ta)) (hs : starEach [a, b] X.env = [(false, eval a X.env), (false, eval b X.env)] := by rfl) (hs2 : starEach [b] X.env = [(false, eval b X.env)] := by rfl) : W (PIc false X (.Tuple elts kk tp) (.Call (.Name "zip" p) [a, b] [] pos) (iZipT X.K ta)) := ⟨pi_zipT (hg := hg) (hm := hm) (ha := ha.h) (hs := hs) (hs2 := hs2)⟩
end
end L2
set_option Elab.async false
set_option linter.all false
set_option maxRecDepth 100000
set_option maxHeartbeats 4000000
namespace L2
open PySem PySem.Spec PyProof.Rows
/-! ### texts as lists of signs -/
def tx (l : List Nat) : Str := ⟨l.toArray⟩
def sg (z : Str) : List Nat := z.cps.toList
theorem sg_tx (l : List Nat) : sg (tx l) = l := by simp [sg, tx]
theorem tx_sg (z : Str) : tx (sg z) = z := by cases z; simp [sg, tx]
theorem sg_inj {a b : Str} (h : sg a = sg b) : a = b := by rw [← tx_sg a, h, tx_sg]
theorem sg_append (a b : Str) : sg (a ++ b) = sg a ++ sg b := by simp [sg, Str.cps_append]
theorem sg_len (z : Str) : (sg z).length = z.length := by simp [sg, Str.length]
theorem tx_len (l : List Nat) : (tx l).length = l.length := by simp [tx, Str.length]
def c1 (c : Nat) : Str := ⟨#[c]⟩
theorem at_one {x : Str} {c i : Nat} : StrLaws.At x (c1 c) x.length i ↔ (sg x)[i]? = some c := by
  unfold StrLaws.At
  rw [StrLaws.subAt_eq]
  show i + 1 ≤ x.length ∧ ((((sg x).drop i).take 1) == [c]) = true ↔ _
  rw [← sg_len x]
  constructor
  · rintro ⟨h1, h2⟩
    have h2 := eq_of_beq h2
    rw [List.getElem?_eq_getElem (by omega)]
    have h3 : ((sg x).drop i).take 1 = [(sg x)[i]'(by omega)] := by
      rw [List.drop_eq_getElem_cons (by omega)]; rfl
    rw [h3] at h2
    injection h2 with h2 _
    rw [h2]
  · intro h
    obtain ⟨h1, h2⟩ := List.getElem?_eq_some_iff.mp h
    refine ⟨by omega, ?_⟩
    rw [List.drop_eq_getElem_cons h1, h2]
    simp
theorem in_one (y : Str) (c : Nat) : (!(Builtin.Str.occurrences y ⟨#[c]⟩ 0 y.length 1).isEmpty) = (sg y).contains c := by
  rcases StrLaws.occ_head y (c1 c) 1 (Nat.le_refl _) with ⟨h, hn⟩ | ⟨i, r, h, ha, _⟩
  · rw [show Builtin.Str.occurrences y ⟨#[c]⟩ 0 y.length 1 = [] from h]
    symm
    show (sg y).contains c = false
    rw [Bool.eq_false_iff]
    intro hc
    obtain ⟨i, hi, e⟩ := List.getElem_of_mem (List.contains_iff_mem.mp hc)
    exact hn i (at_one.mpr (by rw [List.getElem?_eq_getElem hi, e]))
  · rw [show Builtin.Str.occurrences y ⟨#[c]⟩ 0 y.length 1 = i :: r from h]
    symm
    exact List.contains_iff_mem.mpr (List.mem_of_getElem? (at_one.mp ha))
/-! #### split -/
def splitL (c : Nat) : List Nat → List (List Nat)
  | [] => [[]]
  | x :: t => if x = c then [] :: splitL c t else match splitL c t with
    | [] => [[x]]
    | h :: r => (x :: h) :: r
def preH (p : List Nat) : List (List Nat) → List (List Nat)
  | [] => [p]
  | h :: r => (p ++ h) :: r
theorem splitL_ne (c : Nat) : ∀ l, ∃ h r, splitL c l = h :: r
  | [] => ⟨_, _, rfl⟩
  | x :: t => by
    unfold splitL
    split
    · exact ⟨_, _, rfl⟩
    · obtain ⟨h, r, e⟩ := splitL_ne c t
      rw [e]; exact ⟨_, _, rfl⟩
theorem splitL_cons (c x : Nat) (t : List Nat) (h : x ≠ c) : splitL c (x :: t) = preH [x] (splitL c t) := by
  obtain ⟨a, r, e⟩ := splitL_ne c t
  show (if x = c then _ else _) = _
  rw [if_neg h, e]
  rfl
theorem preH_preH (p q : List Nat) (l : List (List Nat)) : preH p (preH q l) = preH (p ++ q) l := by
  cases l <;> simp [preH]
theorem occ_one_aux (s : Str) (c hi limit : Nat) : ∀ (l : List Nat) (st : Array Nat × Nat), (∀ i ∈ l, st.2 ≤ i) → l.Pairwise (· < ·) → st.1.size + l.length ≤ limit →
    (forIn l st (StrLaws.occBody s (c1 c) hi limit)).run.fst.toList = st.1.toList ++ l.filter fun i => decide (i + 1 ≤ hi) && Builtin.Str.subAt s (c1 c) i
  | [], st, _, _, _ => by simp
  | a :: l, st, h1, h2, h3 => by
    rw [List.forIn_cons]
    unfold StrLaws.occBody
    have ha := h1 a (List.mem_cons_self ..)
    rw [List.pairwise_cons] at h2
    simp only [List.length_cons] at h3
    split
    · rename_i hc
      have ih := occ_one_aux s c hi limit l (st.1.push a, a + (c1 c).length) (fun i hi => by have := h2.1 i hi; show a + 1 ≤ i; omega) h2.2 (by simp; omega)
      have e2 : (decide (a + 1 ≤ hi) && Builtin.Str.subAt s (c1 c) a) = true := by rw [Bool.and_eq_true]; exact ⟨decide_eq_true hc.1.2, hc.2⟩
      rw [List.filter_cons, e2, if_pos rfl]
      refine Eq.trans ih ?_
      simp
    · rename_i hc
      have ih := occ_one_aux s c hi limit l st (fun i hi => h1 i (List.mem_cons_of_mem _ hi)) h2.2 (by omega)
      have e2 : (decide (a + 1 ≤ hi) && Builtin.Str.subAt s (c1 c) a) = false := by
        rw [Bool.eq_false_iff]
        intro h
        rw [Bool.and_eq_true] at h
        exact hc ⟨⟨⟨by omega, ha⟩, of_decide_eq_true h.1⟩, h.2⟩
      rw [List.filter_cons, e2, if_neg (by simp)]
      exact ih
theorem occ_one (x : Str) (c : Nat) : Builtin.Str.occurrences x (c1 c) 0 x.length (x.length + 1) = (List.range' 0 (x.length + 1)).filter fun i => (sg x)[i]? == some c := by
  rw [StrLaws.occ_eq]
  rw [occ_one_aux x c x.length (x.length + 1) _ _ (fun _ _ => Nat.zero_le _) (List.pairwise_lt_range' (s := 0) (n := x.length + 1 - 0)) (by simp)]
  simp only [List.nil_append, Nat.sub_zero]
  refine List.filter_congr fun i _ => ?_
  rw [Bool.eq_iff_iff]
  have := at_one (x := x) (c := c) (i := i)
  unfold StrLaws.At at this
  rw [Bool.and_eq_true, decide_eq_true_eq, beq_iff_eq]
  exact this
theorem parts_one (x : Str) (c : Nat) : ∀ (k a i : Nat), i + k = x.length → a ≤ i → StrLaws.partsFrom x 1 a ((List.range' i (k + 1)).filter fun i => (sg x)[i]? == some c) = (preH (((sg x).drop a).take (i - a)) (splitL c ((sg x).drop i))).map tx
  | 0, a, i, h, ha => by
    have hl := sg_len x
    have e1 : (sg x)[i]? = none := List.getElem?_eq_none (by omega)
    have e2 : (sg x).drop i = [] := List.drop_eq_nil_of_le (by omega)
    have e3 : (List.range' i (0 + 1)).filter (fun i => (sg x)[i]? == some c) = [] := by
      show List.filter _ [i] = []
      rw [List.filter_cons, e1]; rfl
    rw [e2, e3]
    show [Builtin.Str.strSub x a x.length] = [tx _]
    refine congrArg (· :: []) (sg_inj ?_)
    rw [sg_tx]
    show (Builtin.Str.strSub x a x.length).cps.toList = _
    rw [StrLaws.strSub_toList, show x.length = i by omega]
    simp [splitL, sg]
  | k + 1, a, i, h, ha => by
    have hl := sg_len x
    have hi : i < (sg x).length := by omega
    have e0 : (sg x)[i]? = some ((sg x)[i]) := List.getElem?_eq_getElem hi
    have ed : (sg x).drop i = (sg x)[i] :: (sg x).drop (i + 1) := List.drop_eq_getElem_cons hi
    rw [List.range'_succ, List.filter_cons, e0, ed]
    by_cases hc : (sg x)[i] = c
    · rw [if_pos (by simp [hc])]
      have ih := parts_one x c k (i + 1) (i + 1) (by omega) (Nat.le_refl _)
      show Builtin.Str.strSub x a i :: StrLaws.partsFrom x 1 (i + 1) _ = _
      rw [ih]
      have e4 : splitL c ((sg x)[i] :: (sg x).drop (i + 1)) = [] :: splitL c ((sg x).drop (i + 1)) := by
        show (if _ = c then _ else _) = _
        rw [if_pos hc]
      rw [e4]
      obtain ⟨p, r, e⟩ := splitL_ne c ((sg x).drop (i + 1))
      rw [e]
      simp only [Nat.sub_self, List.take_zero, preH, List.nil_append, List.append_nil, List.map_cons]
      refine congrArg (· :: _) (sg_inj ?_)
      rw [sg_tx]
      exact StrLaws.strSub_toList x a i
    · rw [if_neg (by simp [hc])]
      rw [parts_one x c k a (i + 1) (by omega) (by omega), splitL_cons c _ _ hc, preH_preH]
      have e5 : ((sg x).drop a).take (i + 1 - a) = ((sg x).drop a).take (i - a) ++ [(sg x)[i]] := by
        rw [show i + 1 - a = (i - a) + 1 by omega, List.take_add_one]
        congr 1
        rw [List.getElem?_drop, show a + (i - a) = i by omega, e0]
        rfl
      rw [e5]
theorem splitL_no {c : Nat} : ∀ {l : List Nat}, c ∉ l → splitL c l = [l]
  | [], _ => rfl
  | x :: t, h => by
    rw [List.mem_cons, not_or] at h
    rw [splitL_cons c x t (Ne.symm h.1), splitL_no h.2]
    rfl
theorem split_one (x : Str) {c : Nat} (hc : c < 128) : PySem.Txt.split x (c1 c) = (splitL c (sg x)).map tx := by
  have hk : Builtin.Str.strKind (c1 c) = 1 := by
    unfold Builtin.Str.strKind
    rw [if_pos]
    show (#[c] : Array Nat).all (· < 256) = true
    simp; omega
  have hk2 : ¬ Builtin.Str.strKind x < Builtin.Str.strKind (c1 c) := by
    rw [hk]
    unfold Builtin.Str.strKind
    split <;> (try split) <;> omega
  have whole : c ∉ sg x → [x] = (splitL c (sg x)).map tx := fun h => by rw [splitL_no h]; show [x] = [tx (sg x)]; rw [tx_sg]
  unfold PySem.Txt.split
  split
  · rename_i h
    rw [decide_eq_false hk2, Bool.or_false, decide_eq_true_eq] at h
    have h : x.length < 1 := h
    rw [← sg_len] at h
    refine whole ?_
    have e0 : sg x = [] := List.eq_nil_of_length_eq_zero (by omega)
    rw [e0]
    exact List.not_mem_nil
  · split
    · rename_i h
      refine whole fun hm => ?_
      obtain ⟨i, hi, e⟩ := List.getElem_of_mem hm
      rw [occ_one] at h
      have : i ∈ (List.range' 0 (x.length + 1)).filter fun i => (sg x)[i]? == some c := by
        rw [List.mem_filter]
        refine ⟨?_, by rw [List.getElem?_eq_getElem hi, e]; simp⟩
        rw [List.mem_range'_1]
        rw [sg_len] at hi
        omega
      rw [List.isEmpty_iff.mp h] at this
      exact absurd this List.not_mem_nil
    · rw [StrLaws.partsBetween_eq, occ_one]
      show StrLaws.partsFrom x 1 0 _ = _
      rw [parts_one x c x.length 0 0 (by omega) (Nat.le_refl _)]
      simp only [Nat.sub_self, List.take_zero, List.drop_zero]
      obtain ⟨h, r, e⟩ := splitL_ne c (sg x)
      rw [e]; rfl
/-- words without the sign, it behind each but the last, are split so -/
theorem splitL_words {c : Nat} : ∀ (w : List Nat) (ws : List (List Nat)), (∀ v ∈ w :: ws, c ∉ v) → splitL c (w ++ (ws.map (c :: ·)).flatten) = w :: ws
  | [], [], _ => rfl
  | [], v :: ws, h => by
    have ih := splitL_words v ws fun u hu => h u (List.mem_cons_of_mem _ hu)
    show splitL c (c :: (v ++ (ws.map (c :: ·)).flatten)) = _
    show (if c = c then _ else _) = _
    rw [if_pos rfl, ih]
  | x :: w, ws, h => by
    have hx := h _ (List.mem_cons_self ..)
    rw [List.mem_cons, not_or] at hx
    have ih := splitL_words w ws fun u hu => by
      rcases List.mem_cons.mp hu with rfl | hu
      · exact hx.2
      · exact h u (List.mem_cons_of_mem _ hu)
    show splitL c (x :: (w ++ (ws.map (c :: ·)).flatten)) = _
    rw [splitL_cons c x _ (Ne.symm hx.1), ih]
    rfl
/-! #### rfind -/
theorem last_aux (x : Str) (c hi : Nat) : ∀ (l : List Nat) (st : Option Nat), (forIn l st (fun i r => if (decide (i + (c1 c).length ≤ hi) && Builtin.Str.subAt x (c1 c) i) = true then (pure (ForInStep.yield (some i)) : Id _) else pure (ForInStep.yield r))).run =
    l.foldl (fun acc i => if (decide (i + 1 ≤ hi) && Builtin.Str.subAt x (c1 c) i) = true then some i else acc) st
  | [], st => rfl
  | a :: l, st => by
    rw [List.forIn_cons, List.foldl_cons]
    show _ = l.foldl _ (if (decide (a + (c1 c).length ≤ hi) && Builtin.Str.subAt x (c1 c) a) = true then some a else st)
    split
    · exact last_aux x c hi l _
    · exact last_aux x c hi l _
theorem last_fold (x : Str) (c : Nat) : Builtin.Str.lastOccurrence x (c1 c) 0 x.length = (List.range' 0 (x.length + 1)).foldl (fun acc i => if (sg x)[i]? = some c then some i else acc) none := by
  have e : Builtin.Str.lastOccurrence x (c1 c) 0 x.length = (forIn (List.range' 0 (x.length + 1)) none (fun i r => if (decide (i + (c1 c).length ≤ x.length) && Builtin.Str.subAt x (c1 c) i) = true then (pure (ForInStep.yield (some i)) : Id _) else pure (ForInStep.yield r))).run := by
    unfold Builtin.Str.lastOccurrence
    simp
  rw [e, last_aux]
  congr 1
  funext acc i
  have := at_one (x := x) (c := c) (i := i)
  unfold StrLaws.At at this
  by_cases h : (sg x)[i]? = some c
  · rw [if_pos h, if_pos]
    rw [Bool.and_eq_true, decide_eq_true_eq]
    exact this.mpr h
  · rw [if_neg h, if_neg]
    intro q
    rw [Bool.and_eq_true, decide_eq_true_eq] at q
    exact h (this.mp q)
theorem fold_keep {p : Nat → Prop} [DecidablePred p] : ∀ (l : List Nat) (a : Option Nat), (∀ i ∈ l, ¬ p i) → l.foldl (fun acc i => if p i then some i else acc) a = a
  | [], _, _ => rfl
  | x :: l, a, h => by
    rw [List.foldl_cons, if_neg (h x (List.mem_cons_self ..))]
    exact fold_keep l a fun i hi => h i (List.mem_cons_of_mem _ hi)
theorem rfind_at {x : Str} {c : Nat} {a b : List Nat} (h : sg x = a ++ c :: b) (hb : c ∉ b) : PySem.Txt.rfind x (c1 c) = a.length := by
  have hl : x.length = a.length + (b.length + 1) := by rw [← sg_len, h]; simp
  have e : Builtin.Str.lastOccurrence x (c1 c) 0 x.length = some a.length := by
    rw [last_fold, show x.length + 1 = a.length + ((b.length + 1) + 1) by omega, ← List.range'_append_1, List.foldl_append, List.range'_succ, List.foldl_cons]
    rw [if_pos (by rw [h]; simp), Nat.zero_add]
    refine fold_keep (p := fun i => (sg x)[i]? = some c) _ _ fun i hi => ?_
    rw [List.mem_range'_1] at hi
    intro q
    rw [h, List.getElem?_append_right (by omega)] at q
    obtain ⟨j, hj⟩ : ∃ j, i - a.length = j + 1 := ⟨i - a.length - 1, by omega⟩
    rw [hj, List.getElem?_cons_succ] at q
    exact hb (List.mem_of_getElem? q)
  show (match Builtin.Str.lastOccurrence x (c1 c) 0 x.length with | some i => (i : Int) | none => -1) = _
  rw [e]
theorem rfind_no {x : Str} {c : Nat} (h : c ∉ sg x) : PySem.Txt.rfind x (c1 c) = -1 := by
  have e : Builtin.Str.lastOccurrence x (c1 c) 0 x.length = none := by
    rw [last_fold]
    exact fold_keep (p := fun i => (sg x)[i]? = some c) _ _ fun i _ q => h (List.mem_of_getElem? q)
  show (match Builtin.Str.lastOccurrence x (c1 c) 0 x.length with | some i => (i : Int) | none => -1) = _
  rw [e]
/-! #### slices -/
theorem slice_to {x : Str} {j : Nat} (h : j ≤ (sg x).length) : PySem.Txt.slice x none (some (j : Int)) = tx ((sg x).take j) := by
  have e := StrLaws.sliceText_to (x := x) (j := (j : Int)) ⟨by omega, by simpa [sg] using h⟩
  refine Eq.trans (show PySem.Txt.slice x none (some (j : Int)) = StrLaws.sliceText x none (some (j : Int)) from rfl) (e.trans ?_)
  show tx _ = tx _
  simp [sg]
theorem slice_but_last {x : Str} (h : 0 < (sg x).length) : PySem.Txt.slice x none (some (-1)) = tx ((sg x).dropLast) := by
  rw [sg_len] at h
  have e := StrLaws.sliceText_to_neg (x := x) (j := -1) (by omega) (by omega)
  refine Eq.trans (show PySem.Txt.slice x none (some (-1)) = StrLaws.sliceText x none (some (-1)) from rfl) (e.trans ?_)
  show tx _ = tx _
  rw [List.dropLast_eq_take, sg_len, List.drop_zero, show (-1 + (x.length : Int) - 0).toNat = x.length - 1 by omega]
  rfl
/-! #### texts of numbers -/
theorem sg_num (m : Nat) : sg (toString ((m : Nat) : Int) : Str) = (Nat.toDigits 10 m).map Char.toNat := PySem.W.KIN.signs_num m
end L2
set_option Elab.async false
set_option linter.all false
set_option maxRecDepth 100000
set_option maxHeartbeats 4000000
namespace L2
open PySem PySem.Spec PyProof.Rows
section
variable {X : Cx} {tg : Expr}
/-! ### for x in a list or a tuple -/
def iSeq (K : PySem.W.Frag) (tl : TE) : TI := fun σ H R => tl σ H fun x H1 => uR x fun a => (∃ xs, SqL K H1 a xs ∧ R (Itl K a) H1) ∨ ∃ xs, SqT K H1 a xs ∧ R (Itt K a) H1
theorem iSeq_eq {K : PySem.W.Frag} {tl : TE} {σ : St} {H : Hp} {R : It → Hp → Prop} : iSeq K tl σ H R = tl σ H fun x H1 => uR x fun a => (∃ xs, SqL K H1 a xs ∧ R (Itl K a) H1) ∨ ∃ xs, SqT K H1 a xs ∧ R (Itt K a) H1 := rfl
end
section
variable {K : PySem.W.Frag} {g : TG} {tt : TT} {te : TE} {H : Hp} {Q : VK} {R : It → Hp → Prop}
/-- a comprehension over a tuple -/
theorem CompJ.tup {a : Addr} {xs : List V} {τ : St} (Pv : Nat → St → List V → Hp → Prop) (hz : ∀ i τ ys H, Pv i τ ys H → ys.length < sizeLine) (ha : ∀ i τ ys H, Pv i τ ys H → SqT K H a xs) (h0 : Pv 0 τ [] H)
    (hs : ∀ (N : St → List V → Hp → Prop) i x τ ys H, xs[i]? = some x → Pv i τ ys H → (∀ τ ys H, Pv (i + 1) τ ys H → N τ ys H) → g x τ H fun τ1 H4 => tt τ1 H4 fun ok H5 => CompN N ys τ1 te ok H5) (hd : ∀ τ ys H, Pv xs.length τ ys H → ∀ D H', New H D (.lst ys) H' → Q (.ref D) H') : CompJ (Itt K a) g tt te τ H Q := by
  refine ⟨fun i m τ ys H => m = xs.length - i ∧ i ≤ xs.length ∧ Pv i τ ys H, ⟨xs.length, by simp, Nat.zero_le _, h0⟩, ?_⟩
  rintro i m τ ys H2 ⟨rfl, hi, p⟩
  refine ⟨hz i τ ys H2 p, ?_⟩
  have q := ha i τ ys H2 p
  by_cases hlt : i < xs.length
  · refine .inr ⟨⟨xs, xs[i], q, by simp [hlt]⟩, fun x H' y => ?_⟩
    obtain ⟨e, y⟩ := y
    subst e
    exact hs (fun τ1 ys H => ∃ m', m' < xs.length - i ∧ m' = xs.length - (i + 1) ∧ i + 1 ≤ xs.length ∧ Pv (i + 1) τ1 ys H) i x τ ys _ (y xs q) p fun τ1 zs H q => ⟨xs.length - (i + 1), by omega, rfl, hlt, q⟩
  · have e : i = xs.length := by omega
    subst e
    exact .inl ⟨⟨xs, q, Nat.le_refl _⟩, fun D hD => hd τ ys H2 p D _ (.mk' hD)⟩
theorem uIsN_r {c : Bool} {a : Addr} {H : Hp} {Q : VK} : uIsN c (.ref a) .non H Q = Q (.bl (if c then true else false)) H := by simp [uIsN]
theorem uIsN_s {c : Bool} {a : Str} {H : Hp} {Q : VK} : uIsN c (.str a) .non H Q = Q (.bl (if c then true else false)) H := by simp [uIsN]
theorem asc_sg (z : Str) : asc z = (sg z).all (· < 128) := by simp [asc, sg]
end
end L2
set_option Elab.async false
set_option linter.all false
set_option maxRecDepth 100000
set_option maxHeartbeats 4000000
namespace L2
open PySem PySem.Spec PyProof.Rows
def HasT (h : Heap) (e : Addr) : Prop := ∃ oe vs T, h.get? e = some oe ∧ oe.data = .fields vs ∧ vs[1]? = some (Value.ref T)
section
variable {M : Model} {A : Around} {E : Value → Shared → Prop} {s : Shared} {B : Heap} {env : Env} {outer l : List Env} {L e : Addr} {cls fl : Value}
theorem flyT_entry {oe : Obj} {vs : Array Value} {head : Value} {had : Bool} {Q : Unit → Shared → Prop} (hfr : A.frames = some (env :: outer)) (hf : env.frame = some L) (st : B.StaysIn s.heap) (hn : B.get? e = none)
    (hl : s.heap.FunFrames B (env :: outer)) (he : s.heap.get? e = some oe) (hc : oe.cls = cls) (hdi : oe.dict = none) (hd : oe.data = .fields vs) (hz : 2 < vs.size) (h2 : vs[2]? = some .none)
    (k : ∀ h', FlyZ B (env :: outer) e cls (rawInt L) h' → HasT h' e → s.heap.UpToSlots h' → Q () { s with heap := h' }) :
    wpAny M A (do let a ← frameOf env; let pl ← entryPlaceOf L had; let b ← EntryCells.newEntry head a .none (rawInt L) .none pl; setField (.ref e) 1 b) Q E s := by
  have nfr : e ∉ (env :: outer).filterMap (·.frame) := fun z => by
    obtain ⟨_, o, ho, nf⟩ := hl.mem z
    rw [he] at ho
    cases ho
    exact nf vs hd
  refine wpAny_bind (wpAny_frameOf_fun hfr hl hf fun g only => ?_)
  obtain ⟨_, same, slots⟩ := only
  refine wpAny_bind (wpAny_entryPlaceOf fun pl hpl => ?_)
  have key : ∀ (tb : Obj) (ts : Array Value), tb.data = .fields ts → ts[3]? = some (rawInt L) → wpAny M A (setField (.ref e) 1 (.ref g.objs.size)) Q E { s with heap := g.push tb } := by
    intro tb ts td t3
    have e1 : g.get? e = some oe := (same e nfr).trans he
    have e2 : (g.push tb).get? e = some oe := Heap.get?_push_of_some _ e1
    have hT : (g.push tb).get? g.objs.size = some tb := Heap.get?_push_size _ (by rw [Obj.isFreed_of_fields td])
    have hne : g.objs.size ≠ e := Nat.ne_of_gt (Heap.lt_size e1)
    have fresh : B.get? g.objs.size = none := by
      cases q : B.get? g.objs.size with
      | none => rfl
      | some o =>
        obtain ⟨sl, z⟩ := slots _ o (st _ o q)
        exact absurd (Heap.lt_size z) (Nat.lt_irrefl _)
    have up : ∀ b o, b ≠ e → g.get? b = some o → ((g.push tb).update e (Obj.mapFields (·.setIfInBounds 1 (.ref g.objs.size)))).get? b = some o := fun b o hb q =>
      (Heap.get?_update_other _ _ (Ne.symm hb)).trans (Heap.get?_push_of_some _ q)
    have notE : ∀ b o, s.heap.get? b = some o → (∀ ws, o.data ≠ .fields ws) → b ≠ e := fun b o q nf z => by
      rw [z, he] at q
      cases q
      exact nf vs hd
    have dd := Obj.data_mapFields hd (·.setIfInBounds 1 (Value.ref g.objs.size))
    refine wpAny_setField e2 hd (by omega) (k _ ⟨fun b o q => ?_, hn, ?_, ?_⟩ ⟨_, _, g.objs.size, Heap.get?_update_self _ e2 (Obj.isFreed_of_fields dd), dd, by rw [Array.getElem?_setIfInBounds_self_of_lt (by omega)]⟩ fun b o q nf => ?_)
    · refine up b o (fun z => by rw [z, hn] at q; cases q) ((same b fun z => ?_).trans (st b o q))
      rw [(hl.mem z).1] at q
      cases q
    · refine hl.of_keeps fun b o q nf => ?_
      obtain ⟨sl, z⟩ := slots b o q
      exact ⟨_, up b _ (notE b o q nf) z, rfl⟩
    · refine ⟨_, _, Heap.get?_update_self _ e2 (Obj.isFreed_of_fields dd), (Obj.cls_mapFields _ _).trans hc, (dict_mapFields _ _).trans hdi, dd, by simpa using hz, by rw [Array.getElem?_setIfInBounds_ne (by decide)]; exact h2, .inr ⟨g.objs.size, tb, ts, ?_, fresh, hne, ?_, td, t3⟩⟩
      · rw [Array.getElem?_setIfInBounds_self_of_lt (by omega)]
      · rw [Heap.get?_update_other _ _ (Ne.symm hne)]
        exact hT
    · obtain ⟨sl, z⟩ := slots b o q
      exact ⟨sl, up b _ (notE b o q nf) z⟩
  unfold EntryCells.newEntry newFields
  refine wpAny_bind (wpAny_newObj_type ?_ (hpl.sizeOk5 _ _ _ _ _))
  exact key _ _ rfl (by simp)
theorem flyT_note {Q : Unit → Shared → Prop} (hfr : A.frames = some (env :: outer)) (hf : env.frame = some L) (x : FlyZ B (env :: outer) e cls fl s.heap)
    (k : ∀ h', FlyZ B (env :: outer) e cls (rawInt L) h' → HasT h' e → s.heap.UpToSlots h' → Q () { s with heap := h' }) : wpAny M A (noteFrame (.ref e) env) Q E s := by
  obtain ⟨st, hn, hl, oe, vs, he, hc, hdi, hd, hz, h2, h1⟩ := x
  unfold noteFrame
  simp only [hf]
  rcases h1 with h1 | ⟨T, oT, ts, h1, nT, Te, gT, dT, t3⟩
  · refine wpAny_bind (wpAny_field he hd h1 ?_)
    rw [if_neg (show ¬ ((Value.none != Value.none) = true) by decide)]
    exact flyT_entry hfr hf st hn hl he hc hdi hd hz h2 k
  · refine wpAny_bind (wpAny_field he hd h1 ?_)
    rw [if_pos (show (Value.ref T != Value.none) = true by simp)]
    refine wpAny_bind (wpAny_field gT dT t3 ?_)
    by_cases hfl : fl = rawInt L
    · subst hfl
      rw [if_pos (show (rawInt L == rawInt L) = true by simp)]
      exact wpAny_pure (k s.heap ⟨st, hn, hl, oe, vs, he, hc, hdi, hd, hz, h2, .inr ⟨T, oT, ts, h1, nT, Te, gT, dT, t3⟩⟩ ⟨oe, vs, T, he, hd, h1⟩ (Heap.UpToSlots.refl _))
    · rw [if_neg (show ¬ ((fl == rawInt L) = true) by simpa using hfl)]
      refine wpAny_bind (wpAny_setField gT dT (Array.getElem?_eq_some_iff.mp t3).1 ?_)
      have oth : ∀ b, b ≠ T → (s.heap.update T (Obj.mapFields (·.setIfInBounds 3 Value.none))).get? b = s.heap.get? b := fun b hb => Heap.get?_update_other _ _ (Ne.symm hb)
      have notT : ∀ b o, s.heap.get? b = some o → (∀ ws, o.data ≠ .fields ws) → b ≠ T := fun b o q nf z => by
        rw [z, gT] at q
        cases q
        exact nf ts dT
      refine flyT_entry (B := B) (cls := cls) hfr hf (fun b o q => ?_) hn (hl.of_keeps fun b o q nf => ⟨o, (oth b (notT b o q nf)).trans q, rfl⟩) ((oth e (Ne.symm Te)).trans he) hc hdi hd hz h2 fun h' y ht up => k h' y ht fun b o q nf => up b o ((oth b (notT b o q nf)).trans q) nf
      exact (oth b fun z => by rw [z, nT] at q; cases q).trans (st b o q)
theorem flyT_flight {Q : Unit → Shared → Prop} (x : FlyZ B l e cls fl s.heap) (k : ∀ h', FlyZ B l e cls (rawInt L) h' → s.heap.UpToSlots h' → Q () { s with heap := h' }) : wpAny M A (setFlight (.ref e) (some L)) Q E s := by
  obtain ⟨st, hn, hl, oe, vs, he, hc, hdi, hd, hz, h2, h1⟩ := x
  unfold setFlight
  rcases h1 with h1 | ⟨T, oT, ts, h1, nT, Te, gT, dT, t3⟩
  · refine wpAny_bind (wpAny_field he hd h1 ?_)
    rw [if_neg (show ¬ ((Value.none != Value.none) = true) by decide)]
    exact wpAny_pure (k s.heap ⟨st, hn, hl, oe, vs, he, hc, hdi, hd, hz, h2, .inl h1⟩ (Heap.UpToSlots.refl _))
  · refine wpAny_bind (wpAny_field he hd h1 ?_)
    rw [if_pos (show (Value.ref T != Value.none) = true by simp)]
    have lt3 : 3 < ts.size := (Array.getElem?_eq_some_iff.mp t3).1
    have dd := Obj.data_mapFields dT (·.setIfInBounds 3 (rawInt L))
    have oth : ∀ b, b ≠ T → (s.heap.update T (Obj.mapFields (·.setIfInBounds 3 (rawInt L)))).get? b = s.heap.get? b := fun b hb => Heap.get?_update_other _ _ (Ne.symm hb)
    have notT : ∀ b o, s.heap.get? b = some o → (∀ ws, o.data ≠ .fields ws) → b ≠ T := fun b o q nf z => by
      rw [z, gT] at q
      cases q
      exact nf ts dT
    refine wpAny_setField gT dT lt3 (k _ ⟨fun b o q => (oth b fun z => by rw [z, nT] at q; cases q).trans (st b o q), hn, hl.of_keeps fun b o q nf => ⟨o, (oth b (notT b o q nf)).trans q, rfl⟩, oe, vs, (oth e (Ne.symm Te)).trans he, hc, hdi, hd, hz, h2,
      .inr ⟨T, _, _, h1, nT, Te, Heap.get?_update_self _ gT (Obj.isFreed_of_fields dd), dd, ?_⟩⟩ fun b o q nf => ⟨o.slots, (oth b (notT b o q nf)).trans q⟩)
    rw [Array.getElem?_setIfInBounds_self_of_lt lt3]
end
/-- what an exception under way is, as a context's own word -/
def FlyP (X : Cx) (Ex : Addr → St → Hp → Prop) : Value → Shared → Prop := fun e s' => ∃ (ea C : Addr) (B : Heap) (H' : Hp) (fl : Value) (σ : St) (sI : Shared) (pins : List (Addr × Obj)), e = .ref ea ∧ Inv X pins σ H' sI ∧ FlyZ B X.stack ea (.ref C) fl s'.heap ∧
  s'.os = sI.os ∧ AllBare s'.gens ∧ (∀ b o, sI.heap.get? b = some o → b ∉ frs X.stack → B.get? b = some o) ∧ sI.heap.UpToSlots s'.heap ∧ Ex C σ H'
abbrev cxF (X : Cx) (Ex : Addr → St → Hp → Prop) : Cx := X.wish (FlyP X Ex)
theorem throws_F {X : Cx} {Ex : Addr → St → Hp → Prop} : Throws (cxF X Ex) Ex := fun ps σ H sI ea C B fl s' I y os bare hB up q =>
  ⟨ea, C, B, H, fl, σ, sI, ps, rfl, I.unwish, y, os, bare, hB, up, q⟩
theorem passes_F {X : Cx} {Ex : Addr → St → Hp → Prop} (hst : X.stack = X.env :: X.outer) (hfr : X.Ok → X.A.frames = some (X.env :: X.outer)) {L : Addr} (hL : X.env.frame = some L) : PassesOwn (model X.prog X.w) X.A X.env (FlyP X Ex) := by
  rintro e s' ⟨ea, C, B, H', fl, σ, sI, pins, rfl, I, y, os, bare, hB, up, q⟩
  have fr := hfr I.ok
  rw [hst] at y
  refine flyT_note fr hL y fun h1 y1 ht u1 => ?_
  obtain ⟨oe, vs, T, g1, g2, g3⟩ := ht
  refine wpAny_bind (wpAny_field g1 g2 g3 ?_)
  rw [if_neg (show ¬ ((Value.ref T == Value.none) = true) by simp)]
  rw [hL]
  refine flyT_flight (s := { s' with heap := h1 }) y1 fun h2 y2 u2 => ?_
  rw [← hst] at y2
  exact ⟨ea, C, B, H', _, σ, sI, pins, rfl, I, y2, os, bare, hB, (up.trans u1).trans u2, q⟩
theorem PS.thr {X : Cx} {Ex : Addr → St → Hp → Prop} {st : Stmt} {t : TS} (T : Throws X Ex) (h : PS (cxF X Ex) st t) : PS X st t := fun pins s σ H D I hw =>
  wpAny_mono (h pins s σ H D (I.wish _) hw) (fun _ _ q => q.unwish) fun e s' ⟨ea, C, B, H', fl, σ', sI, ps, he, I', y, os, bare, hB, up, q⟩ => by
    subst he
    exact T ps σ' H' sI ea C B fl s' I' y os bare hB up q
theorem w_ps_thr {X : Cx} {Ex : Addr → St → Hp → Prop} {st : Stmt} {t : TS} (T : Throws X Ex) (h : W (PS (cxF X Ex) st t)) : W (PS X st t) := ⟨PS.thr T h.h⟩
end L2
set_option Elab.async false
set_option linter.all false
set_option maxRecDepth 100000
set_option maxHeartbeats 4000000
namespace L2
open PySem PySem.Spec PyProof.Rows
section
variable {X : Cx}
/-! ### != of tuples of flat things -/
def uNeT : R2 := fun x y H Q => uEq true x y H Q ∨ ∃ a b xs ys, x = .ref a ∧ y = .ref b ∧ H a = some (.tup xs) ∧ H b = some (.tup ys) ∧ xs.all flatV = true ∧ ys.all flatV = true ∧ Q (.bl (!eqL xs ys)) H
theorem uNeT_rr {a b : Addr} {H : Hp} {Q : VK} : uNeT (.ref a) (.ref b) H Q = ∃ xs ys, ((H a = some (.lst xs) ∧ H b = some (.lst ys)) ∨ (H a = some (.tup xs) ∧ H b = some (.tup ys))) ∧ xs.all flatV = true ∧ ys.all flatV = true ∧ Q (.bl (!eqL xs ys)) H := by
  apply propext; constructor
  · rintro (h | ⟨a', b', xs, ys, e1, e2, h1, h2, f1, f2, q⟩)
    · rw [uEq_rr] at h
      obtain ⟨xs, ys, h1, h2, f1, f2, q⟩ := h
      exact ⟨xs, ys, .inl ⟨h1, h2⟩, f1, f2, q⟩
    · cases e1; cases e2; exact ⟨xs, ys, .inr ⟨h1, h2⟩, f1, f2, q⟩
  · rintro ⟨xs, ys, ⟨h1, h2⟩ | ⟨h1, h2⟩, f1, f2, q⟩
    · exact .inl (by rw [uEq_rr]; exact ⟨xs, ys, h1, h2, f1, f2, q⟩)
    · exact .inr ⟨a, b, xs, ys, rfl, rfl, h1, h2, f1, f2, q⟩
/-! ### find -/
def rFind : Str → V → Hp → VK → Prop := fun z y H Q => uS y fun q => Q (.int (PySem.Txt.find z q)) H
theorem rFind_s {z q : Str} {H : Hp} {Q : VK} : rFind z (.str q) H Q = Q (.int (PySem.Txt.find z q)) H := uS_s
end
end L2
set_option Elab.async false
set_option linter.all false
set_option maxRecDepth 100000
set_option maxHeartbeats 4000000
namespace L2
open PySem PySem.Spec PyProof.Rows
section
variable {X : Cx}
/-! ### repr of anything, str of a truth -/
def rReprV (A : Around) : List V → Hp → VK → Prop := fun xs H Q => rRepr A xs H Q ∨ (∃ z, xs = [.str z] ∧ (PyData.str z).shown.length ≤ sizeLine ∧ Q (.str (PyData.str z).shown) H) ∨ (∃ i, xs = [.int i] ∧ i.natAbs.log2 < 1920 ∧ Q (.str (toString i)) H) ∨
  (∃ b : Bool, xs = [.bl b] ∧ Q (.str (if b then "True" else "False")) H) ∨ (xs = [.non] ∧ Q (.str "None") H)
theorem call_reprV (hg : X.A.guards = some []) : CallR X (.builtin "repr") (rReprV X.A) := by
  intro pins s σ H xs us Q I r h
  rcases h with h | ⟨z, rfl, hz, q⟩ | ⟨i, rfl, hi, q⟩ | ⟨b, rfl, q⟩ | ⟨rfl, q⟩
  · exact call_repr hg pins s σ H xs us Q I r h
  · cases r with
    | cons r1 rr =>
      cases rr
      obtain ⟨t, rfl⟩ := r1
      have e : (PyData.str z).shown = PySem.reprText z := by simp only [PyData.shown]
      rw [e] at hz q
      exact PySem.P.repr_of_str ⟨.str _, H, I.tok _, ⟨_, rfl⟩, q⟩ hz
  · cases r with
    | cons r1 rr =>
      cases rr
      obtain ⟨t, rfl⟩ := r1
      exact PySem.P.repr_of_int hi ⟨.str _, H, I.tok _, ⟨_, rfl⟩, q⟩
  · cases r with
    | cons r1 rr =>
      cases rr
      cases (show _ = Value.bool b from r1)
      exact PySem.P.repr_of_bool ⟨.str _, H, I.tok _, ⟨_, by cases b <;> rfl⟩, q⟩
  · cases r with
    | cons r1 rr =>
      cases rr
      cases (show _ = Value.none from r1)
      exact PySem.P.repr_of_none ⟨.str _, H, I.tok _, ⟨_, rfl⟩, q⟩
def uStrB : List V → Hp → VK → Prop := fun xs H Q => uStrT xs H Q ∨ ∃ b : Bool, xs = [.bl b] ∧ Q (.str (if b then "True" else "False")) H
theorem call_strB : CallR X (.type "str") uStrB := by
  intro pins s σ H xs us Q I r h
  rcases h with h | ⟨b, rfl, q⟩
  · exact call_strT pins s σ H xs us Q I r h
  · cases r with
    | cons r1 rr =>
      cases rr
      cases (show _ = Value.bool b from r1)
      exact PySem.P.str_of_bool ⟨.str _, H, I.tok _, ⟨_, by cases b <;> rfl⟩, q⟩
theorem uStrB_i {i : Int} {H : Hp} {Q : VK} : uStrB [.int i] H Q = (i.natAbs.log2 < 1920 ∧ Q (.str (toString i)) H) := by simp [uStrB, uStrT_i]
theorem uStrB_s {z : Str} {H : Hp} {Q : VK} : uStrB [.str z] H Q = Q (.str z) H := by simp [uStrB, uStrT_s]
theorem uStrB_b {b : Bool} {H : Hp} {Q : VK} : uStrB [.bl b] H Q = Q (.str (if b then "True" else "False")) H := by simp [uStrB, uStrT, uStr]
end
end L2
set_option Elab.async false
set_option linter.all false
set_option maxRecDepth 100000
set_option maxHeartbeats 4000000
namespace L2
open PySem PySem.Spec PyProof.Rows
/-! ### x = [a comprehension], x a local name: the store is exchanged with the letting go -/
theorem ps_setLC {c : Bool} {X : Cx} {elt tg iter : Expr} {ifs : List Expr} {sc : Scope} {pos pos' pos0 : Pos} {N' : List Str} {ix : List (Option Nat)} {wi : TI} {g : TG} {tt : TT} {te : TE} {i0 : Nat} {x0 : Str} (hN0 : X.N.Nodup) (hi0 : X.N[i0]? = some x0) (hx0 : Loc X.env.scope x0) (hc : c = true → X.calm = true) (L : LcOk X sc N' ix) (hi : PIc c X tg iter wi)
    (hg : ∀ pins C fp s H, PG (cxLC X sc N' pins C fp s H) tg g) (ht : ∀ pins C fp s H, PTs (cxLC X sc N' pins C fp s H) ifs tt) (he : ∀ pins C fp s H, PE (cxLC X sc N' pins C fp s H) elt te)
    (hs : ∀ x, foldedSetIterable iter X.env x = pure x := by intro _; rfl) (hsw : swapsWith (.ListComp elt [⟨tg, iter, ifs, 0⟩] sc pos) (some (.Name x0 pos')) pos0.line X.env = pure true := by rfl) (hf0 : X.fn x0 = true ∨ X.env.scope.names.lookup x0 = some .local := by first | exact .inl rfl | exact .inr rfl | assumption) :
    PS X (.Assign [.Name x0 pos'] (.ListComp elt [⟨tg, iter, ifs, 0⟩] sc pos) pos0) (tAsg (tLC ix wi g tt te) (gName i0)) := by
  intro pins s σ H Z I h
  rw [exec_Assign_Name_used x0 pos' _ pos0 hsw]
  refine wpAny_bind (wpAny_standAt (wpAny_bind ?_))
  rw [arm_evalThenUse_ListComp]
  have hclos : closureFor sc X.env = pure (closL X.env.cells sc.names []) := closureFor_eq fun y hy hk => I.ok.has y.1 (.inl (L.free y hy hk).1)
  show wpAny (model X.prog X.w) X.A (comprehension (.ListComp elt [⟨tg, iter, ifs, 0⟩] sc pos) sc X.env (firstIterPos [⟨tg, iter, ifs, 0⟩] pos) (newList []) (firstAsync [⟨tg, iter, ifs, 0⟩]) (firstIter [⟨tg, iter, ifs, 0⟩] X.env) (some (assign (.Name x0 pos') X.env)) >>= fun _ => pure ()) _ _ _
  refine wpAny_bind ?_
  refine wpAny_comprehension_free (use := some (assign (.Name x0 pos') X.env)) rfl hs hclos L.kind L.names (thn (hi pins s σ H _ I h) fun v s1 h1 => thn h1 fun itv s2 h2 => ?_)
  obtain ⟨it, fp, tn, J, H2, e, I2, T, st2, f2, W, ⟨m0, w0⟩, turn⟩ := h2
  subst e
  refine wpAny_newObj_type (wpAny_newFunctionEnv L.cell (by intro y hy; simp at hy) (fun h₁ hns₁ hsb₁ => ?_) L.kind)
  dsimp only at hns₁ hsb₁ ⊢
  generalize hH2 : s2.heap.push { cls := .type "list", dict := none, data := .seq ([] : List Value).toArray } = G2 at hns₁ hsb₁ ⊢
  have hC : G2.objs.size = s2.heap.objs.size + 1 := by rw [← hH2, Heap.size_push]
  have hDC : s2.heap.objs.size ≠ G2.objs.size := by rw [hC]; exact Nat.ne_of_lt (Nat.lt_succ_self _)
  have hCle : s2.heap.objs.size ≤ G2.objs.size := by rw [hC]; exact Nat.le_succ _
  have below : ∀ b, b < s2.heap.objs.size → b ≠ G2.objs.size ∧ b ≠ s2.heap.objs.size := fun b hb => ⟨by rw [hC]; exact Nat.ne_of_lt (Nat.lt_succ_of_lt hb), Nat.ne_of_lt hb⟩
  have old : ∀ b o, s2.heap.get? b = some o → h₁.get? b = some o := fun b o e => hsb₁.extBut b o (below b (Heap.lt_size e)).1 (Heap.get?_push_of_some _ (hH2 ▸ Heap.get?_push_of_some _ e))
  have hacc : h₁.get? s2.heap.objs.size = some { cls := .type "list", data := .seq ([] : List Value).toArray 0 } := hsb₁.extBut _ _ hDC (Heap.get?_push_of_some _ (hH2 ▸ Heap.get?_push_size _ rfl))
  have fl : ∀ b ∈ fp, b < s2.heap.objs.size := fun b hb => by
    obtain ⟨o, e, _⟩ := T.obj 0 _ st2 b hb
    exact Heap.lt_size e
  have hDfp : s2.heap.objs.size ∉ fp := fun z => Nat.lt_irrefl _ (fl _ z)
  generalize hD : s2.heap.objs.size = D at *
  generalize hCe : G2.objs.size = C at *
  have cof : ∀ x c, (closL X.env.cells sc.names []).lookup x = some c → X.env.cells.lookup x = some c := fun x c h => by
    rcases closL_of h with h | h
    · cases h
    · exact h.1
  have st1 : tn 0 h₁ := T.keep _ _ _ st2 fun b _ o e => old b o e
  have I3 : Inv (cxLC X sc N' pins C fp s2 H2) [] (pick ix σ) H2 { s2 with heap := h₁, toks := s2.toks + ([] : List (Str × Value)).length } := inv_lc I2 L f2 (fun b hb => by rw [hD]; exact fl b hb) (by rw [hD]; exact hCle) hns₁ old
  have D0 : H2 D = none := I2.hok.fresh (Nat.le_of_eq hD)
  -- what stays of the accumulator and the iterator's objects
  have fD : ∀ {H' : Hp}, H' D = none → FpOk (cxLC X sc N' pins C fp s2 H2) [] H' D := fun {H'} hn => by
    refine ⟨hn, hDC, fun z => ?_, .inr (Nat.le_of_eq hD), fun x c hx z => ?_, fun p hp z => ?_⟩
    · obtain ⟨_, o, ho, _⟩ := I2.stack.mem (show D ∈ frs X.stack from z)
      exact absurd (Heap.lt_size ho) (by rw [hD]; exact Nat.lt_irrefl _)
    · obtain ⟨v, q⟩ := I2.cell x c (cof x c hx)
      have := q.lt
      rw [z, hD] at this
      exact Nat.lt_irrefl _ this
    · have hp' : p ∈ X.pn ++ pins := by
        have : p ∈ (X.pn ++ pins) ++ [] := hp
        simpa using this
      have := Heap.lt_size (I2.pin p hp').1
      rw [z, hD] at this
      exact Nat.lt_irrefl _ this
  have fF : ∀ {H' : Hp}, (∀ b ∈ fp, H' b = none) → ∀ b ∈ fp, FpOk (cxLC X sc N' pins C fp s2 H2) [] H' b := fun {H'} hn b hb => by
    obtain ⟨_, g1, g2, g3, g4, g5⟩ := f2 b hb
    refine ⟨hn b hb, (below b (fl b hb)).1, fun z => ?_, .inl hb, fun x c hx => g4 x c (cof x c hx), fun p hp => g5 p ?_⟩
    · rcases List.mem_cons.mp (I2.stkSub b z) with e | e
      · exact g1 e
      · exact g2 e
    · have : p ∈ (X.pn ++ pins) ++ [] := hp
      simpa using this
  have loop : ∀ s₃ : Shared, s₃ = { s2 with heap := h₁, toks := s2.toks + ([] : List (Str × Value)).length } →
      codeAny (model X.prog X.w) X.A (.compLoop (.ListComp elt [⟨tg, iter, ifs, 0⟩] sc pos) 0 (.ref it) (.ref D) (compEnvC sc (closL X.env.cells sc.names []) C X.env))
        (compPost (model X.prog X.w) X.A X.xe (some (assign (.Name x0 pos') X.env)) (fun _ s' => wpAny (model X.prog X.w) X.A (pure ()) (fun _ s'' => wpAny (model X.prog X.w) X.A (pure Flow.next) (SP X pins Z) X.xe s'') X.xe s') (.ref D) C) s₃ := by
    rintro s₃ rfl
    refine compLoop_gen (fun n s' => ∃ i τ ys H', Inv (cxLC X sc N' pins C fp s2 H2) [] τ H' s' ∧ tn i s'.heap ∧ (∀ b ∈ fp, H' b = none) ∧ H' D = none ∧ (∃ its k, Vals ys its ∧ s'.heap.get? D = some { cls := .type "list", data := .seq its.toArray k }) ∧ W i n τ ys H')
      ?_ m0 ⟨0, _, [], H2, I3, st1, fun b hb => (f2 b hb).1, D0, ⟨[], 0, .nil, hacc⟩, w0⟩
    rintro n s4 ⟨i, τ, ys, H4, I4, st4, fr4, dn4, ⟨its, k, rv, dg⟩, w4⟩
    obtain ⟨hlen, step⟩ := turn i n τ ys H4 w4
    rcases step with ⟨stop, fin⟩ | ⟨go, step⟩
    · refine thn (T.done (cxLC X sc N' pins C fp s2 H2) rfl rfl rfl hc i [(D, ({ cls := .type "list", data := .seq its.toArray k } : Obj))] s4 τ H4 (fun _ _ => False) (I4.pins_of fun p hp => ?_) (fun b hb => ?_) st4 stop) fun r s5 ⟨hr, I5⟩ => ?_
      · have e : p = (D, { cls := .type "list", data := .seq its.toArray k }) := by simpa using hp
        subst e
        obtain ⟨g0, g1, g2, _⟩ := fD dn4
        exact ⟨dg, g0, g1, g2, fun v z => (nomatch z)⟩
      · obtain ⟨g0, g1, g2, g3, g4, g5⟩ := fF fr4 b hb
        refine ⟨g0, g1, g2, g3, g4, fun p hp => ?_⟩
        rcases List.mem_append.mp hp with z | z
        · exact g5 p (List.mem_append_left _ z)
        · have e : p = (D, { cls := .type "list", data := .seq its.toArray k }) := by simpa using z
          subst e
          exact fun q => hDfp (by have q' : D = b := q; rw [q']; exact hb)
      · subst hr
        have dg5 := (I5.pin (D, _) (List.mem_append_right _ (List.mem_singleton.mpr rfl))).1
        obtain ⟨m5, hn5, _⟩ := id I5.loc
        have hlt : ∀ b o, s2.heap.get? b = some o → b ≠ C ∧ b ≠ D := fun b o e => by
          have := Heap.lt_size e
          rw [hD] at this
          exact below b this
        have U := I5.base
        have IX : Inv X pins σ (upd H4 D (.lst ys)) s5 := by
          refine I2.call' (s' := s5) (ch := fp) I5.os ⟨fun b o e n hb hx => U.keep b o e n hb hx, fun b o e n hb hx => U.slot b o e n hb hx, fun b o e n hx => ?_, fun b o e hx => U.there b o e hx, fun b xs e => ?_, fun b o u e => ?_, fun b ps e => ?_⟩ ?_ I5.bare (fun b hb => ?_)
          · rw [upd_ne (hlt b o e).2]
            exact U.free b o e n hx
          · have q := U.tups b xs e
            rw [upd_ne (ne_of_none q dn4)]
            exact q
          · have q := U.frzs b o u e
            rw [upd_ne (ne_of_none q dn4)]
            exact q
          · obtain ⟨more, q⟩ := U.tbls b ps e
            exact ⟨more, by rw [upd_ne (ne_of_none q dn4)]; exact q⟩
          · exact I5.hok.add dn4 ⟨Nat.le_of_lt hlen, its, k, rv, dg5⟩
          · obtain ⟨_, g1, g2, g3, g4, g5⟩ := f2 b hb
            exact ⟨g3, g1, g4, g5⟩
        obtain ⟨oC, esC, epC, gC, rC⟩ := id hn5
        have dataC : ∀ v, oC.data ≠ .cell v := fun v z => by rw [rC.1] at z; cases z
        have CneD : C ≠ D := Ne.symm hDC
        have HC : upd H4 D (.lst ys) C = none := by rw [upd_ne CneD]; exact I5.free
        have CneL : C ≠ X.env.locals := fun z => by
          have := I2.lt
          rw [← z, hD] at this
          exact absurd (Nat.lt_of_lt_of_le this hCle) (Nat.lt_irrefl _)
        have Cfs : C ∉ X.fs := I2.nofs (by rw [hD]; exact hCle)
        have IXp := IX.pins_of (pins' := pins ++ [(C, oC)]) fun p hp => by
          rcases List.mem_append.mp hp with z | z
          · exact IX.pin p (List.mem_append_right _ z)
          · rw [List.mem_singleton.mp z]
            exact ⟨gC, HC, CneL, Cfs, dataC⟩
        refine thn (pg_name hN0 hi0 hx0 hf0 (pins ++ [(C, oC)]) s5 σ (upd H4 D (.lst ys)) (.ref D) (.ref D) Z.nx IXp rfl (fin D dn4)) fun _ s6 ⟨σ6, H6, I6, q6⟩ => ?_
        obtain ⟨p6, p6n, _⟩ := I6.pin (C, oC) (List.mem_append_right _ (List.mem_append_right _ (List.mem_singleton.mpr rfl)))
        refine ⟨m5, ⟨oC, esC, epC, p6, rC⟩, fun h' hsb => wpAny_pure (wpAny_pure ?_)⟩
        have I7 : Inv X pins σ6 H6 s6 := I6.pins_of fun p hp => I6.pin p (List.mem_append_right _ (List.mem_append_left _ hp))
        refine ⟨σ6, H6, I7.turned (t' := s6.toks) (it := C) (fun b o hb e => (hsb.2 b hb).trans e) p6n CneL (.inr (Nat.le_trans I2.sz (by rw [hD]; exact hCle))) (fun x c hx z => ?_) (fun p hp z => ?_), q6⟩
        · obtain ⟨v, q⟩ := I2.cell x c hx
          have := q.lt
          rw [z, hD] at this
          exact absurd (Nat.lt_of_lt_of_le this hCle) (Nat.lt_irrefl _)
        · have := Heap.lt_size (I2.pin p hp).1
          rw [z, hD] at this
          exact absurd (Nat.lt_of_lt_of_le this hCle) (Nat.lt_irrefl _)
    · refine thn (T.item (cxLC X sc N' pins C fp s2 H2) rfl rfl rfl hc i [(D, ({ cls := .type "list", data := .seq its.toArray k } : Obj))] s4 τ H4 (fun _ _ => False) (I4.pins_of fun p hp => ?_) (fun b hb => ?_) st4 go) fun r s5 ⟨u, hr, h5⟩ => ?_
      · have e : p = (D, { cls := .type "list", data := .seq its.toArray k }) := by simpa using hp
        subst e
        obtain ⟨g0, g1, g2, _⟩ := fD dn4
        exact ⟨dg, g0, g1, g2, fun v z => (nomatch z)⟩
      · obtain ⟨g0, g1, g2, g3, g4, g5⟩ := fF fr4 b hb
        refine ⟨g0, g1, g2, g3, g4, fun p hp => ?_⟩
        rcases List.mem_append.mp hp with z | z
        · exact g5 p (List.mem_append_left _ z)
        · have e : p = (D, { cls := .type "list", data := .seq its.toArray k }) := by simpa using z
          subst e
          exact fun q => hDfp (by have q' : D = b := q; rw [q']; exact hb)
      · subst hr
        refine thn h5 fun _ s6 ⟨x, H6, I6, r6, y6, st6, fr6⟩ => ?_
        obtain ⟨dg6, dn6, _⟩ := I6.pin (D, _) (List.mem_append_right _ (List.mem_singleton.mpr rfl))
        have dn6' : H6 D = none := dn6
        have all6 : ∀ b ∈ D :: fp, FpOk (cxLC X sc N' pins C fp s2 H2) [] H6 b := fun b hb => by
          rcases List.mem_cons.mp hb with z | z
          · subst z; exact fD dn6'
          · exact fF fr6 b z
        have obj6 : ∀ b ∈ D :: fp, ∃ o, s6.heap.get? b = some o ∧ ∀ v, o.data ≠ .cell v := fun b hb => by
          rcases List.mem_cons.mp hb with z | z
          · subst z; exact ⟨_, dg6, fun v q => (nomatch q)⟩
          · exact T.obj _ _ st6 b z
        have I6' := (I6.unpinned (pins := [])).pinned all6 obj6
        refine thn (hg pins C fp s2 H2 _ s6 τ H6 x u _ I6' r6 (step x H6 y6)) fun _ s7 ⟨τ7, H7, I7, q7⟩ => ?_
        refine thn (ht pins C fp s2 H2 _ s7 τ7 H7 _ I7 q7) fun ok s8 ⟨H8, I8, q8⟩ => ?_
        have back : ∀ {s9 : Shared} {H9 : Hp}, Inv (cxLC X sc N' pins C fp s2 H2) ([] ++ pinsAt (D :: fp) s6.heap) τ7 H9 s9 → s9.heap.get? D = some { cls := .type "list", data := .seq its.toArray k } ∧ H9 D = none ∧ tn (i + 1) s9.heap ∧ ∀ b ∈ fp, H9 b = none := fun {s9 H9} I9 => by
          have pin : ∀ b o, b ∈ D :: fp → s6.heap.get? b = some o → s9.heap.get? b = some o ∧ H9 b = none := fun b o hb e => by
            have q := I9.pin (b, o) (List.mem_append_right _ (List.mem_append_right _ (mem_pinsAt hb e)))
            exact ⟨q.1, q.2.1⟩
          refine ⟨(pin D _ List.mem_cons_self dg6).1, (pin D _ List.mem_cons_self dg6).2, T.keep _ _ _ st6 fun b hb o e => (pin b o (List.mem_cons_of_mem _ hb) e).1, fun b hb => ?_⟩
          obtain ⟨o, e, _⟩ := T.obj _ _ st6 b hb
          exact (pin b o (List.mem_cons_of_mem _ hb) e).2
        cases ok with
        | false =>
          obtain ⟨b1, b2, b3, b4⟩ := back I8
          simp only [Bool.false_eq_true, if_false] at q8 ⊢
          obtain ⟨m', hm, w'⟩ := q8
          exact ⟨m', hm, i + 1, τ7, ys, H8, I8.unpinned, b3, b4, b2, ⟨its, k, rv, b1⟩, w'⟩
        | true =>
          simp only [if_true] at q8 ⊢
          refine thn (he pins C fp s2 H2 _ s8 τ7 H8 _ I8 q8) fun y s9 ⟨yv, H9, I9, r9, m', hm, w'⟩ => ?_
          obtain ⟨b1, b2, b3, b4⟩ := back I9
          have el : its.toArray.size ≤ sizeLine := by
            have := rv.length
            simp only [List.size_toArray]
            omega
          refine append_at (hsz := el) b1 fun h10 sb hD10 => ?_
          obtain ⟨_, g1, _, g3, g4, g5⟩ := fD b2
          refine ⟨m', hm, i + 1, τ7, ys ++ [yv], H9, (I9.unpinned (pins := [])).turned (t' := s9.toks) (fun b o hb e => (sb.2 b hb).trans e) b2 g1 g3 g4 g5, T.keep _ _ _ b3 fun b hb o e => (sb.2 b fun q => hDfp (by rw [← q]; exact hb)).trans e, b4, b2, ⟨its ++ [y], k + 1, rv.append (.cons r9 .nil), ?_⟩, w'⟩
          show h10.get? D = _
          rw [hD10]
          simp
  exact codeAny_compStart_list (loop _ rfl) (T.self _ 0 _ _ _ st1 (loop _ rfl))
theorem w_ps_setLC {c : Bool} {X : Cx} {elt tg iter : Expr} {ifs : List Expr} {sc : Scope} {pos pos' pos0 : Pos} {N' : List Str} {ix : List (Option Nat)} {wi : TI} {g : TG} {tt : TT} {te : TE} {i0 : Nat} {x0 : Str} (hN0 : X.N.Nodup) (hi0 : X.N[i0]? = some x0) (hx0 : Loc X.env.scope x0) (hc : c = true → X.calm = true) (L : LcOk X sc N' ix) (hi : W (PIc c X tg iter wi))
    (hg : ∀ pins C fp s H, W (PG (cxLC X sc N' pins C fp s H) tg g)) (ht : ∀ pins C fp s H, W (PTs (cxLC X sc N' pins C fp s H) ifs tt)) (he : ∀ pins C fp s H, W (PE (cxLC X sc N' pins C fp s H) elt te))
    (hs : ∀ x, foldedSetIterable iter X.env x = pure x := by intro _; rfl) (hsw : swapsWith (.ListComp elt [⟨tg, iter, ifs, 0⟩] sc pos) (some (.Name x0 pos')) pos0.line X.env = pure true := by rfl) (hf0 : X.fn x0 = true ∨ X.env.scope.names.lookup x0 = some .local := by first | exact .inl rfl | exact .inr rfl | assumption) :
    W (PS X (.Assign [.Name x0 pos'] (.ListComp elt [⟨tg, iter, ifs, 0⟩] sc pos) pos0) (tAsg (tLC ix wi g tt te) (gName i0))) :=
  ⟨ps_setLC hN0 hi0 hx0 hc L hi.h (fun a b c d e => (hg a b c d e).h) (fun a b c d e => (ht a b c d e).h) (fun a b c d e => (he a b c d e).h) hs hsw hf0⟩
end L2
set_option Elab.async false
set_option linter.all false
set_option maxRecDepth 100000
set_option maxHeartbeats 4000000
namespace K13
open PySem PySem.Spec PyProof.Rows L2
local macro_rules | `(tactic| simp_all only [$ls,*]) => `(tactic| simp only [tVar, tC, tAnd, tOr, tNot, tIf, tNext, tSeq, tBreak, tCont, tDrop, tRet, tRetN, tIfS, gName, gNil_n, gCons_c, tAsg, tAug, ipI, tOp, tUn, tNil, tCons, tTupA, tLstA, tDNewA, tCall, tMakeA, tCallX, tMakeXA, tCB, tRaise, uAdd_ii, uAdd_ss, uAdd_rr, uMul_ii, uMul_ri, uIx_r, uIx_s, uLen_r, uLen_s, rI_ii, rI0_ii, rU_i, uEq_ii, uEq_ss, uEq_bb, uEq_rr, uInt_i, uInt_b, uStr_i, uMax_ii, uMin_ii, uTru_b, uTru_n, uTru_i, tTru_eq, uB_b, tB_eq, tTest_eq, tAndV_eq, tOrV_eq, tNotV_eq, tChain_eq, uR_r, uFld_eq, uSetF_eq, tMeth_eq, tMethX_eq, uApp, tFor_eq, uI1_i, iRng1_eq, iList_eq, iTup_eq, uR2_r, iZip_eq, tLC_eq, CompN_t, CompN_f, pick, Option.bind_some, Option.bind_none, Option.join_some, tAll, and_assoc, exists_and_left, exists_and_right, exists_eq_left', exists_eq_left, exists_eq, exists_eq', exists_eq_right, exists_eq_right', and_true, true_and, and_false, false_and, or_false, false_or, exists_false, exists_const, Option.some.injEq, V.int.injEq, V.str.injEq, V.ref.injEq, V.bl.injEq, V.ty.injEq, HO.lst.injEq, HO.tup.injEq, HO.ins.injEq, List.cons.injEq, reduceCtorEq, reduceIte, Bool.false_eq_true, List.getElem?_cons_zero, List.getElem?_cons_succ, List.set_cons_zero, List.set_cons_succ, List.nil_append, List.cons_append, List.append_nil, List.length_cons, List.length_nil, L2.start, List.map_cons, List.map_nil, List.replicate, Nat.reduceSub, Nat.reduceAdd, Bool.not_true, Bool.not_false, uAugF, rAdd_ii, rSub_ii, uIsN_n, uIsN_i, uMulS_ii, uMulS_ri, uMulS_si, uSl_s, uSl_r, tSl, tNoPart, tPart_eq, uPart_i, rSetL_r, gSub, uListOf_r, uClear, uJoinE, uS_s, rJoin_sr, uRev, iEnum_eq, uR1_r, iRng2_eq, uI2_i, iStr_eq, iEnumS_eq, iRng3_eq, uI3_i, iZipT_eq, uEqT_ii, uEqT_ss, uEqT_bb, uEqT_rr, uIs_b, uIs_n, uIn_ss, uIn_r, uM1_eq, rRfind_s, rSplit_s, uFmt_eq, rFmt_s, rFmt_i, jNil, jCons, tJoined_eq, uIntT_i, uIntT_b, uIntT_s, uStrT_i, uStrT_s, uTupOf_r, uOrd_s, uAll_r, tGetK_eq, iSeq_eq, uIsN_r, uIsN_s, uNeT_rr, rFind_s, uStrB_i, uStrB_s, uStrB_b, $ls,*])
def top (i : Nat) : Stmt := PySem.Challenge.pw_cleanrows_k13_no_rows.main.body.getD i (.Pass ⟨0, 0, 0, 0⟩)
structure ClsA where
  CleanError : Addr
  NoRow : Addr
  NoDisk : Addr
  Full : Addr
  Stopped : Addr
  NoFile : Addr
  NoPlace : Addr
  HeldAlready : Addr
  NotHeld : Addr
  NoFiles : Addr
  NoMark : Addr
  NoRoom : Addr
  Gone : Addr
  NotClosed : Addr
  NotBlank : Addr
  NoDeed : Addr
  NoHouse : Addr
  PARTS : Addr
  PARTS_put : Addr
  PARTS_cut : Addr
  PARTS_hold : Addr
  PARTS_free : Addr
  PARTS_carry : Addr
structure Txt (w : World) (K : PySem.W.Frag) (mg : Str → Option Value) (A : ClsA) : Prop where
  mg_PARTS : mg "PARTS" = some (.ref A.PARTS)
  d_PARTS : DicK w K A.PARTS [("put", A.PARTS_put), ("cut", A.PARTS_cut), ("hold", A.PARTS_hold), ("free", A.PARTS_free), ("carry", A.PARTS_carry)]
  t_PARTS_put : ∀ H : Hp, SqT K H A.PARTS_put [.str "number", .str "number", .str "end", .str "name", .str "number", .str "word"]
  t_PARTS_cut : ∀ H : Hp, SqT K H A.PARTS_cut [.str "number", .str "name", .str "number"]
  t_PARTS_hold : ∀ H : Hp, SqT K H A.PARTS_hold [.str "number", .str "name"]
  t_PARTS_free : ∀ H : Hp, SqT K H A.PARTS_free [.str "number", .str "name"]
  t_PARTS_carry : ∀ H : Hp, SqT K H A.PARTS_carry [.str "number", .str "number", .str "word"]
  n_ValueError : mg "ValueError" = none
  n_all : mg "all" = none
  n_enumerate : mg "enumerate" = none
  n_int : mg "int" = none
  n_isinstance : mg "isinstance" = none
  n_len : mg "len" = none
  n_max : mg "max" = none
  n_min : mg "min" = none
  n_ord : mg "ord" = none
  n_range : mg "range" = none
  n_repr : mg "repr" = none
  n_str : mg "str" = none
  n_tuple : mg "tuple" = none
  n_zip : mg "zip" = none
  c_FIGURES : ∃ u, mg "FIGURES" = some u ∧ RelV (.str "0123456789") u
  c_LETTERS : ∃ u, mg "LETTERS" = some u ∧ RelV (.str "abcdefghijklmnopqrstuvwxyz") u
  c_MOST_FIGURES : ∃ u, mg "MOST_FIGURES" = some u ∧ RelV (.int 18) u
  c_MOST_LETTERS : ∃ u, mg "MOST_LETTERS" = some u ∧ RelV (.int 6) u
  c_MOST_SIGNS : ∃ u, mg "MOST_SIGNS" = some u ∧ RelV (.int 20) u
  c_MODULUS : ∃ u, mg "MODULUS" = some u ∧ RelV (.int 65521) u
  mg_CleanError : mg "CleanError" = some (.ref A.CleanError)
  mg_NoRow : mg "NoRow" = some (.ref A.NoRow)
  mg_NoDisk : mg "NoDisk" = some (.ref A.NoDisk)
  mg_Full : mg "Full" = some (.ref A.Full)
  mg_Stopped : mg "Stopped" = some (.ref A.Stopped)
  mg_NoFile : mg "NoFile" = some (.ref A.NoFile)
  mg_NoPlace : mg "NoPlace" = some (.ref A.NoPlace)
  mg_HeldAlready : mg "HeldAlready" = some (.ref A.HeldAlready)
  mg_NotHeld : mg "NotHeld" = some (.ref A.NotHeld)
  mg_NoFiles : mg "NoFiles" = some (.ref A.NoFiles)
  mg_NoMark : mg "NoMark" = some (.ref A.NoMark)
  mg_NoRoom : mg "NoRoom" = some (.ref A.NoRoom)
  mg_Gone : mg "Gone" = some (.ref A.Gone)
  mg_NotClosed : mg "NotClosed" = some (.ref A.NotClosed)
  mg_NotBlank : mg "NotBlank" = some (.ref A.NotBlank)
  mg_NoDeed : mg "NoDeed" = some (.ref A.NoDeed)
  mg_NoHouse : mg "NoHouse" = some (.ref A.NoHouse)
  ek_CleanError : ErrK K A.CleanError
  ek_NoRow : ErrK K A.NoRow
  ec_NoRow : ErrC K A.NoRow
  mro_NoRow : PySem.W.mroIn K A.NoRow (.ref A.CleanError) = some true
  k_NoRow_ValueError : PySem.W.kitOne K (.ref A.NoRow) (.type "ValueError") = some true
  k_NoRow_NoRow : PySem.W.kitOne K (.ref A.NoRow) (.ref A.NoRow) = some true
  k_NoRow_NoDisk : PySem.W.kitOne K (.ref A.NoRow) (.ref A.NoDisk) = some false
  k_NoRow_Full : PySem.W.kitOne K (.ref A.NoRow) (.ref A.Full) = some false
  k_NoRow_Stopped : PySem.W.kitOne K (.ref A.NoRow) (.ref A.Stopped) = some false
  k_NoRow_NoFile : PySem.W.kitOne K (.ref A.NoRow) (.ref A.NoFile) = some false
  k_NoRow_NoPlace : PySem.W.kitOne K (.ref A.NoRow) (.ref A.NoPlace) = some false
  k_NoRow_HeldAlready : PySem.W.kitOne K (.ref A.NoRow) (.ref A.HeldAlready) = some false
  k_NoRow_NotHeld : PySem.W.kitOne K (.ref A.NoRow) (.ref A.NotHeld) = some false
  k_NoRow_NoFiles : PySem.W.kitOne K (.ref A.NoRow) (.ref A.NoFiles) = some false
  k_NoRow_NoMark : PySem.W.kitOne K (.ref A.NoRow) (.ref A.NoMark) = some false
  k_NoRow_NoRoom : PySem.W.kitOne K (.ref A.NoRow) (.ref A.NoRoom) = some false
  k_NoRow_Gone : PySem.W.kitOne K (.ref A.NoRow) (.ref A.Gone) = some false
  k_NoRow_NotClosed : PySem.W.kitOne K (.ref A.NoRow) (.ref A.NotClosed) = some false
  k_NoRow_NotBlank : PySem.W.kitOne K (.ref A.NoRow) (.ref A.NotBlank) = some false
  k_NoRow_NoDeed : PySem.W.kitOne K (.ref A.NoRow) (.ref A.NoDeed) = some false
  k_NoRow_NoHouse : PySem.W.kitOne K (.ref A.NoRow) (.ref A.NoHouse) = some false
theorem Txt.c_NoRow {w : World} {K : PySem.W.Frag} {mg : Str → Option Value} {A : ClsA} (T : Txt w K mg A) : ∃ u, mg "NoRow" = some u ∧ RelV (.ref A.NoRow) u := ⟨_, T.mg_NoRow, rfl⟩
theorem Txt.c_NoDisk {w : World} {K : PySem.W.Frag} {mg : Str → Option Value} {A : ClsA} (T : Txt w K mg A) : ∃ u, mg "NoDisk" = some u ∧ RelV (.ref A.NoDisk) u := ⟨_, T.mg_NoDisk, rfl⟩
theorem Txt.c_Full {w : World} {K : PySem.W.Frag} {mg : Str → Option Value} {A : ClsA} (T : Txt w K mg A) : ∃ u, mg "Full" = some u ∧ RelV (.ref A.Full) u := ⟨_, T.mg_Full, rfl⟩
theorem Txt.c_Stopped {w : World} {K : PySem.W.Frag} {mg : Str → Option Value} {A : ClsA} (T : Txt w K mg A) : ∃ u, mg "Stopped" = some u ∧ RelV (.ref A.Stopped) u := ⟨_, T.mg_Stopped, rfl⟩
theorem Txt.c_NoFile {w : World} {K : PySem.W.Frag} {mg : Str → Option Value} {A : ClsA} (T : Txt w K mg A) : ∃ u, mg "NoFile" = some u ∧ RelV (.ref A.NoFile) u := ⟨_, T.mg_NoFile, rfl⟩
theorem Txt.c_NoPlace {w : World} {K : PySem.W.Frag} {mg : Str → Option Value} {A : ClsA} (T : Txt w K mg A) : ∃ u, mg "NoPlace" = some u ∧ RelV (.ref A.NoPlace) u := ⟨_, T.mg_NoPlace, rfl⟩
theorem Txt.c_HeldAlready {w : World} {K : PySem.W.Frag} {mg : Str → Option Value} {A : ClsA} (T : Txt w K mg A) : ∃ u, mg "HeldAlready" = some u ∧ RelV (.ref A.HeldAlready) u := ⟨_, T.mg_HeldAlready, rfl⟩
theorem Txt.c_NotHeld {w : World} {K : PySem.W.Frag} {mg : Str → Option Value} {A : ClsA} (T : Txt w K mg A) : ∃ u, mg "NotHeld" = some u ∧ RelV (.ref A.NotHeld) u := ⟨_, T.mg_NotHeld, rfl⟩
theorem Txt.c_NoFiles {w : World} {K : PySem.W.Frag} {mg : Str → Option Value} {A : ClsA} (T : Txt w K mg A) : ∃ u, mg "NoFiles" = some u ∧ RelV (.ref A.NoFiles) u := ⟨_, T.mg_NoFiles, rfl⟩
theorem Txt.c_NoMark {w : World} {K : PySem.W.Frag} {mg : Str → Option Value} {A : ClsA} (T : Txt w K mg A) : ∃ u, mg "NoMark" = some u ∧ RelV (.ref A.NoMark) u := ⟨_, T.mg_NoMark, rfl⟩
theorem Txt.c_NoRoom {w : World} {K : PySem.W.Frag} {mg : Str → Option Value} {A : ClsA} (T : Txt w K mg A) : ∃ u, mg "NoRoom" = some u ∧ RelV (.ref A.NoRoom) u := ⟨_, T.mg_NoRoom, rfl⟩
theorem Txt.c_Gone {w : World} {K : PySem.W.Frag} {mg : Str → Option Value} {A : ClsA} (T : Txt w K mg A) : ∃ u, mg "Gone" = some u ∧ RelV (.ref A.Gone) u := ⟨_, T.mg_Gone, rfl⟩
theorem Txt.c_NotClosed {w : World} {K : PySem.W.Frag} {mg : Str → Option Value} {A : ClsA} (T : Txt w K mg A) : ∃ u, mg "NotClosed" = some u ∧ RelV (.ref A.NotClosed) u := ⟨_, T.mg_NotClosed, rfl⟩
theorem Txt.c_NotBlank {w : World} {K : PySem.W.Frag} {mg : Str → Option Value} {A : ClsA} (T : Txt w K mg A) : ∃ u, mg "NotBlank" = some u ∧ RelV (.ref A.NotBlank) u := ⟨_, T.mg_NotBlank, rfl⟩
theorem Txt.c_NoDeed {w : World} {K : PySem.W.Frag} {mg : Str → Option Value} {A : ClsA} (T : Txt w K mg A) : ∃ u, mg "NoDeed" = some u ∧ RelV (.ref A.NoDeed) u := ⟨_, T.mg_NoDeed, rfl⟩
theorem Txt.c_NoHouse {w : World} {K : PySem.W.Frag} {mg : Str → Option Value} {A : ClsA} (T : Txt w K mg A) : ∃ u, mg "NoHouse" = some u ∧ RelV (.ref A.NoHouse) u := ⟨_, T.mg_NoHouse, rfl⟩
/-! ### what is asked of texts -/
def sumN : Nat → List Nat → Nat
  | _, [] => 0
  | k, c :: l => c * k + sumN (k + 1) l
def sumS (z : Str) : Int := ((sumN 1 (sg z) % 65521 : Nat) : Int)
def summedS (z : Str) : Str := z ++ (toString (sumS z) : Str) ++ ";"
def madeS (z y : Str) (m : Int) : Bool := decide (1 ≤ (z.length : Int)) && decide ((z.length : Int) ≤ m) && (sg z).all fun c => (sg y).contains c
def FIG : Str := "0123456789"
def LET : Str := "abcdefghijklmnopqrstuvwxyz"
def numS (z : Str) : Bool := madeS z FIG 18 && (decide (z = "0") || !decide (tx ((sg z).take 1) = "0"))
def nameS (z : Str) : Bool := madeS z LET 6
def wordS (z : Str) : Bool := madeS z (LET ++ FIG) 20
def readP (k z : Str) : Option V :=
  if k = "number" ∧ numS z = true then some (.int ((PySem.intText? z).getD 0))
  else if k = "end" ∧ (z = "0" ∨ z = "1") then some (.bl (decide (z = "1")))
  else if k = "name" ∧ nameS z = true then some (.str z)
  else if k = "word" ∧ wordS z = true then some (.str z)
  else none
def kindsS (z : Str) : Option (List Str) :=
  if z = "put" then some ["number", "number", "end", "name", "number", "word"]
  else if z = "cut" then some ["number", "name", "number"]
  else if z = "hold" then some ["number", "name"]
  else if z = "free" then some ["number", "name"]
  else if z = "carry" then some ["number", "number", "word"]
  else none
def readPs : List Str → List Str → Option (List V)
  | k :: ks, z :: zs => (readP k z).bind fun v => (readPs ks zs).map (v :: ·)
  | _, _ => some []
def rowS (ws : List Str) : Option (List V) := match ws with
  | [] => none
  | w :: zs => (kindsS w).bind fun ks => if zs.length = ks.length then (readPs ks zs).map (.str w :: ·) else none
def bodyAt (z : Str) : Str := PySem.Txt.slice z none (some (PySem.Txt.rfind z (c1 32) + 1))
def bodyS (z : Str) : Option Str := if z = summedS (bodyAt z) then some (bodyAt z) else none
def readS (z : Str) : Option (List V) := (bodyS z).bind fun b => rowS (PySem.Txt.split (PySem.Txt.slice b none (some (-1))) (c1 32))
def partT : V → Str
  | .bl b => if b then "1" else "0"
  | .int i => toString i
  | .str z => z
  | _ => ""
inductive Part : V → Prop
  | bl (b : Bool) : Part (.bl b)
  | int (i : Int) : 0 ≤ i → i < 10 ^ 18 → Part (.int i)
  | str (z : Str) : asc z = true → z.length ≤ 100 → Part (.str z)
def aheadL (xs : List V) : List Nat := (xs.map fun v => sg (partT v) ++ [32]).flatten
def rowT (xs : List V) : Str := summedS (tx (aheadL xs))
/-! ### promises -/
def spMade : Sp := fun vs H Q _ => ∃ z y m, vs = [.str z, .str y, .int m] ∧ asc z = true ∧ z.length ≤ 100000 ∧ ∀ H', Same H H' → Q (.bl (madeS z y m)) H'
def spTest (p : Str → Bool) : Sp := fun vs H Q _ => ∃ z, vs = [.str z] ∧ asc z = true ∧ z.length ≤ 100000 ∧ ∀ H', Same H H' → Q (.bl (p z)) H'
def spSum : Sp := fun vs H Q _ => ∃ z, vs = [.str z] ∧ asc z = true ∧ z.length ≤ 100000 ∧ ∀ H', Same H H' → Q (.int (sumS z)) H'
def spSummed : Sp := fun vs H Q _ => ∃ z, vs = [.str z] ∧ asc z = true ∧ z.length ≤ 100000 ∧ ∀ H', Same H H' → Q (.str (summedS z)) H'
def optV (o : Option Str) : V := match o with | some b => .str b | none => .non
inductive Thing (H : Hp) : V → Prop
  | non : Thing H .non
  | bl (b : Bool) : Thing H (.bl b)
  | int (i : Int) : Thing H (.int i)
  | lst {a : Addr} {xs : List V} : H a = some (.lst xs) → Thing H (.ref a)
  | tup {a : Addr} {xs : List V} : H a = some (.tup xs) → Thing H (.ref a)
  | dic {a : Addr} {kvs : List (Key × V)} : H a = some (.dK kvs) → Thing H (.ref a)
theorem Thing.same {H H' : Hp} {v : V} (t : Thing H v) (s : Same H H') : Thing H' v := by
  cases t with
  | non => exact .non
  | bl b => exact .bl b
  | int i => exact .int i
  | lst h => exact .lst (s _ _ h)
  | tup h => exact .tup (s _ _ h)
  | dic h => exact .dic (s _ _ h)
theorem isi_str {X : Cx} {H : Hp} {v : V} {Q : VK} (t : Thing H v) (q : Q (.bl false) H) : rIsi X.K [v, .ty "str"] H Q := by
  cases t with
  | non => exact ⟨_, _, _, _, _, rfl, rfl, .of .non, rfl, q⟩
  | bl b => exact ⟨_, _, _, _, _, rfl, rfl, .of (.bl b), rfl, q⟩
  | int i => exact ⟨_, _, _, _, _, rfl, rfl, .of (.int i), rfl, q⟩
  | lst h => exact ⟨_, _, _, _, _, rfl, rfl, .of (.lst h), rfl, q⟩
  | tup h => exact ⟨_, _, _, _, _, rfl, rfl, .of (.tup h), rfl, q⟩
  | dic h => exact ⟨_, _, _, _, _, rfl, rfl, .of (.dK h), rfl, q⟩
def spBody : Sp := fun vs H Q _ => (∃ z, vs = [.str z] ∧ asc z = true ∧ z.length ≤ 100000 ∧ ∀ H', Same H H' → Q (optV (bodyS z)) H') ∨ ∃ v, vs = [v] ∧ Thing H v ∧ Q .non H
def spReadP (A : ClsA) : Sp := fun vs H Q E => ∃ k z, vs = [.str k, .str z] ∧ asc z = true ∧ z.length ≤ 100000 ∧ ∀ H', Same H H' → (∀ v, readP k z = some v → Q v H') ∧ (readP k z = none → E (.ref A.NoRow) none H')
def spRowOf (A : ClsA) : Sp := fun vs H Q E => ∃ a ws, vs = [.ref a] ∧ H a = some (.lst (ws.map V.str)) ∧ ws ≠ [] ∧ ws.length ≤ 100001 ∧ (∀ z ∈ ws, asc z = true ∧ z.length ≤ 100000) ∧
  (∀ xs, rowS ws = some xs → ∀ p H', Same H H' → H' p = some (.tup xs) → Q (.ref p) H') ∧ (rowS ws = none → ∀ H', Same H H' → E (.ref A.NoRow) none H')
def spReadR (A : ClsA) : Sp := fun vs H Q E => (∃ v, vs = [v] ∧ Thing H v ∧ E (.ref A.NoRow) none H) ∨ ∃ z, vs = [.str z] ∧ asc z = true ∧ z.length ≤ 100000 ∧
  (∀ xs, readS z = some xs → ∀ p H', Same H H' → H' p = some (.tup xs) → Q (.ref p) H') ∧ (readS z = none → ∀ H', Same H H' → E (.ref A.NoRow) none H')
theorem big5 {n : Nat} (h : n ≤ 1000000) : n ≤ sizeLine := Nat.le_trans h (by decide)
theorem big5' {n : Nat} (h : n ≤ 1000000) : n < sizeLine := Nat.lt_of_le_of_lt h (by decide)
abbrev s_is_made_of : Stmt := top 24
abbrev s_is_number_text : Stmt := top 25
abbrev s_is_name : Stmt := top 26
abbrev s_is_word : Stmt := top 27
section
variable {P : Program} {w : World} {K : PySem.W.Frag} {mg : Str → Option Value} {base : Heap} {A : ClsA}
structure MadeInv (H : Hp) (z y : Str) (i : Nat) (τ : L2.St) (ys : List V) (H' : Hp) : Prop where
  ex : ∃ t, τ = [t, some (V.str y)]
  ys : ys = (((sg z).take i).map fun c => (sg y).contains c).map V.bl
  same : H' = H
theorem sc_is_made_of : FnScope ["text", "signs", "most"] ["text", "signs", "most"] (defScope s_is_made_of) := ⟨rfl, rfl, rfl, by decide +kernel, rfl, by decide +kernel, by decide +kernel⟩
theorem lc_is_made_of_0 : lcStat { kind := .function, names := [(Str.ofString ".0", .local), (Str.ofString "sign", .local), (Str.ofString "signs", .free)], isGenerator := false, isCoroutine := false, more := [] } (defScope s_is_made_of).names ["text", "signs", "most"] ["sign", "signs"] [none, some 1] = true := by decide +kernel
theorem lcn_is_made_of_0 : (["sign", "signs"] : List Str).Nodup := by decide +kernel
theorem ok_is_made_of {f : Addr} {fd : FuncData} (F : Fun K "is_made_of" "is_made_of" s_is_made_of f fd) (T : Txt w K mg A) : FnOk P w K mg base CX0 true 1 f fd ["text", "signs", "most"] spMade := by
  refine F.ok sc_is_made_of (fun vs H Q E h => ?_) (fun cdv Ar outer s H vs Q E hr h => ?_)
  · obtain ⟨z, y, m, rfl, _⟩ := h; rfl
  · obtain ⟨z, y, m, rfl, ha, hz, q⟩ := h
    have hu : _ < cLine := Nat.lt_of_succ_lt (hu_of hr)
    refine ⟨_, (W.h (w_pss_one (w_ps_ret (w_pe_and (w_pe_chain op_le op_le w_pe_int (w_pe_callBp call_lenU rfl T.n_len PySem.boot_len (w_pa_p (w_pv 0) w_pa_nil)) (w_pv 2)) (w_pe_one (w_pe_callBp (call_allU rfl) rfl T.n_all boot_all (w_pa_p (w_pe_lc (fun _ => rfl) (LcOk.of lc_is_made_of_0) (w_pi_str (w_pv 0)) (fun _ _ _ _ _ => (w_pg_name (i := 0) lcn_is_made_of_0 rfl (Or.inl rfl))) (fun _ _ _ _ _ => w_pts_nil) (fun _ _ _ _ _ => (w_pe_cmpR (op_inU hu) (w_pv 0) (w_pv 1) rfl))) w_pa_nil))))))), ?_⟩
    simp_all only [big5 (Nat.le_trans hz (by decide))]
    refine ite2 (fun h1 => ite2 (fun h2 => ?_) fun h2 => ?_) fun h1 => ?_
    · refine ⟨ha, CompJ.str (MadeInv H z y) (fun i τ ys H' I => ?_) ⟨⟨_, rfl⟩, by simp, rfl⟩ ?_ ?_⟩
      · rw [I.ys, List.length_map, List.length_map, List.length_take]
        exact big5' (by rw [sg_len]; omega)
      · intro N i c τ ys H' hc I hN
        obtain ⟨t, rfl⟩ := I.ex
        simp_all only []
        rw [in_one]
        have hc' : (sg z)[i]? = some c := by simpa [sg] using hc
        exact hN _ _ _ ⟨⟨_, rfl⟩, by rw [I.ys, List.take_add_one, hc']; simp, I.same⟩
      · intro τ ys H' I p H2 n2
        simp_all only []
        refine ⟨_, by rw [n2.at_, I.ys], ?_⟩
        have hs : Same H H2 := by have := n2.same; rw [I.same] at this; exact this
        have e : madeS z y m = (((sg z).take z.cps.size).map fun c => (sg y).contains c).all id := by
          unfold madeS
          rw [h1, h2, List.take_of_length_le (by rw [sg_len]; exact Nat.le_refl _), List.all_map]
          rfl
        rw [← e]
        exact q H2 hs
    · have e : madeS z y m = false := by unfold madeS; rw [Bool.eq_false_iff.mpr h2]; simp
      rw [← e]; exact q H (Same.refl _)
    · have e : madeS z y m = false := by unfold madeS; rw [Bool.eq_false_iff.mpr h1]; simp
      rw [← e]; exact q H (Same.refl _)
theorem sc_is_name : FnScope ["text"] ["text"] (defScope s_is_name) := ⟨rfl, rfl, rfl, by decide +kernel, rfl, by decide +kernel, by decide +kernel⟩
theorem ok_is_name {f : Addr} {fd : FuncData} (F : Fun K "is_name" "is_name" s_is_name f fd) (T : Txt w K mg A) (G_is_made_of : GF P w K mg base true 1 "is_made_of" ["text", "signs", "most"] spMade) : FnOk P w K mg base CX0 true 2 f fd ["text"] (spTest nameS) := by
  refine F.ok sc_is_name (fun vs H Q E h => ?_) (fun cdv Ar outer s H vs Q E hr h => ?_)
  · obtain ⟨z, rfl, _⟩ := h; rfl
  · obtain ⟨z, rfl, ha, hz, q⟩ := h
    refine ⟨_, (W.h (w_pss_one (w_ps_ret (w_pe_g G_is_made_of hr rfl (w_pa_p (w_pv 0) (w_pa_p (w_pe_gv rfl T.c_LETTERS) (w_pa_p (w_pe_gv rfl T.c_MOST_LETTERS) w_pa_nil))))))), ?_⟩
    simp_all only []
    exact ⟨z, _, _, rfl, ha, hz, q⟩
theorem sc_is_word : FnScope ["text"] ["text"] (defScope s_is_word) := ⟨rfl, rfl, rfl, by decide +kernel, rfl, by decide +kernel, by decide +kernel⟩
theorem ok_is_word {f : Addr} {fd : FuncData} (F : Fun K "is_word" "is_word" s_is_word f fd) (T : Txt w K mg A) (G_is_made_of : GF P w K mg base true 1 "is_made_of" ["text", "signs", "most"] spMade) : FnOk P w K mg base CX0 true 2 f fd ["text"] (spTest wordS) := by
  refine F.ok sc_is_word (fun vs H Q E h => ?_) (fun cdv Ar outer s H vs Q E hr h => ?_)
  · obtain ⟨z, rfl, _⟩ := h; rfl
  · obtain ⟨z, rfl, ha, hz, q⟩ := h
    refine ⟨_, (W.h (w_pss_one (w_ps_ret (w_pe_g G_is_made_of hr rfl (w_pa_p (w_pv 0) (w_pa_p (w_pe_op op_addU (w_pe_gv rfl T.c_LETTERS) (w_pe_gv rfl T.c_FIGURES)) (w_pa_p (w_pe_gv rfl T.c_MOST_SIGNS) w_pa_nil))))))), ?_⟩
    simp_all only []
    exact ⟨by decide, z, _, _, rfl, ha, hz, q⟩
theorem sc_is_number_text : FnScope ["text"] ["text"] (defScope s_is_number_text) := ⟨rfl, rfl, rfl, by decide +kernel, rfl, by decide +kernel, by decide +kernel⟩
theorem ok_is_number_text {f : Addr} {fd : FuncData} (F : Fun K "is_number_text" "is_number_text" s_is_number_text f fd) (T : Txt w K mg A) (G_is_made_of : GF P w K mg base true 1 "is_made_of" ["text", "signs", "most"] spMade) : FnOk P w K mg base CX0 true 2 f fd ["text"] (spTest numS) := by
  refine F.ok sc_is_number_text (fun vs H Q E h => ?_) (fun cdv Ar outer s H vs Q E hr h => ?_)
  · obtain ⟨z, rfl, _⟩ := h; rfl
  · obtain ⟨z, rfl, ha, hz, q⟩ := h
    have hu : _ < cLine := Nat.lt_of_succ_lt (hu_of hr)
    refine ⟨_, (W.h (w_pss_cons (w_ps_if (w_pt_not (w_pt_tru (w_pe_g G_is_made_of hr rfl (w_pa_p (w_pv 0) (w_pa_p (w_pe_gv rfl T.c_FIGURES) (w_pa_p (w_pe_gv rfl T.c_MOST_FIGURES) w_pa_nil))))))
      (w_pss_one (w_ps_ret w_pe_bl))
      w_pss_nil)
      (w_pss_one (w_ps_ret (w_pe_or (w_pe_cmpR (op_eqU hu) (w_pv 0) w_pe_str (nomark _)) (w_pe_one (w_pe_cmpR (op_neU hu) (w_pe_ix ix_U (w_pv 0) w_pe_int (fun _ _ => rfl)) w_pe_str (nomark _)))))))), ?_⟩
    simp_all only []
    refine ⟨z, _, _, rfl, ha, hz, fun H1 s1 => ?_⟩
    simp_all only [big5 (Nat.le_trans hz (by decide))]
    refine ite2 (fun h1 => ?_) fun h1 => ?_
    · have e : numS z = false := by
        unfold numS FIG
        rw [show madeS z "0123456789" 18 = false by simpa using h1]; rfl
      rw [← e]; exact q H1 s1
    · have h1 : madeS z "0123456789" 18 = true := by simpa using h1
      refine ite2 (fun h2 => ?_) fun h2 => ?_
      · have e : numS z = true := by
          unfold numS FIG
          rw [h1, h2]; rfl
        rw [← e]; exact q H1 s1
      · have hl : 0 < (sg z).length := by
          rw [sg_len]
          unfold madeS at h1
          rw [Bool.and_eq_true, Bool.and_eq_true, decide_eq_true_eq] at h1
          omega
        have e0 : (sg z).take 1 = [(sg z)[0]] := by
          generalize sg z = l at hl
          cases l with
          | nil => cases hl
          | cons x l => rfl
        refine ⟨(sg z)[0], atI_nat (xs := sg z) (j := 0) (List.getElem?_eq_getElem hl), ?_⟩
        have e : numS z = !decide (({ cps := #[(sg z)[0]] } : Str) = "0") := by
          unfold numS FIG
          rw [h1, Bool.eq_false_iff.mpr h2, e0]
          rfl
        rw [← e]; exact q H1 s1
end
abbrev s_sum_of : Stmt := top 31
abbrev s_summed : Stmt := top 32
abbrev s_body_of : Stmt := top 33
section
variable {P : Program} {w : World} {K : PySem.W.Frag} {mg : Str → Option Value} {base : Heap} {A : ClsA}
theorem sumN_append : ∀ (k : Nat) (a b : List Nat), sumN k (a ++ b) = sumN k a + sumN (k + a.length) b
  | k, [], b => by simp [sumN]
  | k, c :: a, b => by
    show c * k + sumN (k + 1) (a ++ b) = c * k + sumN (k + 1) a + _
    rw [sumN_append (k + 1) a b, List.length_cons, show k + 1 + a.length = k + (a.length + 1) by omega]
    omega
structure SumInv (H : Hp) (z : Str) (i : Nat) (σ : L2.St) (H' : Hp) : Prop where
  ex : ∃ a b, σ = [some (V.str z), some (.int (sumN 1 ((sg z).take i) : Nat)), a, b]
  same : Same H H'
theorem sc_sum_of : FnScope ["text", "total", "place", "sign"] ["text"] (defScope s_sum_of) := ⟨rfl, rfl, rfl, by decide +kernel, rfl, by decide +kernel, by decide +kernel⟩
theorem ok_sum_of {f : Addr} {fd : FuncData} (F : Fun K "sum_of" "sum_of" s_sum_of f fd) (T : Txt w K mg A) : FnOk P w K mg base CX0 true 1 f fd ["text"] spSum := by
  refine F.ok sc_sum_of (fun vs H Q E h => ?_) (fun cdv Ar outer s H vs Q E hr h => ?_)
  · obtain ⟨z, rfl, _⟩ := h; rfl
  · obtain ⟨z, rfl, ha, hz, q⟩ := h
    refine ⟨_, (W.h (w_pss_cons (w_ps_set (i := 1) sc_sum_of.nd rfl (Or.inl rfl) w_pe_int)
      (w_pss_cons (w_ps_for PassesOwn.never (fun _ => rfl) (w_pi_enumK rfl T.n_enumerate (w_pv 0)) (w_pg_tupA (n := 2) (w_pgs_cons (w_pg_name (i := 2) sc_sum_of.nd rfl (Or.inl rfl)) (w_pgs_cons (w_pg_name (i := 3) sc_sum_of.nd rfl (Or.inl rfl)) w_pgs_nil)))
      (w_pss_one (w_ps_aug (i := 1) sc_sum_of.nd rfl (Or.inl rfl) (w_pe_op op_mulS (w_pe_callBp call_ordU rfl T.n_ord boot_ord (w_pa_p (w_pv 3) w_pa_nil)) (w_pv 2)) ip_add)))
      (w_pss_one (w_ps_ret (w_pe_op op_mod (w_pv 1) (w_pe_gv rfl T.c_MODULUS))))))), ?_⟩
    simp_all only []
    refine ⟨ha, ForJ.enumS (SumInv H z) ⟨⟨_, _, rfl⟩, Same.refl _⟩ ?_ ?_⟩
    · rintro i c p σ H' hc ⟨⟨a, b, rfl⟩, sm⟩ hp
      have hc' : (sg z)[i]? = some c := by simpa [sg] using hc
      simp_all only []
      refine ⟨p, _, rfl, SqT.of upd_same, rfl, ?_⟩
      simp_all only []
      refine ⟨rfl, .inl ⟨by simp; omega, ?_⟩, ⟨⟨some (.int ((i + 1 : Nat) : Int)), some (.str ⟨#[c]⟩), ?_⟩, ?_⟩⟩
      · have hc2 : c < 128 := by
          have h3 := List.mem_of_getElem? hc'
          rw [asc_sg] at ha
          simpa using List.all_eq_true.mp ha c h3
        simp
        omega
      · rw [List.take_add_one, hc', sumN_append]
        have hi : i < (sg z).length := (List.getElem?_eq_some_iff.mp hc').1
        rw [List.length_take, Nat.min_eq_left (by omega)]
        simp [sumN]
        rw [Int.add_comm 1 (i : Int)]
      · exact sm.trans fun b o e => by rw [upd_ne (ne_of_none e hp)]; exact e
    · rintro σ H' ⟨⟨a, b, rfl⟩, sm⟩
      simp_all only []
      refine ⟨by decide, ?_⟩
      have e : sumS z = ((sumN 1 ((sg z).take z.cps.size) : Nat) : Int) % 65521 := by
        unfold sumS
        rw [List.take_of_length_le (by rw [sg_len]; exact Nat.le_refl _)]
        omega
      rw [← e]
      exact q H' sm
theorem sp32 : (" " : Str) = c1 32 := by decide +kernel
theorem log_small {n : Nat} (h : n < 2 ^ 64) : n.log2 < 1920 := by
  by_cases h0 : n = 0
  · subst h0; decide
  · exact Nat.lt_trans ((Nat.log2_lt h0).mpr h) (by decide)
theorem sumS_lt (z : Str) : 0 ≤ sumS z ∧ sumS z < 65521 := by unfold sumS; omega
theorem num_head (m : Nat) (h : 0 < m) : ∃ c r, (Nat.toDigits 10 m).map Char.toNat = c :: r ∧ 49 ≤ c := by
  induction m using Nat.strongRecOn with
  | _ m ih =>
    by_cases h1 : m < 10
    · rw [Nat.toDigits_of_lt_base h1]
      refine ⟨_, [], rfl, ?_⟩
      have : ∀ d : Nat, d < 10 → 0 < d → 49 ≤ (Nat.digitChar d).toNat := by decide
      exact this m h1 h
    · have hm : m % 10 < 10 := Nat.mod_lt m (by decide)
      have t : Nat.toDigits 10 (m / 10) ++ Nat.toDigits 10 (m % 10) = Nat.toDigits 10 (10 * (m / 10) + m % 10) := Nat.toDigits_append_toDigits (by decide) (by omega) hm
      rw [Nat.div_add_mod] at t
      obtain ⟨c, r, e, hc⟩ := ih (m / 10) (by omega) (by omega)
      rw [← t, List.map_append, e]
      exact ⟨c, _, rfl, hc⟩
structure NumF (i : Int) : Prop where
  dig : ∀ c ∈ sg (toString i : Str), 48 ≤ c ∧ c ≤ 57
  one : 1 ≤ (sg (toString i : Str)).length
  most : (sg (toString i : Str)).length ≤ 18
  back : PySem.intText? (toString i : Str) = some i
  head : (toString i : Str) = "0" ∨ ∃ c r, sg (toString i : Str) = c :: r ∧ 49 ≤ c
theorem numF {i : Int} (h0 : 0 ≤ i) (h1 : i < 10 ^ 18) : NumF i := by
  obtain ⟨m, rfl⟩ := Int.eq_ofNat_of_zero_le h0
  have hd : ∀ c ∈ sg (toString ((m : Nat) : Int) : Str), 48 ≤ c ∧ c ≤ 57 := by
    intro c hc
    rw [sg_num] at hc
    obtain ⟨ch, hch, e⟩ := List.mem_map.mp hc
    have r := Nat.isDigit_of_mem_toDigits (by decide) (by decide) hch
    rw [← e]
    exact PyProof.Rows.digit_range r
  have hn : 1 ≤ (sg (toString ((m : Nat) : Int) : Str)).length := by
    rcases Nat.eq_zero_or_pos m with h | h
    · rw [h, sg_num]; decide
    · obtain ⟨c, r, e, _⟩ := num_head m h
      rw [sg_num, e]; simp
  have hl : (sg (toString ((m : Nat) : Int) : Str)).length ≤ 18 := by
    have e : (Nat.repr m).length ≤ 18 := (Nat.length_repr_le_iff (by decide)).mpr (by omega)
    rw [sg_len]
    show (Str.ofString (toString ((m : Nat) : Int))).length ≤ 18
    rw [PySem.ofString_length]
    exact e
  refine ⟨hd, hn, hl, ?_, ?_⟩
  · have e := intText_digits (x := (toString ((m : Nat) : Int) : Str)) hd (fun z => by rw [show sg (toString ((m : Nat) : Int) : Str) = [] from z] at hn; cases hn) (by rw [← sg_len]; omega)
    have e2 : (toString ((m : Nat) : Int) : Str).cps.toList = (Nat.toDigits 10 m).map Char.toNat := sg_num m
    rw [e2, PySem.W.KIN.val_back] at e
    exact e
  · rcases Nat.eq_zero_or_pos m with h | h
    · left; rw [h]; rfl
    · obtain ⟨c, r, e, hc⟩ := num_head m h
      exact .inr ⟨c, r, by rw [sg_num, e], hc⟩
theorem num_len {i : Int} (h0 : 0 ≤ i) (h1 : i < 10 ^ 18) : (toString i : Str).length ≤ 19 := by
  have e := int_text_length_le10 (a := i) (k := 18) (by decide) (by omega)
  show (Str.ofString (toString i)).length ≤ 19
  rw [PySem.ofString_length]
  exact e
theorem sc_summed : FnScope ["body"] ["body"] (defScope s_summed) := ⟨rfl, rfl, rfl, by decide +kernel, rfl, by decide +kernel, by decide +kernel⟩
theorem ok_summed {f : Addr} {fd : FuncData} (F : Fun K "summed" "summed" s_summed f fd) (T : Txt w K mg A) (G_sum_of : GF P w K mg base true 1 "sum_of" ["text"] spSum) : FnOk P w K mg base CX0 true 2 f fd ["body"] spSummed := by
  refine F.ok sc_summed (fun vs H Q E h => ?_) (fun cdv Ar outer s H vs Q E hr h => ?_)
  · obtain ⟨z, rfl, _⟩ := h; rfl
  · obtain ⟨z, rfl, ha, hz, q⟩ := h
    refine ⟨_, (W.h (w_pss_one (w_ps_ret (w_pe_fstr (w_pj_cons (w_pe_fmt (w_pv 0)) (w_pj_cons (w_pe_fmt (w_pe_g G_sum_of hr rfl (w_pa_p (w_pv 0) w_pa_nil))) (w_pj_cons w_pe_str w_pj_nil))))))), ?_⟩
    simp_all only []
    have hs := sumS_lt z
    have hn := num_len hs.1 (by omega)
    refine ⟨big5 (by omega), by rw [Str.empty_append]; exact big5 (by omega), z, rfl, ha, hz, fun H' s1 => ?_⟩
    simp_all only []
    rw [Str.empty_append]
    have l1 : (z ++ (toString (sumS z) : Str)).length ≤ 1000000 := by rw [Str.length_append]; omega
    have l2 : (z ++ (toString (sumS z) : Str) ++ ";").length ≤ 1000000 := by
      rw [Str.length_append, Str.length_append]
      have : (";" : Str).length = 1 := by decide
      omega
    exact ⟨log_small (by omega), big5 l1, big5 l2, big5 l2, q H' s1⟩
theorem asc_tx (l : List Nat) : asc (tx l) = l.all (· < 128) := by rw [asc_sg, sg_tx]
theorem asc_sub {z : Str} (h : asc z = true) {l : List Nat} (hl : ∀ c ∈ l, c ∈ sg z) : asc (tx l) = true := by
  rw [asc_tx, List.all_eq_true]
  rw [asc_sg, List.all_eq_true] at h
  exact fun c hc => h c (hl c hc)
theorem last_cut (c : Nat) : ∀ l : List Nat, c ∈ l → ∃ a b, l = a ++ c :: b ∧ c ∉ b
  | [], h => by cases h
  | x :: l, h => by
    by_cases hm : c ∈ l
    · obtain ⟨a, b, e, hb⟩ := last_cut c l hm
      exact ⟨x :: a, b, by rw [e]; rfl, hb⟩
    · rcases List.mem_cons.mp h with e | e
      · exact ⟨[], l, by rw [e]; rfl, hm⟩
      · exact absurd e hm
theorem bodyAt_of {z : Str} {a b : List Nat} (h : sg z = a ++ 32 :: b) (hb : 32 ∉ b) : bodyAt z = tx (a ++ [32]) := by
  unfold bodyAt
  rw [rfind_at h hb]
  have e : ((a.length : Int) + 1) = ((a.length + 1 : Nat) : Int) := by omega
  rw [e, slice_to (by rw [h]; simp), h]
  congr 1
  rw [show a ++ 32 :: b = (a ++ [32]) ++ b by simp, List.take_left' (by simp)]
theorem bodyAt_no {z : Str} (h : 32 ∉ sg z) : bodyAt z = tx [] := by
  unfold bodyAt
  rw [rfind_no h]
  exact slice_to (j := 0) (Nat.zero_le _)
theorem bodyAt_ok {z : Str} (h : asc z = true) : asc (bodyAt z) = true ∧ (bodyAt z).length ≤ z.length := by
  refine ⟨?_, PySem.Txt.slice_le _ _ _⟩
  by_cases hm : 32 ∈ sg z
  · obtain ⟨a, b, e, hb⟩ := last_cut 32 _ hm
    rw [bodyAt_of e hb]
    refine asc_sub h fun c hc => ?_
    rw [e, show a ++ 32 :: b = (a ++ [32]) ++ b by simp]
    exact List.mem_append_left _ hc
  · rw [bodyAt_no hm, asc_tx]; rfl
theorem sc_body_of : FnScope ["text", "body"] ["text"] (defScope s_body_of) := ⟨rfl, rfl, rfl, by decide +kernel, rfl, by decide +kernel, by decide +kernel⟩
theorem ok_body_of {f : Addr} {fd : FuncData} (F : Fun K "body_of" "body_of" s_body_of f fd) (T : Txt w K mg A) (G_summed : GF P w K mg base true 2 "summed" ["body"] spSummed) : FnOk P w K mg base CX0 true 3 f fd ["text"] spBody := by
  refine F.ok sc_body_of (fun vs H Q E h => ?_) (fun cdv Ar outer s H vs Q E hr h => ?_)
  · rcases h with ⟨z, rfl, _⟩ | ⟨v, rfl, _⟩ <;> rfl
  · have hu : _ < cLine := Nat.lt_of_succ_lt (hu_of hr)
    refine ⟨_, (W.h (w_pss_cons (w_ps_if (w_pt_not (w_pt_tru (w_pe_callBp call_isi rfl T.n_isinstance boot_isinstance (w_pa_p (w_pv 0) (w_pa_p (w_pe_bltn rfl T.n_str boot_str (v := .ty "str") rfl) w_pa_nil)))))
      (w_pss_one (w_ps_ret w_pe_non))
      w_pss_nil)
      (w_pss_cons (w_ps_set (i := 1) sc_body_of.nd rfl (Or.inl rfl) (w_pe_slice sl_U (w_pv 0) w_po_none (w_po_some (w_pe_op op_addU (w_pe_b_rfind (w_pv 0) w_pe_str) w_pe_int))))
      (w_pss_one (w_ps_ret (w_pe_ifExp (w_pt_cmpR (op_eqU hu) (w_pv 0) (w_pe_g G_summed hr rfl (w_pa_p (w_pv 1) w_pa_nil)) (nomark _)) (w_pv 1) w_pe_non)))))), ?_⟩
    rcases h with ⟨z, rfl, ha, hz, q⟩ | ⟨v, rfl, tv, q⟩
    case inr =>
      simp_all only []
      refine isi_str tv ?_
      simp_all only []
      exact q
    simp_all only []
    refine ⟨_, _, _, _, _, rfl, rfl, .of (.str z), rfl, ?_⟩
    simp_all only [big5 (Nat.le_trans hz (by decide)), sp32]
    obtain ⟨b1, b2⟩ := bodyAt_ok ha
    refine ⟨bodyAt z, rfl, b1, by omega, fun H' s1 => ?_⟩
    simp_all only []
    have q' := q H' s1
    refine ite2 (fun h => ?_) fun h => ?_
    · have e : bodyS z = some (bodyAt z) := if_pos (of_decide_eq_true h)
      rw [e] at q'
      exact q'
    · have e : bodyS z = none := if_neg fun x => h (decide_eq_true x)
      rw [e] at q'
      exact q'
theorem part_len {v : V} (h : Part v) : (partT v).length ≤ 100 ∧ asc (partT v) = true := by
  cases h with
  | bl b => cases b <;> exact ⟨by decide, by rw [asc_sg]; decide⟩
  | int i h0 h1 =>
    have F := numF h0 h1
    refine ⟨by show (toString i : Str).length ≤ 100; rw [← sg_len]; have := F.most; omega, ?_⟩
    show asc (toString i : Str) = true
    rw [asc_sg, List.all_eq_true]
    exact fun c hc => decide_eq_true (by have := F.dig c hc; omega)
  | str z ha hz => exact ⟨hz, ha⟩
theorem ahead_len : ∀ {xs : List V}, (∀ v ∈ xs, Part v) → (aheadL xs).length ≤ 101 * xs.length ∧ (aheadL xs).all (· < 128) = true
  | [], _ => ⟨by simp [aheadL], rfl⟩
  | v :: xs, h => by
    obtain ⟨h1, h2⟩ := ahead_len (xs := xs) fun u hu => h u (List.mem_cons_of_mem _ hu)
    obtain ⟨p1, p2⟩ := part_len (h v (List.mem_cons_self ..))
    have e : aheadL (v :: xs) = sg (partT v) ++ [32] ++ aheadL xs := by simp [aheadL]
    rw [e]
    rw [← sg_len] at p1
    rw [asc_sg] at p2
    refine ⟨by simp; omega, ?_⟩
    rw [List.all_append, List.all_append, p2, h2]
    rfl
end
abbrev s_read_part : Stmt := top 36
abbrev s_row_of : Stmt := top 35
abbrev s_read_row : Stmt := top 34
section
variable {P : Program} {w : World} {K : PySem.W.Frag} {mg : Str → Option Value} {base : Heap} {A : ClsA}
theorem num_reads {z : Str} (h : numS z = true) : ∃ n, PySem.intText? z = some n ∧ z.length ≤ 640 := by
  unfold numS madeS at h
  rw [Bool.and_eq_true, Bool.and_eq_true, Bool.and_eq_true, decide_eq_true_eq, decide_eq_true_eq] at h
  obtain ⟨⟨⟨h1, h2⟩, h3⟩, _⟩ := h
  have hl : z.length ≤ 18 := by omega
  have hd : ∀ c ∈ sg z, 48 ≤ c ∧ c ≤ 57 := by
    intro c hc
    have := List.all_eq_true.mp h3 c hc
    have hf : sg FIG = [48, 49, 50, 51, 52, 53, 54, 55, 56, 57] := by decide
    rw [hf] at this
    have := List.contains_iff_mem.mp this
    simp only [List.mem_cons, List.not_mem_nil, or_false] at this
    omega
  refine ⟨_, intText_digits (x := z) hd (fun e => ?_) (by omega), by omega⟩
  have : z.length = 0 := by rw [← sg_len]; rw [show sg z = [] from e]; rfl
  omega
theorem sc_read_part : FnScope ["kind", "word"] ["kind", "word"] (defScope s_read_part) := ⟨rfl, rfl, rfl, by decide +kernel, rfl, by decide +kernel, by decide +kernel⟩
theorem ok_read_part {f : Addr} {fd : FuncData} (F : Fun K "read_part" "read_part" s_read_part f fd) (T : Txt w K mg A) (G_is_number_text : GF P w K mg base true 2 "is_number_text" ["text"] (spTest numS)) (G_is_name : GF P w K mg base true 2 "is_name" ["text"] (spTest nameS)) (G_is_word : GF P w K mg base true 2 "is_word" ["text"] (spTest wordS)) :
    FnOk P w K mg base (CXW P w) true 3 f fd ["kind", "word"] (spReadP A) := by
  refine F.okW sc_read_part (fun vs H Q E h => ?_) (fun cdv Ar outer s H vs Q E hr h => ?_)
  · obtain ⟨k, z, rfl, _⟩ := h; rfl
  · obtain ⟨k, z, rfl, ha, hz, q⟩ := h
    have hu : _ < cLine := Nat.lt_of_succ_lt (hu_of hr)
    have Th := throws_def (cm := true) (P := P) (w := w) (K := K) (mg := mg) (base := base) (N := ["kind", "word"]) (qual := "read_part") (scope := defScope s_read_part) (f := f) (cd := cdv) (A := Ar) (outer := outer) (s := s) (H := H) (E := E)
    refine ⟨_, (W.h (w_pss_cons (w_ps_cut (w_ps_if (w_pt (w_pw_and (w_pt_cmpR (op_eqU hu) (w_pv 0) w_pe_str (nomark _)) (w_pw_and1 (w_pt_tru (w_pe_g G_is_number_text hr rfl (w_pa_p (w_pv 1) w_pa_nil))))))
      (w_pss_one (w_ps_ret (w_pe_callTyp call_intT rfl T.n_int boot_int (w_pa_p (w_pv 1) w_pa_nil))))
      w_pss_nil))
      (w_pss_cons (w_ps_cut (w_ps_if (w_pt (w_pw_and (w_pt_cmpR (op_eqU hu) (w_pv 0) w_pe_str (nomark _)) (w_pw_and1 (w_pt_cmpR (op_inU hu) (w_pv 1) (w_pe_tupA (w_pa_p w_pe_str (w_pa_p w_pe_str w_pa_nil))) rfl))))
      (w_pss_one (w_ps_ret (w_pe_cmpR (op_eqU hu) (w_pv 1) w_pe_str (nomark _))))
      w_pss_nil))
      (w_pss_cons (w_ps_cut (w_ps_if (w_pt (w_pw_and (w_pt_cmpR (op_eqU hu) (w_pv 0) w_pe_str (nomark _)) (w_pw_and1 (w_pt_tru (w_pe_g G_is_name hr rfl (w_pa_p (w_pv 1) w_pa_nil))))))
      (w_pss_one (w_ps_ret (w_pv 1)))
      w_pss_nil))
      (w_pss_cons (w_ps_if (w_pt (w_pw_and (w_pt_cmpR (op_eqU hu) (w_pv 0) w_pe_str (nomark _)) (w_pw_and1 (w_pt_tru (w_pe_g G_is_word hr rfl (w_pa_p (w_pv 1) w_pa_nil))))))
      (w_pss_one (w_ps_ret (w_pv 1)))
      w_pss_nil)
      (w_pss_one (w_ps_raisep rfl Th T.ek_NoRow rfl T.mg_NoRow (w_pa_p w_pe_str w_pa_nil)))))))), ?_⟩
    simp_all only [tCut_eq]
    refine ⟨fun σ' H' => σ' = [some (.str k), some (.str z)] ∧ Same H H' ∧ ¬ (k = "number" ∧ numS z = true), ?_, ?_⟩
    · refine ite2 (fun h1 => ?_) fun h1 => ⟨rfl, Same.refl _, fun x => h1 (decide_eq_true x.1)⟩
      refine ⟨z, rfl, ha, hz, fun H1 s1 => ?_⟩
      simp_all only []
      refine ite2 (fun h2 => ?_) fun h2 => ⟨s1, fun x => h2 x.2⟩
      obtain ⟨n, hn, hl⟩ := num_reads h2
      refine ⟨hl, n, hn, (q H1 s1).1 _ ?_⟩
      unfold readP
      rw [if_pos ⟨of_decide_eq_true h1, h2⟩, hn]
      rfl
    rintro σ' H1 ⟨rfl, s1, n1⟩
    simp_all only [tCut_eq]
    refine ⟨fun σ' H' => σ' = [some (.str k), some (.str z)] ∧ Same H H' ∧ ¬ (k = "end" ∧ (z = "0" ∨ z = "1")), ?_, ?_⟩
    · refine ite2 (fun h1 => ?_) fun h1 => ⟨rfl, s1, fun x => h1 (decide_eq_true x.1)⟩
      refine ⟨by decide, fun p H2 n2 => ⟨_, .inr n2.at_, rfl, rfl, ?_⟩⟩
      have e : inV (V.str z) [V.str "0", V.str "1"] = true ↔ (z = "0" ∨ z = "1") := by
        unfold inV
        rw [List.any_cons, List.any_cons, List.any_nil, Bool.or_false, Bool.or_eq_true]
        have e3 : ∀ a : Str, eqV (V.str a) (V.str z) = true ↔ z = a := fun a => by
          show (a == z) = true ↔ _
          rw [beq_iff_eq]
          exact eq_comm
        rw [e3, e3]
      refine ite2 (fun h2 => ?_) fun h2 => ⟨rfl, s1.trans n2.same, fun x => h2 (e.mpr x.2)⟩
      refine (q H2 (s1.trans n2.same)).1 _ ?_
      unfold readP
      rw [if_neg n1, if_pos ⟨of_decide_eq_true h1, e.mp h2⟩]
    rintro σ' H2 ⟨rfl, s2, n2⟩
    simp_all only [tCut_eq]
    refine ⟨fun σ' H' => σ' = [some (.str k), some (.str z)] ∧ Same H H' ∧ ¬ (k = "name" ∧ nameS z = true), ?_, ?_⟩
    · refine ite2 (fun h1 => ?_) fun h1 => ⟨rfl, s2, fun x => h1 (decide_eq_true x.1)⟩
      refine ⟨z, rfl, ha, hz, fun H3 s3 => ?_⟩
      simp_all only []
      refine ite2 (fun h2 => ?_) fun h2 => ⟨s2.trans s3, fun x => h2 x.2⟩
      refine (q H3 (s2.trans s3)).1 _ ?_
      unfold readP
      rw [if_neg n1, if_neg n2, if_pos ⟨of_decide_eq_true h1, h2⟩]
    rintro σ' H3 ⟨rfl, s3, n3⟩
    simp_all only []
    refine ite2 (fun h1 => ?_) fun h1 => ?_
    · refine ⟨z, rfl, ha, hz, fun H4 s4 => ?_⟩
      simp_all only []
      refine ite2 (fun h2 => ?_) fun h2 => ?_
      · refine (q H4 (s3.trans s4)).1 _ ?_
        unfold readP
        rw [if_neg n1, if_neg n2, if_neg n3, if_pos ⟨of_decide_eq_true h1, h2⟩]
      · refine ⟨by decide, (q H4 (s3.trans s4)).2 ?_⟩
        unfold readP
        rw [if_neg n1, if_neg n2, if_neg n3, if_neg fun x => h2 x.2]
    · refine ⟨by decide, (q H3 s3).2 ?_⟩
      unfold readP
      rw [if_neg n1, if_neg n2, if_neg n3, if_neg fun x => h1 (decide_eq_true x.1)]
theorem parts_kinds (T : Txt w K mg A) (z : Str) : (getK [("put", A.PARTS_put), ("cut", A.PARTS_cut), ("hold", A.PARTS_hold), ("free", A.PARTS_free), ("carry", A.PARTS_carry)] z = .non ∧ kindsS z = none) ∨
    ∃ p ks, getK [("put", A.PARTS_put), ("cut", A.PARTS_cut), ("hold", A.PARTS_hold), ("free", A.PARTS_free), ("carry", A.PARTS_carry)] z = .ref p ∧ kindsS z = some ks ∧ ks.length ≤ 10 ∧ ∀ H : Hp, SqT K H p (ks.map V.str) := by
  unfold getK kindsS
  simp only [List.find?_cons, List.find?_nil]
  by_cases h1 : z = "put"
  · rw [if_pos h1, decide_eq_true h1.symm]
    exact .inr ⟨_, _, rfl, rfl, by decide, T.t_PARTS_put⟩
  rw [if_neg h1, decide_eq_false (Ne.symm h1)]
  by_cases h2 : z = "cut"
  · rw [if_pos h2, decide_eq_true h2.symm]
    exact .inr ⟨_, _, rfl, rfl, by decide, T.t_PARTS_cut⟩
  rw [if_neg h2, decide_eq_false (Ne.symm h2)]
  by_cases h3 : z = "hold"
  · rw [if_pos h3, decide_eq_true h3.symm]
    exact .inr ⟨_, _, rfl, rfl, by decide, T.t_PARTS_hold⟩
  rw [if_neg h3, decide_eq_false (Ne.symm h3)]
  by_cases h4 : z = "free"
  · rw [if_pos h4, decide_eq_true h4.symm]
    exact .inr ⟨_, _, rfl, rfl, by decide, T.t_PARTS_free⟩
  rw [if_neg h4, decide_eq_false (Ne.symm h4)]
  by_cases h5 : z = "carry"
  · rw [if_pos h5, decide_eq_true h5.symm]
    exact .inr ⟨_, _, rfl, rfl, by decide, T.t_PARTS_carry⟩
  rw [if_neg h5, decide_eq_false (Ne.symm h5)]
  exact .inl ⟨rfl, rfl⟩
theorem readPs_append : ∀ {ks zs : List Str} (ks' zs' : List Str), ks.length = zs.length → readPs (ks ++ ks') (zs ++ zs') = (readPs ks zs).bind fun vs => (readPs ks' zs').map (vs ++ ·)
  | [], [], ks', zs', _ => by simp [readPs]
  | k :: ks, z :: zs, ks', zs', h => by
    have ih := readPs_append (ks := ks) (zs := zs) ks' zs' (by simpa using h)
    show (readP k z).bind (fun v => (readPs (ks ++ ks') (zs ++ zs')).map (v :: ·)) = ((readP k z).bind fun v => (readPs ks zs).map (v :: ·)).bind _
    rw [ih]
    cases readP k z with
    | none => rfl
    | some v =>
      cases readPs ks zs with
      | none => rfl
      | some vs =>
        show ((readPs ks' zs').map (vs ++ ·)).map (v :: ·) = (readPs ks' zs').map ((v :: vs) ++ ·)
        rw [Option.map_map]
        rfl
  | [], z :: zs, _, _, h => by cases h
  | k :: ks, [], _, _, h => by cases h
theorem rowS_cons (z : Str) (zs : List Str) : rowS (z :: zs) = (kindsS z).bind fun ks => if zs.length = ks.length then (readPs ks zs).map (.str z :: ·) else none := rfl
theorem cutV_tail {x : V} {l : List V} : cutV (x :: l) (some 1) none = l := by
  have e1 : HT.sIx (x :: l).length 0 (some 1) = 1 := by simp [HT.sIx]
  have e2 : HT.sIx (x :: l).length (x :: l).length none = l.length + 1 := by simp [HT.sIx]
  unfold cutV
  rw [e1, e2]
  simp
structure RowOfInv (H : Hp) (a p r b : Addr) (z : Str) (ks zs : List Str) (i : Nat) (σ : L2.St) (H' : Hp) : Prop where
  ex : ∃ k' z', σ = [some (V.ref a), some (.ref p), some (.ref r), k', z']
  same : Same H H'
  row : ∃ vs, H' r = some (.lst (.str z :: vs)) ∧ readPs (ks.take i) (zs.take i) = some vs ∧ vs.length = i
  words : H' b = some (.lst (zs.map V.str))
  ne : H r = none ∧ H b = none ∧ r ≠ b
theorem sc_row_of : FnScope ["words", "kinds", "row", "kind", "word"] ["words"] (defScope s_row_of) := ⟨rfl, rfl, rfl, by decide +kernel, rfl, by decide +kernel, by decide +kernel⟩
theorem ok_row_of {f : Addr} {fd : FuncData} (F : Fun K "row_of" "row_of" s_row_of f fd) (T : Txt w K mg A) (G_read_part : GX P w K mg base true 3 "read_part" ["kind", "word"] (spReadP A)) : FnOk P w K mg base (CXW P w) true 4 f fd ["words"] (spRowOf A) := by
  refine F.okW sc_row_of (fun vs H Q E h => ?_) (fun cdv Ar outer s H vs Q E hr h => ?_)
  · obtain ⟨a, ws, rfl, _⟩ := h; rfl
  · obtain ⟨a, ws, rfl, hH, hne, hl, hw, q, qn⟩ := h
    have hu : _ < cLine := Nat.lt_of_succ_lt (hu_of hr)
    have Th := throws_def (cm := true) (P := P) (w := w) (K := K) (mg := mg) (base := base) (N := ["words", "kinds", "row", "kind", "word"]) (qual := "row_of") (scope := defScope s_row_of) (f := f) (cd := cdv) (A := Ar) (outer := outer) (s := s) (H := H) (E := E)
    obtain ⟨z, zs, rfl⟩ := List.exists_cons_of_ne_nil hne
    have e0 : atI (V.str z :: List.map V.str zs) 0 = some (.str z) := atI_nat (j := 0) rfl
    refine ⟨_, (W.h (w_pss_cons (w_ps_set (i := 1) sc_row_of.nd rfl (Or.inl rfl) (w_pe_getK rfl T.mg_PARTS T.d_PARTS (w_pe_ix ix_U (w_pv 0) w_pe_int (fun _ _ => rfl))))
      (w_pss_cons (w_ps_if (w_pt (w_pw_or (w_pt_cmpR op_isU (w_pv 1) w_pe_non (nomark _)) (w_pw_or1 (w_pt_cmpR (op_neU hu) (w_pe_callBp call_lenU rfl T.n_len PySem.boot_len (w_pa_p (w_pv 0) w_pa_nil)) (w_pe_op op_addU (w_pe_callBp call_len_seq rfl T.n_len PySem.boot_len (w_pa_p (w_pv 1) w_pa_nil)) w_pe_int) (nomark _)))))
      (w_pss_one (w_ps_raisep rfl Th T.ek_NoRow rfl T.mg_NoRow (w_pa_p w_pe_str w_pa_nil)))
      w_pss_nil)
      (w_pss_cons (w_ps_set (i := 2) sc_row_of.nd rfl (Or.inl rfl) (w_pe_lstA (w_pa_p (w_pe_ix ix_U (w_pv 0) w_pe_int (fun _ _ => rfl)) w_pa_nil)))
      (w_pss_cons (w_ps_thr Th (w_ps_for (passes_F rfl (fun ok => ok.frames) rfl) (by intro h; exact nomatch h) (w_pi_zipT rfl T.n_zip (w_pa_p (w_pv 1) (w_pa_p (w_pe_slice sl_U (w_pv 0) (w_po_some w_pe_int) w_po_none) w_pa_nil))) (w_pg_tupA (n := 2) (w_pgs_cons (w_pg_name (i := 3) sc_row_of.nd rfl (Or.inl rfl)) (w_pgs_cons (w_pg_name (i := 4) sc_row_of.nd rfl (Or.inl rfl)) w_pgs_nil)))
      (w_pss_one (w_ps_expr (w_pe_append (w_pv 2) (w_pe_gX throws_F G_read_part hr rfl (w_pa_p (w_pv 3) (w_pa_p (w_pv 4) w_pa_nil))))))))
      (w_pss_one (w_ps_ret (w_pe_callTyp call_tupU rfl T.n_tuple boot_tuple (w_pa_p (w_pv 2) w_pa_nil))))))))), ?_⟩
    simp_all only [hH, e0]
    rcases parts_kinds T z with ⟨g1, g2⟩ | ⟨p, ks, g1, g2, g4, g3⟩
    · simp_all only [g1]
      exact ⟨by decide, qn (by rw [rowS_cons, g2]; rfl) H (Same.refl _)⟩
    simp_all only [g1, hH]
    refine ⟨_, .inr (g3 H), ?_⟩
    have hl2 : (!decide ((((List.map V.str zs).length + 1 : Nat) : Int) = ((List.map V.str ks).length : Int) + 1)) = true ↔ zs.length ≠ ks.length := by
      rw [List.length_map, List.length_map]
      simp
      omega
    refine ite2 (fun h => ?_) fun h => ?_
    · refine ⟨by decide, qn ?_ H (Same.refl _)⟩
      rw [rowS_cons, g2]
      show (if zs.length = ks.length then _ else _) = _
      rw [if_neg (hl2.mp h)]
    have hlen : ks.length = zs.length := by
      refine Classical.byContradiction fun hx => h (hl2.mpr fun x => hx x.symm)
    have hrow : rowS (z :: zs) = (readPs ks zs).map (.str z :: ·) := by
      rw [rowS_cons, g2]
      show (if zs.length = ks.length then _ else _) = _
      rw [if_pos hlen.symm]
    refine ⟨_, e0, by decide, fun r H1 n1 _ => ⟨_, n1.same _ _ hH, fun b H2 n2 => ?_⟩⟩
    have s2 : Same H H2 := n1.same.trans n2.same
    have er := n2.same _ _ n1.at_
    have eb := n2.at_
    rw [List.map_cons, cutV_tail] at eb
    have hrb : r ≠ b := fun x => by rw [x] at n1; have := n1.at_; rw [n2.no] at this; cases this
    refine ⟨⟨_, g3 H2⟩, ⟨_, SqL.of eb⟩, ForJ.zipT (xs := ks.map V.str) (ys := zs.map V.str) (by rw [List.length_map, List.length_map]; exact hlen) (RowOfInv H a p r b z ks zs) ⟨⟨_, _, rfl⟩, s2, ⟨[], er, by simp [readPs], rfl⟩, eb, n1.no, n1.same.free n2.no, hrb⟩ (fun i σ H' _ I => ⟨g3 H', SqL.of I.words⟩) ?_ ?_⟩
    · intro i x y t σ H' hx hy I ht
      obtain ⟨k', z', rfl⟩ := I.ex
      rw [List.getElem?_map] at hx hy
      obtain ⟨k, hk, rfl⟩ := Option.map_eq_some_iff.mp hx
      obtain ⟨u, hu', rfl⟩ := Option.map_eq_some_iff.mp hy
      obtain ⟨vs, hv, hp, hvl⟩ := I.row
      have hm := hw u (List.mem_cons_of_mem _ (List.mem_of_getElem? hu'))
      simp_all only []
      refine ⟨t, _, rfl, SqT.of upd_same, rfl, ?_⟩
      have hrt : r ≠ t := fun x => by rw [x] at hv; rw [ht] at hv; cases hv
      have hbt : b ≠ t := fun x => by have := I.words; rw [x, ht] at this; cases this
      have hv2 : upd H' t (.tup [.str k, .str u]) r = some (.lst (.str z :: vs)) := by rw [upd_ne hrt]; exact hv
      simp_all only [hv2]
      have st : Same H (upd H' t (.tup [.str k, .str u])) := fun c o e => by
        have := I.same c o e
        rw [upd_ne (ne_of_none this ht)]; exact this
      have hi : i < ks.length := (List.getElem?_eq_some_iff.mp hk).1
      have ta : (ks.take i).length = (zs.take i).length := by rw [List.length_take, List.length_take, hlen]
      have tk : ks.take (i + 1) = ks.take i ++ [k] := by rw [List.take_add_one, hk]; rfl
      have tz : zs.take (i + 1) = zs.take i ++ [u] := by rw [List.take_add_one, hu']; rfl
      refine ⟨k, u, rfl, hm.1, hm.2, fun H3 s3 => ⟨fun v hr' => ?_, fun hr' => ?_⟩⟩
      · have h3r : H3 r = some (.lst (.str z :: vs)) := s3 _ _ hv2
        have h3b : H3 b = some (.lst (zs.map V.str)) := s3 _ _ (by rw [upd_ne hbt]; exact I.words)
        refine ⟨_, h3r, by simp; exact big5' (by omega), ⟨⟨_, _, rfl⟩, fun c o e => ?_, ⟨vs ++ [v], by rw [upd_same]; rfl, ?_, by simp [hvl]⟩, by rw [upd_ne (Ne.symm hrb)]; exact h3b, I.ne⟩⟩
        · rw [upd_ne (ne_of_none e I.ne.1)]
          exact s3 _ _ (st c o e)
        · rw [tk, tz, readPs_append _ _ ta, hp]
          show (readPs [k] [u]).map (vs ++ ·) = _
          simp [readPs, hr']
      · refine ⟨_, rfl, qn ?_ H3 (st.trans s3)⟩
        have e1 : readPs ks zs = none := by
          have k1 : ks = ks.take (i + 1) ++ ks.drop (i + 1) := (List.take_append_drop _ _).symm
          have z1 : zs = zs.take (i + 1) ++ zs.drop (i + 1) := (List.take_append_drop _ _).symm
          rw [k1, z1, readPs_append _ _ (by rw [List.length_take, List.length_take, hlen]), tk, tz, readPs_append _ _ ta, hp]
          simp [readPs, hr']
        rw [hrow, e1]
        rfl
    · rintro σ H' I
      obtain ⟨k', z', rfl⟩ := I.ex
      obtain ⟨vs, hv, hp, hvl⟩ := I.row
      simp_all only [hv]
      intro l H2 n2
      rw [List.length_map, List.take_of_length_le (Nat.le_refl _), List.take_of_length_le (by omega)] at hp
      exact q _ (by rw [hrow, hp]; rfl) l H2 (I.same.trans n2.same) n2.at_
theorem splitL_mem {c : Nat} : ∀ {l : List Nat} {w : List Nat}, w ∈ splitL c l → ∀ x ∈ w, x ∈ l
  | [], w, h, x, hx => by
    rw [show splitL c [] = [[]] from rfl, List.mem_singleton] at h
    rw [h] at hx; cases hx
  | y :: l, w, h, x, hx => by
    by_cases hc : y = c
    · rw [show splitL c (y :: l) = [] :: splitL c l from if_pos hc] at h
      rcases List.mem_cons.mp h with e | h
      · rw [e] at hx; cases hx
      · exact List.mem_cons_of_mem _ (splitL_mem h x hx)
    · rw [splitL_cons c y l hc] at h
      obtain ⟨a, r, e⟩ := splitL_ne c l
      rw [e] at h
      rcases List.mem_cons.mp h with e2 | h
      · rw [e2] at hx
        rcases List.mem_cons.mp hx with e3 | hx
        · rw [e3]; exact List.mem_cons_self ..
        · exact List.mem_cons_of_mem _ (splitL_mem (l := l) (w := a) (by rw [e]; exact List.mem_cons_self ..) x hx)
      · exact List.mem_cons_of_mem _ (splitL_mem (l := l) (by rw [e]; exact List.mem_cons_of_mem _ h) x hx)
theorem splitL_len (c : Nat) : ∀ l : List Nat, (splitL c l).length ≤ l.length + 1 ∧ ∀ w ∈ splitL c l, w.length ≤ l.length
  | [] => ⟨by simp [splitL], by simp [splitL]⟩
  | y :: l => by
    obtain ⟨h1, h2⟩ := splitL_len c l
    by_cases hc : y = c
    · rw [show splitL c (y :: l) = [] :: splitL c l from if_pos hc]
      refine ⟨by simp; omega, fun w hw => ?_⟩
      rcases List.mem_cons.mp hw with e | hw
      · rw [e]; simp
      · have := h2 w hw; simp; omega
    · rw [splitL_cons c y l hc]
      obtain ⟨a, r, e⟩ := splitL_ne c l
      rw [e] at h1 h2 ⊢
      refine ⟨by simpa [preH] using Nat.le_succ_of_le h1, fun w hw => ?_⟩
      rcases List.mem_cons.mp hw with e2 | hw
      · have := h2 a (List.mem_cons_self ..); rw [e2]; simp; omega
      · have := h2 w (List.mem_cons_of_mem _ hw); simp; omega
theorem asc_mem {z : Str} (h : asc z = true) {c : Nat} (hc : c ∈ sg z) : c < 128 := by
  rw [asc_sg] at h
  simpa using List.all_eq_true.mp h c hc
theorem sc_read_row : FnScope ["text", "body"] ["text"] (defScope s_read_row) := ⟨rfl, rfl, rfl, by decide +kernel, rfl, by decide +kernel, by decide +kernel⟩
theorem ok_read_row {f : Addr} {fd : FuncData} (F : Fun K "read_row" "read_row" s_read_row f fd) (T : Txt w K mg A) (G_body_of : GF P w K mg base true 3 "body_of" ["text"] spBody) (G_row_of : GX P w K mg base true 4 "row_of" ["words"] (spRowOf A)) : FnOk P w K mg base (CXW P w) true 5 f fd ["text"] (spReadR A) := by
  refine F.okW sc_read_row (fun vs H Q E h => ?_) (fun cdv Ar outer s H vs Q E hr h => ?_)
  · rcases h with ⟨v, rfl, _⟩ | ⟨z, rfl, _⟩ <;> rfl
  · have Th := throws_def (cm := true) (P := P) (w := w) (K := K) (mg := mg) (base := base) (N := ["text", "body"]) (qual := "read_row") (scope := defScope s_read_row) (f := f) (cd := cdv) (A := Ar) (outer := outer) (s := s) (H := H) (E := E)
    refine ⟨_, (W.h (w_pss_cons (w_ps_set (i := 1) sc_read_row.nd rfl (Or.inl rfl) (w_pe_g G_body_of hr rfl (w_pa_p (w_pv 0) w_pa_nil)))
      (w_pss_cons (w_ps_if (w_pt_cmpR op_isU (w_pv 1) w_pe_non (nomark _))
      (w_pss_one (w_ps_raisep rfl Th T.ek_NoRow rfl T.mg_NoRow (w_pa_p w_pe_str w_pa_nil)))
      w_pss_nil)
      (w_pss_one (w_ps_ret (w_pe_gX Th G_row_of hr rfl (w_pa_p (w_pe_b_split (w_pe_slice sl_U (w_pv 1) w_po_none (w_po_some (w_pe_un un_neg w_pe_int))) w_pe_str) w_pa_nil))))))), ?_⟩
    rcases h with ⟨v, rfl, tv, q⟩ | ⟨z, rfl, ha, hz, q, qn⟩
    case inl =>
      simp_all only []
      refine .inr ⟨v, rfl, tv, ?_⟩
      simp_all only []
      exact ⟨by decide, q⟩
    simp_all only []
    refine .inl ⟨z, rfl, ha, hz, fun H1 s1 => ?_⟩
    cases hb : bodyS z with
    | none =>
      simp_all only [optV]
      exact ⟨by decide, qn (by unfold readS; rw [hb]; rfl) H1 s1⟩
    | some b =>
      have eb : b = bodyAt z := by
        unfold bodyS at hb
        split at hb
        · exact (Option.some.inj hb).symm
        · cases hb
      obtain ⟨b1, b2⟩ := bodyAt_ok ha
      rw [← eb] at b1 b2
      have hs : readS z = rowS (PySem.Txt.split (PySem.Txt.slice b none (some (-1))) (c1 32)) := by unfold readS; rw [hb]; rfl
      have b3 : (PySem.Txt.slice b none (some (-1))).length ≤ b.length := PySem.Txt.slice_le _ _ _
      simp_all only [optV, sp32, big5 (Nat.le_trans (Nat.le_trans b2 hz) (by decide))]
      generalize hy : PySem.Txt.slice b none (some (-1)) = y at *
      have ya : asc y = true := by
        by_cases h0 : 0 < (sg b).length
        · rw [slice_but_last h0] at hy
          rw [← hy]
          exact asc_sub b1 fun c hc => (List.dropLast_sublist _).subset hc
        · rw [sg_len] at h0
          have : sg y = [] := List.eq_nil_of_length_eq_zero (by rw [sg_len]; omega)
          rw [asc_sg, this]; rfl
      have es := split_one y (c := 32) (by decide)
      obtain ⟨l1, l2⟩ := splitL_len 32 (sg y)
      rw [sg_len] at l1
      refine ⟨by decide, big5' (by omega), by rw [es, List.length_map]; exact big5 (by omega), fun p H2 n2 => ?_⟩
      refine ⟨p, PySem.Txt.split y (c1 32), rfl, n2.at_, ?_, by rw [es, List.length_map]; omega, fun u hu => ?_, fun xs hx p3 H3 s3 h3 => q xs (by rw [hs]; exact hx) p3 H3 ((s1.trans n2.same).trans s3) h3, fun hx H3 s3 => ⟨_, rfl, qn (by rw [hs]; exact hx) H3 ((s1.trans n2.same).trans s3)⟩⟩
      · rw [es]
        obtain ⟨a, r, e⟩ := splitL_ne 32 (sg y)
        rw [e]; simp
      · rw [es] at hu
        obtain ⟨v, hv, rfl⟩ := List.mem_map.mp hu
        refine ⟨asc_sub ya (splitL_mem hv), ?_⟩
        rw [tx_len]
        have := l2 v hv
        rw [sg_len] at this
        omega
end
abbrev s__law_at : Stmt := top 38
abbrev s__law_mixed : Stmt := top 39
abbrev s__law_row : Stmt := top 40
abbrev s__law_summed : Stmt := top 41
abbrev s__law_closed : Stmt := top 42
section
variable {P : Program} {w : World} {K : PySem.W.Frag} {mg : Str → Option Value} {base : Heap} {A : ClsA}
/-! ### the law's own readers -/
def atD (ns : List Int) (k : Int) : Int := if k < ns.length then ns.getD k.toNat 0 else 0
def spAt (K : PySem.W.Frag) : Sp := fun vs H Q _ => ∃ (a : Addr) (ns : List Int) (k : Int), vs = [.ref a, .int k] ∧ SqL K H a (ns.map V.int) ∧ 0 ≤ k ∧ Q (.int (atD ns k)) H
def spMixed : Sp := fun vs H Q _ => ∃ (n k : Int), vs = [.int n, .int k] ∧ ∀ r : Int, 1 ≤ r → r ≤ 2147483629 → Q (.int r) H
def spRow (K : PySem.W.Frag) : Sp := fun vs H Q _ => ∃ (a : Addr) (ns : List Int) (k m b : Int), vs = [.ref a, .int k, .int m, .int b] ∧ SqL K H a (ns.map V.int) ∧ 0 ≤ k ∧ 0 ≤ m ∧ m ≤ 1000 ∧ 0 < b ∧ b < 1073741824 ∧
  ∀ (l : Addr) (ds : List Int) (H' : Hp), Same H H' → H l = none → H' l = some (.lst (ds.map V.int)) → ds.length = m.toNat → (∀ d ∈ ds, 0 ≤ d ∧ d < b) → Q (.ref l) H'
theorem sc__law_at : FnScope ["_law_script", "_law_k"] ["_law_script", "_law_k"] (defScope s__law_at) := ⟨rfl, rfl, rfl, by decide +kernel, rfl, by decide +kernel, by decide +kernel⟩
theorem ok__law_at {f : Addr} {fd : FuncData} {cm : Bool} (F : Fun K "_law_at" "_law_at" s__law_at f fd) (T : Txt w K mg A) : FnOk P w K mg base CX0 cm 1 f fd ["_law_script", "_law_k"] (spAt K) := by
  refine F.ok sc__law_at (fun vs H Q E h => ?_) (fun cdv Ar outer s H vs Q E hr h => ?_)
  · obtain ⟨a, ns, k, rfl, _⟩ := h; rfl
  · obtain ⟨a, ns, k, rfl, hS, hk, q⟩ := h
    refine ⟨_, pss_cons (ps_if (pt_cmpR op_lt (pv 1) (pe_callB call_len_seq rfl T.n_len PySem.boot_len (pa_cons (pv 0) pa_nil)) (nomark _))
      (pss_one (ps_ret (pe_ix ix_list (pv 0) (pv 1) (fun _ _ => rfl)))) pss_nil) (pss_one (ps_ret pe_int)), ?_⟩
    simp_all only []
    refine ⟨_, .inl hS, ?_⟩
    rw [List.length_map]
    refine ite2 (fun h => ?_) (fun h => ?_)
    · have h' : k < (ns.length : Int) := of_decide_eq_true h
      have hn : k.toNat < ns.length := by omega
      have e : atD ns k = ns[k.toNat] := by unfold atD; rw [if_pos h', List.getD_eq_getElem?_getD, List.getElem?_eq_getElem hn]; rfl
      refine ⟨a, ns.map V.int, k, .int (ns[k.toNat]), rfl, rfl, hS, ?_, by rw [← e]; exact q⟩
      have z : atI (ns.map V.int) ((k.toNat : Nat) : Int) = some (.int (ns[k.toNat])) := atI_nat (by rw [List.getElem?_map, List.getElem?_eq_getElem hn]; rfl)
      have kz : ((k.toNat : Nat) : Int) = k := by omega
      rw [kz] at z; exact z
    · have h' : ¬ k < (ns.length : Int) := fun z => h (decide_eq_true z)
      have e : atD ns k = 0 := by unfold atD; rw [if_neg h']
      rw [← e]; exact q
theorem sc__law_mixed : FnScope ["_law_number", "_law_k"] ["_law_number", "_law_k"] (defScope s__law_mixed) := ⟨rfl, rfl, rfl, by decide +kernel, rfl, by decide +kernel, by decide +kernel⟩
theorem ok__law_mixed {f : Addr} {fd : FuncData} {cm : Bool} (F : Fun K "_law_mixed" "_law_mixed" s__law_mixed f fd) (T : Txt w K mg A) : FnOk P w K mg base CX0 cm 1 f fd ["_law_number", "_law_k"] spMixed := by
  refine F.ok sc__law_mixed (fun vs H Q E h => ?_) (fun cdv Ar outer s H vs Q E hr h => ?_)
  · obtain ⟨n, k, rfl, _⟩ := h; rfl
  · obtain ⟨n, k, rfl, q⟩ := h
    refine ⟨_, (W.h (w_pss_cons (w_ps_set (i := 0) sc__law_mixed.nd rfl (Or.inl rfl) (w_pe_op op_mod (w_pe_op op_addU (w_pe_op op_mod (w_pv 0) w_pe_int) (w_pe_op op_mulS w_pe_int (w_pe_op op_addU (w_pv 1) w_pe_int))) w_pe_int))
      (w_pss_one (w_ps_ret (w_pe_op op_addU w_pe_int (w_pe_op op_mod (w_pe_op op_addU (w_pe_op op_addU (w_pe_op op_mulS (w_pv 0) (w_pv 0)) (w_pe_op op_mulS w_pe_int (w_pv 0))) (w_pe_op op_mulS w_pe_int (w_pv 1))) w_pe_int)))))), ?_⟩
    simp_all only []
    generalize hm : (n % 2147483629 + 48271 * (k + 1)) % 2147483629 = m
    have m0 : 0 ≤ m := by omega
    have m1 : m < 2147483629 := by omega
    refine ⟨by decide, .inl ⟨by decide, by decide⟩, by decide, .inl ⟨by omega, by omega⟩, .inl ⟨by decide, by decide⟩, .inl ⟨by decide, by decide⟩, by decide, q _ ?_ ?_⟩ <;> omega
theorem sc__law_row : FnScope ["_law_script", "_law_k", "_law_many", "_law_base", "_law_left", "_law_found", "_law_turn"] ["_law_script", "_law_k", "_law_many", "_law_base"] (defScope s__law_row) := ⟨rfl, rfl, rfl, by decide +kernel, rfl, by decide +kernel, by decide +kernel⟩
structure RowInv (H : Hp) (l a : Addr) (k m b : Int) (i : Nat) (σ : L2.St) (H' : Hp) : Prop where
  ex : ∃ (left : Int) (ds : List Int) (tn : Option V), σ = [some (V.ref a), some (.int k), some (.int m), some (.int b), some (.int left), some (.ref l), tn] ∧
      Same H H' ∧ H' l = some (.lst (ds.map V.int)) ∧ ds.length = i ∧ ∀ d ∈ ds, 0 ≤ d ∧ d < b
theorem ok__law_row {f : Addr} {fd : FuncData} {cm : Bool} (F : Fun K "_law_row" "_law_row" s__law_row f fd) (T : Txt w K mg A) (G__law_at : GF P w K mg base true 1 "_law_at" ["_law_script", "_law_k"] (spAt K)) (G__law_mixed : GF P w K mg base true 1 "_law_mixed" ["_law_number", "_law_k"] spMixed) : FnOk P w K mg base CX0 true 2 f fd ["_law_script", "_law_k", "_law_many", "_law_base"] (spRow K) := by
  refine F.ok sc__law_row (fun vs H Q E h => ?_) (fun cdv Ar outer s H vs Q E hr h => ?_)
  · obtain ⟨a, ns, k, m, b, rfl, _⟩ := h; rfl
  · obtain ⟨a, ns, k, m, b, rfl, hS, hk, hm, hm2, hb, hb2, q⟩ := h
    refine ⟨_, (W.h (w_pss_cons (w_ps_set (i := 4) sc__law_row.nd rfl (Or.inl rfl) (w_pe_op op_sub (w_pe_g G__law_at hr rfl (w_pa_p (w_pv 0) (w_pa_p (w_pv 1) w_pa_nil))) (w_pe_op op_pow w_pe_int w_pe_int)))
      (w_pss_cons (w_ps_set (i := 5) sc__law_row.nd rfl (Or.inl rfl) (w_pe_lstA w_pa_nil))
      (w_pss_cons (w_ps_for PassesOwn.never (fun _ => rfl) (w_pi_range1p rfl T.n_range (w_pa_p (w_pv 2) w_pa_nil)) (w_pg_name (i := 6) sc__law_row.nd rfl (Or.inl rfl))
      (w_pss_cons (w_ps_if (w_pt_cmpR op_lt (w_pv 4) w_pe_int (nomark _))
      (w_pss_one (w_ps_set (i := 4) sc__law_row.nd rfl (Or.inl rfl) (w_pe_g G__law_mixed hr rfl (w_pa_p (w_pe_op op_addU (w_pe_g G__law_at hr rfl (w_pa_p (w_pv 0) (w_pa_p (w_pv 1) w_pa_nil))) (w_pe_op op_mulS w_pe_int (w_pe_g G__law_at hr rfl (w_pa_p (w_pv 0) (w_pa_p (w_pe_op op_addU (w_pv 1) (w_pe_op op_mod (w_pv 6) w_pe_int)) w_pa_nil))))) (w_pa_p (w_pe_op op_addU (w_pe_op op_mulS w_pe_int (w_pv 1)) (w_pv 6)) w_pa_nil)))))
      w_pss_nil)
      (w_pss_cons (w_ps_expr (w_pe_append (w_pv 5) (w_pe_op op_mod (w_pv 4) (w_pv 3))))
      (w_pss_one (w_ps_set (i := 4) sc__law_row.nd rfl (Or.inl rfl) (w_pe_op op_fdiv (w_pv 4) (w_pv 3)))))))
      (w_pss_one (w_ps_ret (w_pv 5))))))), ?_⟩
    simp_all only []
    refine ⟨a, ns, k, rfl, hS, hk, ?_⟩
    simp_all only []
    refine ⟨⟨by decide, by decide, by decide⟩, by decide, fun l H1 nl _ => ?_⟩
    have hl := nl.no
    refine ⟨by omega, by omega, ?_⟩
    have fin : ∀ (i : Nat) (H' : Hp) (x : Int) (ds : List Int), i < m.toNat → Same H H' → H' l = some (.lst (ds.map V.int)) → ds.length = i → (∀ d ∈ ds, 0 ≤ d ∧ d < b) →
        (List.map V.int ds).length < sizeLine ∧ CDiv x b ∧ RowInv H l a k m b (i + 1) [some (V.ref a), some (.int k), some (.int m), some (.int b), some (.int (x / b)), some (.ref l), some (.int (0 + i))] (upd H' l (.lst (ds.map V.int ++ [.int (x % b)]))) := by
      intro i H' x ds hi sm hl' hlen hds
      refine ⟨by rw [List.length_map]; exact small1000 (by omega), ⟨hb, hb2⟩, ⟨x / b, ds ++ [x % b], _, rfl, fun c o e => by rw [upd_ne (ne_of_none e hl)]; exact sm c o e, by rw [upd_same, List.map_append]; rfl, by simp [hlen], fun d hd => ?_⟩⟩
      rcases List.mem_append.mp hd with hd | hd
      · exact hds d hd
      · rw [List.mem_singleton] at hd
        subst hd
        exact ⟨Int.emod_nonneg _ (by omega), Int.emod_lt_of_pos _ hb⟩
    refine ForJ.rng (RowInv H l a k m b) ⟨⟨_, [], _, rfl, nl.same, nl.at_, rfl, by simp⟩⟩ ?_ ?_
    · rintro i σ H' hi ⟨⟨left, ds, tn, rfl, sm, hl', hlen, hds⟩⟩
      simp_all only [hl', hb, hb2]
      refine ite2 (fun _ => ?_) (fun _ => ?_)
      · refine ⟨a, ns, k, rfl, sm.seq hS, hk, ?_⟩
        simp_all only [hl', hb, hb2]
        refine ⟨by decide, a, ns, _, rfl, sm.seq hS, by omega, ?_⟩
        simp_all only [hl', hb, hb2]
        refine ⟨.inl ⟨by decide, by decide⟩, .inl ⟨by decide, by decide⟩, _, _, rfl, fun r _ _ => ?_⟩
        simp_all only [hl', hb, hb2]
        exact fin i H' r ds hi sm hl' hlen hds
      · exact fin i H' left ds hi sm hl' hlen hds
    · rintro σ H' ⟨⟨left, ds, tn, rfl, sm, hl', hlen, hds⟩⟩
      simp_all only []
      exact q l ds H' sm hl hl' hlen hds
theorem atI_mem {α : Type} {xs : List α} {i : Int} (h0 : 0 ≤ i) (h1 : i < xs.length) : ∃ v, atI xs i = some v ∧ v ∈ xs := by
  have hn : i.toNat < xs.length := by omega
  have z : atI xs ((i.toNat : Nat) : Int) = some xs[i.toNat] := atI_nat (List.getElem?_eq_getElem hn)
  rw [show ((i.toNat : Nat) : Int) = i by omega] at z
  exact ⟨_, z, List.getElem_mem hn⟩
structure SumLInv (H : Hp) (z : Str) (i : Nat) (σ : L2.St) (H' : Hp) : Prop where
  ex : ∃ a b, σ = [some (V.str z), some (.int (sumN 1 ((sg z).take i) : Nat)), a, b]
  same : Same H H'
theorem sc__law_summed : FnScope ["_law_text", "_law_found", "_law_k", "_law_sign"] ["_law_text"] (defScope s__law_summed) := ⟨rfl, rfl, rfl, by decide +kernel, rfl, by decide +kernel, by decide +kernel⟩
theorem ok__law_summed {f : Addr} {fd : FuncData} (F : Fun K "_law_summed" "_law_summed" s__law_summed f fd) (T : Txt w K mg A) : FnOk P w K mg base CX0 true 1 f fd ["_law_text"] spSum := by
  refine F.ok sc__law_summed (fun vs H Q E h => ?_) (fun cdv Ar outer s H vs Q E hr h => ?_)
  · obtain ⟨z, rfl, _⟩ := h; rfl
  · obtain ⟨z, rfl, ha, hz, q⟩ := h
    refine ⟨_, (W.h (w_pss_cons (w_ps_set (i := 1) sc__law_summed.nd rfl (Or.inl rfl) w_pe_int)
      (w_pss_cons (w_ps_for PassesOwn.never (fun _ => rfl) (w_pi_enumS rfl T.n_enumerate (w_pv 0)) (w_pg_tupA (n := 2) (w_pgs_cons (w_pg_name (i := 2) sc__law_summed.nd rfl (Or.inl rfl)) (w_pgs_cons (w_pg_name (i := 3) sc__law_summed.nd rfl (Or.inl rfl)) w_pgs_nil)))
      (w_pss_one (w_ps_set (i := 1) sc__law_summed.nd rfl (Or.inl rfl) (w_pe_op op_addU (w_pv 1) (w_pe_op op_mulS (w_pe_op op_addU (w_pv 2) w_pe_int) (w_pe_callBp call_ordU rfl T.n_ord boot_ord (w_pa_p (w_pv 3) w_pa_nil)))))))
      (w_pss_one (w_ps_ret (w_pe_op op_mod (w_pv 1) w_pe_int)))))), ?_⟩
    simp_all only []
    refine ⟨ha, ForJ.enumS (SumLInv H z) ⟨⟨_, _, rfl⟩, Same.refl _⟩ ?_ ?_⟩
    · rintro i c p σ H' hc ⟨⟨a, b, rfl⟩, sm⟩ hp
      have hc' : (sg z)[i]? = some c := by simpa [sg] using hc
      simp_all only []
      refine ⟨p, _, rfl, SqT.of upd_same, rfl, ?_⟩
      simp_all only []
      have hc2 : c < 128 := by
        have h3 := List.mem_of_getElem? hc'
        rw [asc_sg] at ha
        simpa using List.all_eq_true.mp ha c h3
      refine ⟨rfl, .inr ⟨by simp; omega, by simp; omega⟩, ⟨⟨some (.int ((i + 0 : Nat) : Int)), some (.str ⟨#[c]⟩), ?_⟩, ?_⟩⟩
      · rw [List.take_add_one, hc', sumN_append]
        have hi : i < (sg z).length := (List.getElem?_eq_some_iff.mp hc').1
        rw [List.length_take, Nat.min_eq_left (by omega)]
        simp [sumN]
        rw [Int.mul_comm, Int.add_comm 1 (i : Int)]
      · exact sm.trans fun b o e => by rw [upd_ne (ne_of_none e hp)]; exact e
    · rintro σ H' ⟨⟨a, b, rfl⟩, sm⟩
      simp_all only []
      refine ⟨by decide, ?_⟩
      have e : sumS z = ((sumN 1 ((sg z).take z.cps.size) : Nat) : Int) % 65521 := by
        unfold sumS
        rw [List.take_of_length_le (by rw [sg_len]; exact Nat.le_refl _)]
        omega
      rw [← e]
      exact q H' sm
theorem sc__law_closed : FnScope ["_law_ahead"] ["_law_ahead"] (defScope s__law_closed) := ⟨rfl, rfl, rfl, by decide +kernel, rfl, by decide +kernel, by decide +kernel⟩
theorem ok__law_closed {f : Addr} {fd : FuncData} (F : Fun K "_law_closed" "_law_closed" s__law_closed f fd) (T : Txt w K mg A) (G__law_summed : GF P w K mg base true 1 "_law_summed" ["_law_text"] spSum) : FnOk P w K mg base CX0 true 2 f fd ["_law_ahead"] spSummed := by
  refine F.ok sc__law_closed (fun vs H Q E h => ?_) (fun cdv Ar outer s H vs Q E hr h => ?_)
  · obtain ⟨z, rfl, _⟩ := h; rfl
  · obtain ⟨z, rfl, ha, hz, q⟩ := h
    refine ⟨_, (W.h (w_pss_one (w_ps_ret (w_pe_op op_addU (w_pe_op op_addU (w_pv 0) (w_pe_callTyp call_strB rfl T.n_str boot_str (w_pa_p (w_pe_g G__law_summed hr rfl (w_pa_p (w_pv 0) w_pa_nil)) w_pa_nil))) w_pe_str)))), ?_⟩
    simp_all only []
    have hs := sumS_lt z
    have hn := num_len hs.1 (by omega)
    refine ⟨z, rfl, ha, hz, fun H' s1 => ?_⟩
    simp_all only []
    have l1 : z.length + (toString (sumS z) : Str).length ≤ 1000000 := by omega
    have l2 : (z ++ (toString (sumS z) : Str)).length + (";" : Str).length ≤ 1000000 := by
      rw [Str.length_append]
      have : (";" : Str).length = 1 := by decide
      omega
    exact ⟨log_small (by omega), big5 l1, big5 l2, q H' s1⟩
end
abbrev s__law_bodies : Stmt := top 43
section
variable {P : Program} {w : World} {K : PySem.W.Frag} {mg : Str → Option Value} {base : Heap} {A : ClsA}
def spBodies (fb : Int → List Str) : Sp := fun vs H Q _ => ∃ far : Int, vs = [.int far] ∧ 0 ≤ far ∧ far < 10 ^ 9 ∧ ∀ l H', Same H H' → H l = none → H' l = some (.lst ((fb far).map V.str)) → Q (.ref l) H'
def bd0 : List Str := [("" : Str), (" " : Str), ("put " : Str), ("put 1 1 1 a 0 " : Str), ("put 1 1 1 a 0 w w " : Str), ("put 1 1 2 a 0 w " : Str), ("put 1 1 True a 0 w " : Str)]
def bd1 : List Str := [("put 1 1 01 a 0 w " : Str), ("put 01 1 1 a 0 w " : Str), ("put 1 -1 1 a 0 w " : Str), ("put 1 1 1 abcdefg 0 w " : Str)]
def bd2 : List Str := [("put 1 1 1 A 0 w " : Str), ("put 1 1 1 a1 0 w " : Str), ("put 1 1 1  0 w " : Str), ("put 1 1 1 a 0  " : Str), ("put 1 1 1 a x w " : Str)]
def bd3 : List Str := [((("put 1 1 1 a 0 " : Str) ++ (repS ("w" : Str) (Int.toNat 21))) ++ (" " : Str)), ("put 1 1 1 a 0 W " : Str), ("put 1 1 1 a 0 w-w " : Str), ("put  1 1 1 a 0 w " : Str)]
def bd4 : List Str := [(" put 1 1 1 a 0 w " : Str), ("put 1 1 1 a 0 w" : Str), ("Put 1 1 1 a 0 w " : Str)]
def bd5 (far : Int) : List Str := [((("put 1 1 1 a " : Str) ++ (toString ((10 : Int) ^ Int.toNat 18 + far) : Str)) ++ (" w " : Str)), ("hold -0 a " : Str)]
def bd6 : List Str := [("cut 1 a " : Str), ("cut 1 a 1 1 " : Str), ("cut a 1 1 " : Str), ("cut 1 a 1.0 " : Str), ("cut 1 a +1 " : Str), ("cut 1 a  " : Str), ("cut 1 1 a " : Str)]
def bd7 (far : Int) : List Str := [((("cut " : Str) ++ (toString ((10 : Int) ^ Int.toNat 18 + far) : Str)) ++ (" a 0 " : Str)), ("hold 1 " : Str), ("hold a " : Str), ("hold 1 a a " : Str), ("hold 1 ab9 " : Str)]
def bd8 : List Str := [("1 2 3 " : Str), ("free 1 " : Str), ("free 00 a " : Str), ("free 1 a 1 " : Str), ("Free 1 a " : Str), ("carry 1 2 " : Str), ("carry 1 2 w w " : Str)]
def bd9 : List Str := [("carry 1 x w " : Str)]
def bd10 : List Str := [("carry 1 02 w " : Str), ("carry 1 2 w_ " : Str), ((("carry 1 2 " : Str) ++ (repS ("9" : Str) (Int.toNat 21))) ++ (" " : Str)), ("carry  2 w " : Str), ("mark 1 2 " : Str)]
def bd11 : List Str := [("hold 1 a\n " : Str), ("cut 1 a 1e0 " : Str), ("cut 1 a 1_0 " : Str), ("put 1 1 1 a 0 w~ " : Str)]
def bodies (far : Int) : List Str := (((((((((((bd0 ++ bd1) ++ bd2) ++ bd3) ++ bd4) ++ bd5 far) ++ bd6) ++ bd7 far) ++ bd8) ++ bd9) ++ bd10) ++ bd11)
theorem far_len {far : Int} (f0 : 0 ≤ far) (f1 : far < 10 ^ 9) : (toString ((10 : Int) ^ Int.toNat 18 + far) : Str).length ≤ 20 := by
  have e18 : (10 : Int) ^ Int.toNat 18 = 1000000000000000000 := rfl
  rw [e18]
  have e := int_text_length_le10 (a := 1000000000000000000 + far) (k := 19) (by decide) (by omega)
  show (Str.ofString (toString (1000000000000000000 + far))).length ≤ 20
  rw [PySem.ofString_length]
  exact e
theorem sc__law_bodies : FnScope ["_law_far", "_law_some"] ["_law_far"] (defScope s__law_bodies) := ⟨rfl, rfl, rfl, by decide +kernel, rfl, by decide +kernel, by decide +kernel⟩
theorem ok__law_bodies {f : Addr} {fd : FuncData} (F : Fun K "_law_bodies" "_law_bodies" s__law_bodies f fd) (T : Txt w K mg A) : FnOk P w K mg base CX0 true 1 f fd ["_law_far"] (spBodies bodies) := by
  refine F.ok sc__law_bodies (fun vs H Q E h => ?_) (fun cdv Ar outer s H vs Q E hr h => ?_)
  · obtain ⟨z, rfl, _⟩ := h; rfl
  · obtain ⟨far, rfl, f0, f1, q⟩ := h
    have fl := far_len f0 f1
    have e18 : (10 : Int) ^ Int.toNat 18 = 1000000000000000000 := rfl
    have k1 : ("put 1 1 1 a " : Str).length = 12 := by decide
    have k2 : (" w " : Str).length = 3 := by decide
    have k3 : ("cut " : Str).length = 4 := by decide
    have k4 : (" a 0 " : Str).length = 5 := by decide
    refine ⟨_, (W.h (w_pss_cons (w_ps_set (i := 1) sc__law_bodies.nd rfl (Or.inl rfl) (w_pe_lstA (w_pa_p w_pe_str (w_pa_p w_pe_str (w_pa_p w_pe_str (w_pa_p w_pe_str (w_pa_p w_pe_str (w_pa_p w_pe_str (w_pa_p w_pe_str w_pa_nil)))))))))
      (w_pss_cons (w_ps_set (i := 1) sc__law_bodies.nd rfl (Or.inl rfl) (w_pe_op op_addU (w_pv 1) (w_pe_lstA (w_pa_p w_pe_str (w_pa_p w_pe_str (w_pa_p w_pe_str (w_pa_p w_pe_str w_pa_nil)))))))
      (w_pss_cons (w_ps_set (i := 1) sc__law_bodies.nd rfl (Or.inl rfl) (w_pe_op op_addU (w_pv 1) (w_pe_lstA (w_pa_p w_pe_str (w_pa_p w_pe_str (w_pa_p w_pe_str (w_pa_p w_pe_str (w_pa_p w_pe_str w_pa_nil))))))))
      (w_pss_cons (w_ps_set (i := 1) sc__law_bodies.nd rfl (Or.inl rfl) (w_pe_op op_addU (w_pv 1) (w_pe_lstA (w_pa_p (w_pe_op op_addU (w_pe_op op_addU w_pe_str (w_pe_op op_mulS w_pe_str w_pe_int)) w_pe_str) (w_pa_p w_pe_str (w_pa_p w_pe_str (w_pa_p w_pe_str w_pa_nil)))))))
      (w_pss_cons (w_ps_set (i := 1) sc__law_bodies.nd rfl (Or.inl rfl) (w_pe_op op_addU (w_pv 1) (w_pe_lstA (w_pa_p w_pe_str (w_pa_p w_pe_str (w_pa_p w_pe_str w_pa_nil))))))
      (w_pss_cons (w_ps_set (i := 1) sc__law_bodies.nd rfl (Or.inl rfl) (w_pe_op op_addU (w_pv 1) (w_pe_lstA (w_pa_p (w_pe_op op_addU (w_pe_op op_addU w_pe_str (w_pe_callTyp call_strB rfl T.n_str boot_str (w_pa_p (w_pe_op op_addU (w_pe_op op_pow w_pe_int w_pe_int) (w_pv 0)) w_pa_nil))) w_pe_str) (w_pa_p w_pe_str w_pa_nil)))))
      (w_pss_cons (w_ps_set (i := 1) sc__law_bodies.nd rfl (Or.inl rfl) (w_pe_op op_addU (w_pv 1) (w_pe_lstA (w_pa_p w_pe_str (w_pa_p w_pe_str (w_pa_p w_pe_str (w_pa_p w_pe_str (w_pa_p w_pe_str (w_pa_p w_pe_str (w_pa_p w_pe_str w_pa_nil))))))))))
      (w_pss_cons (w_ps_set (i := 1) sc__law_bodies.nd rfl (Or.inl rfl) (w_pe_op op_addU (w_pv 1) (w_pe_lstA (w_pa_p (w_pe_op op_addU (w_pe_op op_addU w_pe_str (w_pe_callTyp call_strB rfl T.n_str boot_str (w_pa_p (w_pe_op op_addU (w_pe_op op_pow w_pe_int w_pe_int) (w_pv 0)) w_pa_nil))) w_pe_str) (w_pa_p w_pe_str (w_pa_p w_pe_str (w_pa_p w_pe_str (w_pa_p w_pe_str w_pa_nil))))))))
      (w_pss_cons (w_ps_set (i := 1) sc__law_bodies.nd rfl (Or.inl rfl) (w_pe_op op_addU (w_pv 1) (w_pe_lstA (w_pa_p w_pe_str (w_pa_p w_pe_str (w_pa_p w_pe_str (w_pa_p w_pe_str (w_pa_p w_pe_str (w_pa_p w_pe_str (w_pa_p w_pe_str w_pa_nil))))))))))
      (w_pss_cons (w_ps_set (i := 1) sc__law_bodies.nd rfl (Or.inl rfl) (w_pe_op op_addU (w_pv 1) (w_pe_lstA (w_pa_p w_pe_str w_pa_nil))))
      (w_pss_cons (w_ps_set (i := 1) sc__law_bodies.nd rfl (Or.inl rfl) (w_pe_op op_addU (w_pv 1) (w_pe_lstA (w_pa_p w_pe_str (w_pa_p w_pe_str (w_pa_p (w_pe_op op_addU (w_pe_op op_addU w_pe_str (w_pe_op op_mulS w_pe_str w_pe_int)) w_pe_str) (w_pa_p w_pe_str (w_pa_p w_pe_str w_pa_nil))))))))
      (w_pss_one (w_ps_ret (w_pe_op op_addU (w_pv 1) (w_pe_lstA (w_pa_p w_pe_str (w_pa_p w_pe_str (w_pa_p w_pe_str (w_pa_p w_pe_str w_pa_nil)))))))))))))))))))), ?_⟩
    simp_all only []
    refine ⟨by decide, fun p0 H0 n0 _ => ?_⟩
    have s0 := n0.same
    refine ⟨by decide, fun r1 G1 m1 _ => ⟨_, m1.same _ _ n0.at_, _, m1.at_, big5 (by simp), fun p1 H1 n1 => ?_⟩⟩
    have s1 := (s0.trans m1.same).trans n1.same
    refine ⟨by decide, fun r2 G2 m2 _ => ⟨_, m2.same _ _ n1.at_, _, m2.at_, big5 (by simp), fun p2 H2 n2 => ?_⟩⟩
    have s2 := (s1.trans m2.same).trans n2.same
    refine ⟨by decide, by decide, by decide, by decide, (by first | decide | exact big5 (by omega) | (rw [Str.length_append]; exact big5 (by omega))), (by first | decide | exact big5 (by omega) | (rw [Str.length_append]; exact big5 (by omega))), by decide, fun r3 G3 m3 _ => ⟨_, m3.same _ _ n2.at_, _, m3.at_, big5 (by simp), fun p3 H3 n3 => ?_⟩⟩
    have s3 := (s2.trans m3.same).trans n3.same
    refine ⟨by decide, fun r4 G4 m4 _ => ⟨_, m4.same _ _ n3.at_, _, m4.at_, big5 (by simp), fun p4 H4 n4 => ?_⟩⟩
    have s4 := (s3.trans m4.same).trans n4.same
    refine ⟨⟨by decide, by decide, by decide⟩, log_small (by omega), (by first | decide | exact big5 (by omega) | (rw [Str.length_append]; exact big5 (by omega))), (by first | decide | exact big5 (by omega) | (rw [Str.length_append]; exact big5 (by omega))), by decide, fun r5 G5 m5 _ => ⟨_, m5.same _ _ n4.at_, _, m5.at_, big5 (by simp), fun p5 H5 n5 => ?_⟩⟩
    have s5 := (s4.trans m5.same).trans n5.same
    refine ⟨by decide, fun r6 G6 m6 _ => ⟨_, m6.same _ _ n5.at_, _, m6.at_, big5 (by simp), fun p6 H6 n6 => ?_⟩⟩
    have s6 := (s5.trans m6.same).trans n6.same
    refine ⟨⟨by decide, by decide, by decide⟩, log_small (by omega), (by first | decide | exact big5 (by omega) | (rw [Str.length_append]; exact big5 (by omega))), (by first | decide | exact big5 (by omega) | (rw [Str.length_append]; exact big5 (by omega))), by decide, fun r7 G7 m7 _ => ⟨_, m7.same _ _ n6.at_, _, m7.at_, big5 (by simp), fun p7 H7 n7 => ?_⟩⟩
    have s7 := (s6.trans m7.same).trans n7.same
    refine ⟨by decide, fun r8 G8 m8 _ => ⟨_, m8.same _ _ n7.at_, _, m8.at_, big5 (by simp), fun p8 H8 n8 => ?_⟩⟩
    have s8 := (s7.trans m8.same).trans n8.same
    refine ⟨by decide, fun r9 G9 m9 _ => ⟨_, m9.same _ _ n8.at_, _, m9.at_, big5 (by simp), fun p9 H9 n9 => ?_⟩⟩
    have s9 := (s8.trans m9.same).trans n9.same
    refine ⟨by decide, by decide, by decide, by decide, (by first | decide | exact big5 (by omega) | (rw [Str.length_append]; exact big5 (by omega))), (by first | decide | exact big5 (by omega) | (rw [Str.length_append]; exact big5 (by omega))), by decide, fun r10 G10 m10 _ => ⟨_, m10.same _ _ n9.at_, _, m10.at_, big5 (by simp), fun p10 H10 n10 => ?_⟩⟩
    have s10 := (s9.trans m10.same).trans n10.same
    refine ⟨by decide, fun r11 G11 m11 _ => ⟨_, m11.same _ _ n10.at_, _, m11.at_, big5 (by simp), fun p11 H11 n11 => ?_⟩⟩
    have s11 := (s10.trans m11.same).trans n11.same
    exact q p11 H11 s11 ((s10.trans m11.same).free n11.no) n11.at_
end
abbrev s__law_sums : Stmt := top 44
abbrev s__law_things : Stmt := top 45
section
variable {P : Program} {w : World} {K : PySem.W.Frag} {mg : Str → Option Value} {base : Heap} {A : ClsA}
def goodS (far : Int) : Str := "cut 3 a " ++ (toString (far % 1000) : Str) ++ " "
theorem good_ok (far : Int) : (goodS far).length ≤ 40 ∧ asc (goodS far) = true := by
  have F := numF (i := far % 1000) (by omega) (by omega)
  have e1 : ("cut 3 a " : Str).length = 8 := by decide
  have e2 : (" " : Str).length = 1 := by decide
  unfold goodS
  refine ⟨by rw [Str.length_append, Str.length_append, ← sg_len (toString (far % 1000) : Str)]; have := F.most; omega, ?_⟩
  rw [asc_sg, sg_append, sg_append, List.all_append, List.all_append]
  have : (sg (toString (far % 1000) : Str)).all (· < 128) = true := by
    rw [List.all_eq_true]
    exact fun c hc => decide_eq_true (by have := F.dig c hc; omega)
  rw [this]
  decide +kernel
def sm0 (far : Int) : List Str := [(((goodS far) ++ (toString (sumS (goodS far) + 65521) : Str)) ++ (";" : Str)), ((((goodS far) ++ ("0" : Str)) ++ (toString (sumS (goodS far)) : Str)) ++ (";" : Str)), (((goodS far) ++ (toString ((sumS (goodS far) + 1) % 65521) : Str)) ++ (";" : Str))]
def sm1 (far : Int) : List Str := [((goodS far) ++ (toString (sumS (goodS far)) : Str)), ((goodS far) ++ (";" : Str)), (((goodS far) ++ (toString (sumS (goodS far)) : Str)) ++ (" ;" : Str)), ((((goodS far) ++ (" " : Str)) ++ (toString (sumS (goodS far)) : Str)) ++ (";" : Str))]
def sm2 (far : Int) : List Str := [(((((goodS far) ++ (PySem.Txt.slice (toString (sumS (goodS far)) : Str) none (some 1))) ++ ("_" : Str)) ++ (PySem.Txt.slice (toString (sumS (goodS far)) : Str) (some 1) none)) ++ (";" : Str))]
def sm3 (far : Int) : List Str := [(((goodS far) ++ (toString (sumS (goodS far)) : Str)) ++ ("\n;" : Str)), ((((goodS far) ++ ("\n" : Str)) ++ (toString (sumS (goodS far)) : Str)) ++ (";" : Str))]
def sm4 (far : Int) : List Str := [((((goodS far) ++ ("-" : Str)) ++ (toString (sumS (goodS far)) : Str)) ++ (";" : Str)), ((((goodS far) ++ ("+" : Str)) ++ (toString (sumS (goodS far)) : Str)) ++ (";" : Str)), ((toString (sumS (goodS far)) : Str) ++ (";" : Str)), (";" : Str)]
def sums (far : Int) : List Str := ((((sm0 far ++ sm1 far) ++ sm2 far) ++ sm3 far) ++ sm4 far)
theorem sc__law_sums : FnScope ["_law_far", "_law_good", "_law_due", "_law_some"] ["_law_far"] (defScope s__law_sums) := ⟨rfl, rfl, rfl, by decide +kernel, rfl, by decide +kernel, by decide +kernel⟩
theorem ok__law_sums {f : Addr} {fd : FuncData} (F : Fun K "_law_sums" "_law_sums" s__law_sums f fd) (T : Txt w K mg A) (G__law_summed : GF P w K mg base true 1 "_law_summed" ["_law_text"] spSum) : FnOk P w K mg base CX0 true 2 f fd ["_law_far"] (spBodies sums) := by
  refine F.ok sc__law_sums (fun vs H Q E h => ?_) (fun cdv Ar outer s H vs Q E hr h => ?_)
  · obtain ⟨z, rfl, _⟩ := h; rfl
  · obtain ⟨far, rfl, f0, f1, q⟩ := h
    obtain ⟨gl, ga⟩ := good_ok far
    have hs := sumS_lt (goodS far)
    have d1 := num_len hs.1 (by omega)
    have d2 := num_len (i := sumS (goodS far) + 65521) (by omega) (by omega)
    have d3 := num_len (i := (sumS (goodS far) + 1) % 65521) (by omega) (by omega)
    have d4 := PySem.Txt.slice_le (toString (sumS (goodS far)) : Str) none (some 1)
    have d5 := PySem.Txt.slice_le (toString (sumS (goodS far)) : Str) (some 1) none
    have d6 := num_len (i := far % 1000) (by omega) (by omega)
    have k1 : ("cut 3 a " : Str).length = 8 := by decide
    have c0 : (";" : Str).length = 1 := by decide
    have c1 : ("0" : Str).length = 1 := by decide
    have c2 : (" " : Str).length = 1 := by decide
    have c3 : ("_" : Str).length = 1 := by decide
    have c4 : (" ;" : Str).length = 2 := by decide
    have c5 : ("\n;" : Str).length = 2 := by decide
    have c6 : ("\n" : Str).length = 1 := by decide
    have c7 : ("-" : Str).length = 1 := by decide
    have c8 : ("+" : Str).length = 1 := by decide
    refine ⟨_, (W.h (w_pss_cons (w_ps_set (i := 1) sc__law_sums.nd rfl (Or.inl rfl) (w_pe_op op_addU (w_pe_op op_addU w_pe_str (w_pe_callTyp call_strB rfl T.n_str boot_str (w_pa_p (w_pe_op op_mod (w_pv 0) w_pe_int) w_pa_nil))) w_pe_str))
      (w_pss_cons (w_ps_set (i := 2) sc__law_sums.nd rfl (Or.inl rfl) (w_pe_g G__law_summed hr rfl (w_pa_p (w_pv 1) w_pa_nil)))
      (w_pss_cons (w_ps_set (i := 3) sc__law_sums.nd rfl (Or.inl rfl) (w_pe_lstA (w_pa_p (w_pe_op op_addU (w_pe_op op_addU (w_pv 1) (w_pe_callTyp call_strB rfl T.n_str boot_str (w_pa_p (w_pe_op op_addU (w_pv 2) w_pe_int) w_pa_nil))) w_pe_str) (w_pa_p (w_pe_op op_addU (w_pe_op op_addU (w_pe_op op_addU (w_pv 1) w_pe_str) (w_pe_callTyp call_strB rfl T.n_str boot_str (w_pa_p (w_pv 2) w_pa_nil))) w_pe_str) (w_pa_p (w_pe_op op_addU (w_pe_op op_addU (w_pv 1) (w_pe_callTyp call_strB rfl T.n_str boot_str (w_pa_p (w_pe_op op_mod (w_pe_op op_addU (w_pv 2) w_pe_int) w_pe_int) w_pa_nil))) w_pe_str) w_pa_nil)))))
      (w_pss_cons (w_ps_set (i := 3) sc__law_sums.nd rfl (Or.inl rfl) (w_pe_op op_addU (w_pv 3) (w_pe_lstA (w_pa_p (w_pe_op op_addU (w_pv 1) (w_pe_callTyp call_strB rfl T.n_str boot_str (w_pa_p (w_pv 2) w_pa_nil))) (w_pa_p (w_pe_op op_addU (w_pv 1) w_pe_str) (w_pa_p (w_pe_op op_addU (w_pe_op op_addU (w_pv 1) (w_pe_callTyp call_strB rfl T.n_str boot_str (w_pa_p (w_pv 2) w_pa_nil))) w_pe_str) (w_pa_p (w_pe_op op_addU (w_pe_op op_addU (w_pe_op op_addU (w_pv 1) w_pe_str) (w_pe_callTyp call_strB rfl T.n_str boot_str (w_pa_p (w_pv 2) w_pa_nil))) w_pe_str) w_pa_nil)))))))
      (w_pss_cons (w_ps_set (i := 3) sc__law_sums.nd rfl (Or.inl rfl) (w_pe_op op_addU (w_pv 3) (w_pe_lstA (w_pa_p (w_pe_op op_addU (w_pe_op op_addU (w_pe_op op_addU (w_pe_op op_addU (w_pv 1) (w_pe_slice sl_U (w_pe_callTyp call_strB rfl T.n_str boot_str (w_pa_p (w_pv 2) w_pa_nil)) w_po_none (w_po_some w_pe_int))) w_pe_str) (w_pe_slice sl_U (w_pe_callTyp call_strB rfl T.n_str boot_str (w_pa_p (w_pv 2) w_pa_nil)) (w_po_some w_pe_int) w_po_none)) w_pe_str) w_pa_nil))))
      (w_pss_cons (w_ps_set (i := 3) sc__law_sums.nd rfl (Or.inl rfl) (w_pe_op op_addU (w_pv 3) (w_pe_lstA (w_pa_p (w_pe_op op_addU (w_pe_op op_addU (w_pv 1) (w_pe_callTyp call_strB rfl T.n_str boot_str (w_pa_p (w_pv 2) w_pa_nil))) w_pe_str) (w_pa_p (w_pe_op op_addU (w_pe_op op_addU (w_pe_op op_addU (w_pv 1) w_pe_str) (w_pe_callTyp call_strB rfl T.n_str boot_str (w_pa_p (w_pv 2) w_pa_nil))) w_pe_str) w_pa_nil)))))
      (w_pss_one (w_ps_ret (w_pe_op op_addU (w_pv 3) (w_pe_lstA (w_pa_p (w_pe_op op_addU (w_pe_op op_addU (w_pe_op op_addU (w_pv 1) w_pe_str) (w_pe_callTyp call_strB rfl T.n_str boot_str (w_pa_p (w_pv 2) w_pa_nil))) w_pe_str) (w_pa_p (w_pe_op op_addU (w_pe_op op_addU (w_pe_op op_addU (w_pv 1) w_pe_str) (w_pe_callTyp call_strB rfl T.n_str boot_str (w_pa_p (w_pv 2) w_pa_nil))) w_pe_str) (w_pa_p (w_pe_op op_addU (w_pe_callTyp call_strB rfl T.n_str boot_str (w_pa_p (w_pv 2) w_pa_nil)) w_pe_str) (w_pa_p w_pe_str w_pa_nil))))))))))))))), ?_⟩
    simp_all only []
    refine ⟨by decide, log_small (by omega), (by first | exact big5 (by omega) | (simp only [Str.length_append]; exact big5 (by omega))), (by first | exact big5 (by omega) | (simp only [Str.length_append]; exact big5 (by omega))), goodS far, rfl, ga, by omega, fun Hs sg0 => ?_⟩
    simp_all only []
    have eg : "cut 3 a " ++ (toString (far % 1000) : Str) ++ " " = goodS far := rfl
    simp only [eg]
    refine ⟨log_small (by omega), (by first | exact big5 (by omega) | (simp only [Str.length_append]; exact big5 (by omega))), (by first | exact big5 (by omega) | (simp only [Str.length_append]; exact big5 (by omega))), (by first | exact big5 (by omega) | (simp only [Str.length_append]; exact big5 (by omega))), log_small (by omega), (by first | exact big5 (by omega) | (simp only [Str.length_append]; exact big5 (by omega))), (by first | exact big5 (by omega) | (simp only [Str.length_append]; exact big5 (by omega))), by decide, log_small (by omega), (by first | exact big5 (by omega) | (simp only [Str.length_append]; exact big5 (by omega))), (by first | exact big5 (by omega) | (simp only [Str.length_append]; exact big5 (by omega))), by decide, fun p0 H0 n0 _ => ?_⟩
    have s0 := sg0.trans n0.same
    refine ⟨log_small (by omega), (by first | exact big5 (by omega) | (simp only [Str.length_append]; exact big5 (by omega))), (by first | exact big5 (by omega) | (simp only [Str.length_append]; exact big5 (by omega))), log_small (by omega), (by first | exact big5 (by omega) | (simp only [Str.length_append]; exact big5 (by omega))), (by first | exact big5 (by omega) | (simp only [Str.length_append]; exact big5 (by omega))), (by first | exact big5 (by omega) | (simp only [Str.length_append]; exact big5 (by omega))), log_small (by omega), (by first | exact big5 (by omega) | (simp only [Str.length_append]; exact big5 (by omega))), (by first | exact big5 (by omega) | (simp only [Str.length_append]; exact big5 (by omega))), by decide, fun r1 G1 m1 _ => ⟨_, m1.same _ _ n0.at_, _, m1.at_, big5 (by simp), fun p1 H1 n1 => ?_⟩⟩
    have s1 := (s0.trans m1.same).trans n1.same
    refine ⟨log_small (by omega), (by first | exact big5 (by omega) | (simp only [Str.length_append]; exact big5 (by omega))), (by first | exact big5 (by omega) | (simp only [Str.length_append]; exact big5 (by omega))), (by first | exact big5 (by omega) | (simp only [Str.length_append]; exact big5 (by omega))), log_small (by omega), (by first | exact big5 (by omega) | (simp only [Str.length_append]; exact big5 (by omega))), (by first | exact big5 (by omega) | (simp only [Str.length_append]; exact big5 (by omega))), (by first | exact big5 (by omega) | (simp only [Str.length_append]; exact big5 (by omega))), by decide, fun r2 G2 m2 _ => ⟨_, m2.same _ _ n1.at_, _, m2.at_, big5 (by simp), fun p2 H2 n2 => ?_⟩⟩
    have s2 := (s1.trans m2.same).trans n2.same
    refine ⟨log_small (by omega), (by first | exact big5 (by omega) | (simp only [Str.length_append]; exact big5 (by omega))), (by first | exact big5 (by omega) | (simp only [Str.length_append]; exact big5 (by omega))), (by first | exact big5 (by omega) | (simp only [Str.length_append]; exact big5 (by omega))), log_small (by omega), (by first | exact big5 (by omega) | (simp only [Str.length_append]; exact big5 (by omega))), (by first | exact big5 (by omega) | (simp only [Str.length_append]; exact big5 (by omega))), by decide, fun r3 G3 m3 _ => ⟨_, m3.same _ _ n2.at_, _, m3.at_, big5 (by simp), fun p3 H3 n3 => ?_⟩⟩
    have s3 := (s2.trans m3.same).trans n3.same
    refine ⟨(by first | exact big5 (by omega) | (simp only [Str.length_append]; exact big5 (by omega))), log_small (by omega), (by first | exact big5 (by omega) | (simp only [Str.length_append]; exact big5 (by omega))), (by first | exact big5 (by omega) | (simp only [Str.length_append]; exact big5 (by omega))), (by first | exact big5 (by omega) | (simp only [Str.length_append]; exact big5 (by omega))), log_small (by omega), (by first | exact big5 (by omega) | (simp only [Str.length_append]; exact big5 (by omega))), (by first | exact big5 (by omega) | (simp only [Str.length_append]; exact big5 (by omega))), log_small (by omega), (by first | exact big5 (by omega) | (simp only [Str.length_append]; exact big5 (by omega))), by decide, fun r4 G4 m4 _ => ⟨_, m4.same _ _ n3.at_, _, m4.at_, big5 (by simp), fun p4 H4 n4 => ?_⟩⟩
    have s4 := (s3.trans m4.same).trans n4.same
    exact q p4 H4 s4 ((s3.trans m4.same).free n4.no) n4.at_
end
section
variable {P : Program} {w : World} {K : PySem.W.Frag} {mg : Str → Option Value} {base : Heap} {A : ClsA}
/-- what is told of a thing stays, and is told alike -/
def Shows (H : Hp) (v : V) : Prop := ∃ t : Str, ∀ (A' : Around) (H' : Hp) (Q : VK), Same H H' → A'.units + 5 < cLine → Q (.str t) H' → rReprV A' [v] H' Q
structure Bad (H : Hp) (v : V) : Prop where
  shows : Shows H v
  no : (∃ z, v = .str z ∧ asc z = true ∧ z.length ≤ 100000 ∧ readS z = none) ∨ Thing H v
def spThings : Sp := fun vs H Q _ => ∃ far : Int, vs = [.int far] ∧ 0 ≤ far ∧ far < 10 ^ 9 ∧ ∀ l xs H', Same H H' → H l = none → H' l = some (.lst xs) → xs.length = 9 → (∀ v ∈ xs, Bad H' v) → Q (.ref l) H'
theorem shows_str {H : Hp} {z : Str} (ha : asc z = true) (hz : z.length ≤ 100000) : Shows H (.str z) := by
  refine ⟨(PyData.str z).shown, fun A' H' Q _ _ q => .inr (.inl ⟨z, rfl, ?_, q⟩)⟩
  have := PyData.shown_le 20 (by decide) (.str z) (by
    simp only [PyData.leavesShort]
    rw [List.all_eq_true]
    exact fun c hc => decide_eq_true (by have := asc_mem ha (c := c) hc; omega))
  simp only [PyData.weight] at this
  have hz' : z.cps.size ≤ 100000 := hz
  exact Nat.le_trans this (Nat.le_trans (show (20 + 2) * z.cps.size + 20 ≤ 2200020 by omega) (by decide))
theorem shows_int {H : Hp} {i : Int} (h : i.natAbs < 2 ^ 64) : Shows H (.int i) := ⟨_, fun A' H' Q _ _ q => .inr (.inr (.inl ⟨i, rfl, log_small h, q⟩))⟩
theorem shows_bl {H : Hp} {b : Bool} : Shows H (.bl b) := ⟨_, fun A' H' Q _ _ q => .inr (.inr (.inr (.inl ⟨b, rfl, q⟩)))⟩
theorem shows_non {H : Hp} : Shows H .non := ⟨_, fun A' H' Q _ _ q => .inr (.inr (.inr (.inr ⟨rfl, q⟩)))⟩
mutual
theorem DatV.same {H H' : Hp} (s : Same H H') : ∀ {v : V} {d : PyData}, DatV H v d → DatV H' v d
  | _, _, .non => .non
  | _, _, .bl b => .bl b
  | _, _, .int i => .int i
  | _, _, .str x => .str x
  | _, _, .lst na h ds => .lst na (s _ _ h) (DatVs.same s ds)
  | _, _, .tup h ds => .tup (s _ _ h) (DatVs.same s ds)
  | _, _, .dic h => .dic (s _ _ h)
theorem DatVs.same {H H' : Hp} (s : Same H H') : ∀ {v : List V} {d : List PyData}, DatVs H v d → DatVs H' v d
  | _, _, .nil => .nil
  | _, _, .cons h hs => .cons (DatV.same s h) (DatVs.same s hs)
end
theorem shows_dat {H : Hp} {a : Addr} {d : PyData} (h : DatV H (.ref a) d) (h1 : d.showable = true) (h2 : d.depth ≤ 3) (h3 : d.shown.length ≤ sizeLine) : Shows H (.ref a) :=
  ⟨d.shown, fun A' H' Q s hu q => .inl ⟨a, d, rfl, DatV.same s h, h1, by omega, h3, q⟩⟩
theorem shown_small {d : PyData} (h : d.leavesShort 20 = true) (hw : d.weight ≤ 10000) : d.shown.length ≤ sizeLine := by
  have := PyData.shown_le 20 (by decide) d h
  exact big5 (by omega)
theorem sc__law_things : FnScope ["_law_far"] ["_law_far"] (defScope s__law_things) := ⟨rfl, rfl, rfl, by decide +kernel, rfl, by decide +kernel, by decide +kernel⟩
theorem ok__law_things {f : Addr} {fd : FuncData} (F : Fun K "_law_things" "_law_things" s__law_things f fd) (T : Txt w K mg A) (G__law_closed : GF P w K mg base true 2 "_law_closed" ["_law_ahead"] spSummed) : FnOk P w K mg base CX0 true 3 f fd ["_law_far"] spThings := by
  refine F.ok sc__law_things (fun vs H Q E h => ?_) (fun cdv Ar outer s H vs Q E hr h => ?_)
  · obtain ⟨z, rfl, _⟩ := h; rfl
  · obtain ⟨far, rfl, f0, f1, q⟩ := h
    refine ⟨_, (W.h (w_pss_one (w_ps_ret (w_pe_lstA (w_pa_p w_pe_non (w_pa_p (w_pv 0) (w_pa_p w_pe_bl (w_pa_p (w_pe_lstA (w_pa_p w_pe_str (w_pa_p w_pe_int (w_pa_p w_pe_str (w_pa_p w_pe_int w_pa_nil))))) (w_pa_p (w_pe_tupA (w_pa_p w_pe_str (w_pa_p w_pe_int (w_pa_p w_pe_str w_pa_nil)))) (w_pa_p w_pe_dnewA (w_pa_p (w_pe_lstA (w_pa_p (w_pe_g G__law_closed hr rfl (w_pa_p w_pe_str w_pa_nil)) w_pa_nil)) (w_pa_p (w_pe_tupA w_pa_nil) (w_pa_p (w_pe_op op_mulS (w_pv 0) (w_pe_op op_pow w_pe_int w_pe_int)) w_pa_nil))))))))))))), ?_⟩
    simp_all only []
    have e8 : (10 : Int) ^ Int.toNat 8 = 100000000 := rfl
    rw [e8]
    refine ⟨by decide, fun p1 H1 n1 z1 => ⟨by decide, fun p2 H2 n2 => fun p3 H3 n3 => ⟨_, rfl, by rw [asc_sg]; decide +kernel, by decide, fun H4 s4 => ?_⟩⟩⟩
    simp_all only []
    refine ⟨by decide, fun p5 H5 n5 z5 => ⟨by decide, fun p6 H6 n6 => ⟨⟨by decide, by decide, by decide⟩, .inl ⟨by omega, by omega⟩, by decide, fun p7 H7 n7 z7 => ?_⟩⟩⟩
    have s67 : Same H5 H7 := n6.same.trans n7.same
    have s47 : Same H4 H7 := n5.same.trans s67
    have s37 : Same H3 H7 := s4.trans s47
    have a1 := s37 _ _ (n3.same _ _ (n2.same _ _ n1.at_))
    have a2 := s37 _ _ (n3.same _ _ n2.at_)
    have a3 := s37 _ _ n3.at_
    have a5 := s67 _ _ n5.at_
    have a6 := n7.same _ _ n6.at_
    have sH3 := (n1.same.trans n2.same).trans n3.same
    refine q p7 _ H7 (sH3.trans s37) ?_ n7.at_ rfl ?_
    · exact (((sH3.trans s4).trans n5.same).trans n6.same).free n7.no
    simp only [List.mem_cons, List.not_mem_nil, or_false]
    rintro v (rfl | rfl | rfl | rfl | rfl | rfl | rfl | rfl | rfl)
    · exact ⟨shows_non, .inr .non⟩
    · exact ⟨shows_int (by omega), .inr (.int _)⟩
    · exact ⟨shows_bl, .inr (.bl _)⟩
    · exact ⟨shows_dat (d := .list [.str "cut", .int 1, .str "a", .int 0]) (.lst z1 a1 (.cons (.str _) (.cons (.int _) (.cons (.str _) (.cons (.int _) .nil))))) (by decide +kernel) (by decide +kernel) (shown_small (by decide +kernel) (by decide +kernel)), .inr (.lst a1)⟩
    · exact ⟨shows_dat (d := .tuple [.str "hold", .int 1, .str "a"]) (.tup a2 (.cons (.str _) (.cons (.int _) (.cons (.str _) .nil)))) (by decide +kernel) (by decide +kernel) (shown_small (by decide +kernel) (by decide +kernel)), .inr (.tup a2)⟩
    · exact ⟨shows_dat (d := .dict []) (.dic a3) (by decide +kernel) (by decide +kernel) (shown_small (by decide +kernel) (by decide +kernel)), .inr (.dic a3)⟩
    · exact ⟨shows_dat (d := .list [.str (summedS "hold 1 a ")]) (.lst z5 a5 (.cons (.str _) .nil)) (by decide +kernel) (by decide +kernel) (shown_small (by decide +kernel) (by decide +kernel)), .inr (.lst a5)⟩
    · exact ⟨shows_dat (d := .tuple []) (.tup a6 .nil) (by decide +kernel) (by decide +kernel) (shown_small (by decide +kernel) (by decide +kernel)), .inr (.tup a6)⟩
    · exact ⟨shows_int (by omega), .inr (.int _)⟩
end
abbrev s__law_refused : Stmt := top 47
abbrev s__law_kinds : Stmt := top 46
section
variable {P : Program} {w : World} {K : PySem.W.Frag} {mg : Str → Option Value} {base : Heap} {A : ClsA}
theorem sizeBig : 1000 ≤ sizeLine := by decide
theorem boot_ValueError : bootBuiltins "ValueError" = some (.type "ValueError") := by decide +kernel
theorem isi_exc {K : PySem.W.Frag} {H : Hp} {e C : Addr} {o : Obj} {c : V} {u : Value} {b : Bool} {Q : VK} (he : H e = some (.frz o (.own 0))) (ho : ExcO C o) (O : ErrC K C) (hk : PySem.W.kitOne K (.ref C) u = some b) (hc : clsV c = some u) (q : Q (.bl b) H) : rIsi K [.ref e, c] H Q :=
  ⟨_, _, _, _, _, rfl, hc, .exc he ho O, hk, q⟩
/-- the error class C is the n-th of the kinds that the law asks for -/
structure KC (K : PySem.W.Frag) (A : ClsA) (C : Addr) (n : Nat) : Prop where
  ec : ErrC K C
  lt : n < 16
  k_ValueError : PySem.W.kitOne K (.ref C) (.type "ValueError") = some true
  k_NoRow : PySem.W.kitOne K (.ref C) (.ref A.NoRow) = some (decide (0 = n))
  k_NoDisk : PySem.W.kitOne K (.ref C) (.ref A.NoDisk) = some (decide (1 = n))
  k_Full : PySem.W.kitOne K (.ref C) (.ref A.Full) = some (decide (2 = n))
  k_Stopped : PySem.W.kitOne K (.ref C) (.ref A.Stopped) = some (decide (3 = n))
  k_NoFile : PySem.W.kitOne K (.ref C) (.ref A.NoFile) = some (decide (4 = n))
  k_NoPlace : PySem.W.kitOne K (.ref C) (.ref A.NoPlace) = some (decide (5 = n))
  k_HeldAlready : PySem.W.kitOne K (.ref C) (.ref A.HeldAlready) = some (decide (6 = n))
  k_NotHeld : PySem.W.kitOne K (.ref C) (.ref A.NotHeld) = some (decide (7 = n))
  k_NoFiles : PySem.W.kitOne K (.ref C) (.ref A.NoFiles) = some (decide (8 = n))
  k_NoMark : PySem.W.kitOne K (.ref C) (.ref A.NoMark) = some (decide (9 = n))
  k_NoRoom : PySem.W.kitOne K (.ref C) (.ref A.NoRoom) = some (decide (10 = n))
  k_Gone : PySem.W.kitOne K (.ref C) (.ref A.Gone) = some (decide (11 = n))
  k_NotClosed : PySem.W.kitOne K (.ref C) (.ref A.NotClosed) = some (decide (12 = n))
  k_NotBlank : PySem.W.kitOne K (.ref C) (.ref A.NotBlank) = some (decide (13 = n))
  k_NoDeed : PySem.W.kitOne K (.ref C) (.ref A.NoDeed) = some (decide (14 = n))
  k_NoHouse : PySem.W.kitOne K (.ref C) (.ref A.NoHouse) = some (decide (15 = n))
def fnd (n : Nat) : List V := [.bl (decide (0 = n)), .bl (decide (1 = n)), .bl (decide (2 = n)), .bl (decide (3 = n)), .bl (decide (4 = n)), .bl (decide (5 = n)), .bl (decide (6 = n)), .bl (decide (7 = n)), .bl (decide (8 = n)), .bl (decide (9 = n)), .bl (decide (10 = n)), .bl (decide (11 = n)), .bl (decide (12 = n)), .bl (decide (13 = n)), .bl (decide (14 = n)), .bl (decide (15 = n)), .bl false]
def wds : List V := [.str "row", .str "disk", .str "full", .str "stopped", .str "file", .str "place", .str "held", .str "not held", .str "files", .str "mark", .str "room", .str "gone", .str "closed", .str "blank", .str "deed", .str "house", .str "other"]
theorem fnd_at {n i : Nat} {y : V} (hn : n < 16) (h : (fnd n)[i]? = some y) : y = .bl (decide (i = n)) := by
  have hi : i < 17 := (List.getElem?_eq_some_iff.mp h).1
  have : i = 0 ∨ i = 1 ∨ i = 2 ∨ i = 3 ∨ i = 4 ∨ i = 5 ∨ i = 6 ∨ i = 7 ∨ i = 8 ∨ i = 9 ∨ i = 10 ∨ i = 11 ∨ i = 12 ∨ i = 13 ∨ i = 14 ∨ i = 15 ∨ i = 16 := by omega
  rcases this with rfl | rfl | rfl | rfl | rfl | rfl | rfl | rfl | rfl | rfl | rfl | rfl | rfl | rfl | rfl | rfl | rfl
  all_goals first | (cases h; rfl) | (cases h; rw [decide_eq_false (by omega)])
structure KInv (K : PySem.W.Frag) (H : Hp) (a b : Addr) (n i : Nat) (τ : L2.St) (zs : List V) (H' : Hp) : Prop where
  ex : ∃ t0 t1, τ = [t0, t1]
  zs : zs = if i ≤ n then [] else [wds.getD n .non]
  same : Same H H'
  a : H' a = some (.lst wds)
  b : H' b = some (.lst (fnd n))
def spKinds (K : PySem.W.Frag) (A : ClsA) : Sp := fun vs H Q _ => ∃ (e C : Addr) (o : Obj) (n : Nat), vs = [.ref e] ∧ H e = some (.frz o (.own 0)) ∧ ExcO C o ∧ KC K A C n ∧ ∀ (l : Addr) (H' : Hp), Same H H' → H l = none → H' l = some (.lst [wds.getD n .non]) → Q (.ref l) H'
theorem sc__law_kinds : FnScope ["_law_e", "_law_found", "_law_words"] ["_law_e"] (defScope s__law_kinds) := ⟨rfl, rfl, rfl, by decide +kernel, rfl, by decide +kernel, by decide +kernel⟩
theorem lc__law_kinds_0 : lcStat { kind := .function, names := [(Str.ofString ".0", .local), (Str.ofString "_law_word", .local), (Str.ofString "_law_told", .local)], isGenerator := false, isCoroutine := false, more := [] } (defScope s__law_kinds).names ["_law_e", "_law_found", "_law_words"] ["_law_word", "_law_told"] [none, none] = true := by decide +kernel
theorem lcn__law_kinds_0 : (["_law_word", "_law_told"] : List Str).Nodup := by decide +kernel
theorem ok__law_kinds {f : Addr} {fd : FuncData} (F : Fun K "_law_kinds" "_law_kinds" s__law_kinds f fd) (T : Txt w K mg A) : FnOk P w K mg base CX0 false 1 f fd ["_law_e"] (spKinds K A) := by
  refine F.ok sc__law_kinds (fun vs H Q E h => ?_) (fun cdv Ar outer s H vs Q E hr h => ?_)
  · obtain ⟨e, C, o, n, rfl, _⟩ := h; rfl
  · obtain ⟨e, C, o, n, rfl, he, ho, KN, q⟩ := h
    refine ⟨_, (W.h (w_pss_cons (w_ps_set (i := 1) sc__law_kinds.nd rfl (Or.inl rfl) (w_pe_lstA (w_pa_p (w_pe_callBp call_isi rfl T.n_isinstance boot_isinstance (w_pa_p (w_pv 0) (w_pa_p (w_pe_gv rfl T.c_NoRow) w_pa_nil))) (w_pa_p (w_pe_callBp call_isi rfl T.n_isinstance boot_isinstance (w_pa_p (w_pv 0) (w_pa_p (w_pe_gv rfl T.c_NoDisk) w_pa_nil))) (w_pa_p (w_pe_callBp call_isi rfl T.n_isinstance boot_isinstance (w_pa_p (w_pv 0) (w_pa_p (w_pe_gv rfl T.c_Full) w_pa_nil))) (w_pa_p (w_pe_callBp call_isi rfl T.n_isinstance boot_isinstance (w_pa_p (w_pv 0) (w_pa_p (w_pe_gv rfl T.c_Stopped) w_pa_nil))) w_pa_nil))))))
      (w_pss_cons (w_ps_set (i := 1) sc__law_kinds.nd rfl (Or.inl rfl) (w_pe_op op_addU (w_pv 1) (w_pe_lstA (w_pa_p (w_pe_callBp call_isi rfl T.n_isinstance boot_isinstance (w_pa_p (w_pv 0) (w_pa_p (w_pe_gv rfl T.c_NoFile) w_pa_nil))) (w_pa_p (w_pe_callBp call_isi rfl T.n_isinstance boot_isinstance (w_pa_p (w_pv 0) (w_pa_p (w_pe_gv rfl T.c_NoPlace) w_pa_nil))) (w_pa_p (w_pe_callBp call_isi rfl T.n_isinstance boot_isinstance (w_pa_p (w_pv 0) (w_pa_p (w_pe_gv rfl T.c_HeldAlready) w_pa_nil))) (w_pa_p (w_pe_callBp call_isi rfl T.n_isinstance boot_isinstance (w_pa_p (w_pv 0) (w_pa_p (w_pe_gv rfl T.c_NotHeld) w_pa_nil))) w_pa_nil)))))))
      (w_pss_cons (w_ps_set (i := 1) sc__law_kinds.nd rfl (Or.inl rfl) (w_pe_op op_addU (w_pv 1) (w_pe_lstA (w_pa_p (w_pe_callBp call_isi rfl T.n_isinstance boot_isinstance (w_pa_p (w_pv 0) (w_pa_p (w_pe_gv rfl T.c_NoFiles) w_pa_nil))) (w_pa_p (w_pe_callBp call_isi rfl T.n_isinstance boot_isinstance (w_pa_p (w_pv 0) (w_pa_p (w_pe_gv rfl T.c_NoMark) w_pa_nil))) (w_pa_p (w_pe_callBp call_isi rfl T.n_isinstance boot_isinstance (w_pa_p (w_pv 0) (w_pa_p (w_pe_gv rfl T.c_NoRoom) w_pa_nil))) (w_pa_p (w_pe_callBp call_isi rfl T.n_isinstance boot_isinstance (w_pa_p (w_pv 0) (w_pa_p (w_pe_gv rfl T.c_Gone) w_pa_nil))) w_pa_nil)))))))
      (w_pss_cons (w_ps_set (i := 1) sc__law_kinds.nd rfl (Or.inl rfl) (w_pe_op op_addU (w_pv 1) (w_pe_lstA (w_pa_p (w_pe_callBp call_isi rfl T.n_isinstance boot_isinstance (w_pa_p (w_pv 0) (w_pa_p (w_pe_gv rfl T.c_NotClosed) w_pa_nil))) (w_pa_p (w_pe_callBp call_isi rfl T.n_isinstance boot_isinstance (w_pa_p (w_pv 0) (w_pa_p (w_pe_gv rfl T.c_NotBlank) w_pa_nil))) (w_pa_p (w_pe_callBp call_isi rfl T.n_isinstance boot_isinstance (w_pa_p (w_pv 0) (w_pa_p (w_pe_gv rfl T.c_NoDeed) w_pa_nil))) (w_pa_p (w_pe_callBp call_isi rfl T.n_isinstance boot_isinstance (w_pa_p (w_pv 0) (w_pa_p (w_pe_gv rfl T.c_NoHouse) w_pa_nil))) w_pa_nil)))))))
      (w_pss_cons (w_ps_expr (w_pe_append (w_pv 1) (w_pe_not (w_pe_callBp call_isi rfl T.n_isinstance boot_isinstance (w_pa_p (w_pv 0) (w_pa_p (w_pe_bltn rfl T.n_ValueError boot_ValueError (v := .ty "ValueError") rfl) w_pa_nil))))))
      (w_pss_cons (w_ps_set (i := 2) sc__law_kinds.nd rfl (Or.inl rfl) (w_pe_lstA (w_pa_p w_pe_str (w_pa_p w_pe_str (w_pa_p w_pe_str (w_pa_p w_pe_str (w_pa_p w_pe_str (w_pa_p w_pe_str (w_pa_p w_pe_str (w_pa_p w_pe_str (w_pa_p w_pe_str (w_pa_p w_pe_str (w_pa_p w_pe_str (w_pa_p w_pe_str w_pa_nil))))))))))))))
      (w_pss_cons (w_ps_set (i := 2) sc__law_kinds.nd rfl (Or.inl rfl) (w_pe_op op_addU (w_pv 2) (w_pe_lstA (w_pa_p w_pe_str (w_pa_p w_pe_str (w_pa_p w_pe_str (w_pa_p w_pe_str (w_pa_p w_pe_str w_pa_nil))))))))
      (w_pss_one (w_ps_ret (w_pe_lc (by intro h; exact nomatch h) (LcOk.of lc__law_kinds_0) (w_pi_zipp rfl T.n_zip (w_pa_p (w_pv 2) (w_pa_p (w_pv 1) w_pa_nil))) (fun _ _ _ _ _ => (w_pg_tupL (n := 2) (w_pgs_cons (w_pg_name (i := 0) lcn__law_kinds_0 rfl (Or.inl rfl)) (w_pgs_cons (w_pg_name (i := 1) lcn__law_kinds_0 rfl (Or.inl rfl)) w_pgs_nil)))) (fun _ _ _ _ _ => (w_pts_one (w_pt_truL (w_pv 1)))) (fun _ _ _ _ _ => (w_pv 0))))))))))))), ?_⟩
    simp_all only []
    refine isi_exc he ho KN.ec KN.k_NoRow rfl (isi_exc he ho KN.ec KN.k_NoDisk rfl (isi_exc he ho KN.ec KN.k_Full rfl (isi_exc he ho KN.ec KN.k_Stopped rfl ⟨by decide, fun p1 H1 n1 z1 => ?_⟩)))
    have he := n1.same _ _ he
    refine isi_exc he ho KN.ec KN.k_NoFile rfl (isi_exc he ho KN.ec KN.k_NoPlace rfl (isi_exc he ho KN.ec KN.k_HeldAlready rfl (isi_exc he ho KN.ec KN.k_NotHeld rfl ⟨by decide, fun p2 H2 n2 z2 => ?_⟩)))
    have he := n2.same _ _ he
    refine ⟨_, n2.same _ _ n1.at_, _, n2.at_, Nat.le_trans (show 8 ≤ 1000 by decide) sizeBig, fun p3 H3 n3 => ?_⟩
    have he := n3.same _ _ he
    refine isi_exc he ho KN.ec KN.k_NoFiles rfl (isi_exc he ho KN.ec KN.k_NoMark rfl (isi_exc he ho KN.ec KN.k_NoRoom rfl (isi_exc he ho KN.ec KN.k_Gone rfl ⟨by decide, fun p4 H4 n4 z4 => ?_⟩)))
    have he := n4.same _ _ he
    refine ⟨_, n4.same _ _ n3.at_, _, n4.at_, Nat.le_trans (show 12 ≤ 1000 by decide) sizeBig, fun p5 H5 n5 => ?_⟩
    have he := n5.same _ _ he
    refine isi_exc he ho KN.ec KN.k_NotClosed rfl (isi_exc he ho KN.ec KN.k_NotBlank rfl (isi_exc he ho KN.ec KN.k_NoDeed rfl (isi_exc he ho KN.ec KN.k_NoHouse rfl ⟨by decide, fun p6 H6 n6 z6 => ?_⟩)))
    have he := n6.same _ _ he
    refine ⟨_, n6.same _ _ n5.at_, _, n6.at_, Nat.le_trans (show 16 ≤ 1000 by decide) sizeBig, fun p7 H7 n7 => ?_⟩
    have he := n7.same _ _ he
    refine ⟨⟨_, n7.at_⟩, isi_exc he ho KN.ec KN.k_ValueError rfl ?_⟩
    have s7 : Same H H7 := n1.same.trans (n2.same.trans (n3.same.trans (n4.same.trans (n5.same.trans (n6.same.trans n7.same)))))
    have f7 : H p7 = none := (n1.same.trans (n2.same.trans (n3.same.trans (n4.same.trans (n5.same.trans n6.same))))).free n7.no
    simp_all only [n7.at_]
    refine ⟨Nat.lt_of_lt_of_le (show 16 < 1000 by decide) sizeBig, by decide, fun p8 H8 n8 z8 => ⟨by decide, fun p9 H9 n9 z9 => ⟨_, n9.same _ _ n8.at_, _, n9.at_, by decide, fun p10 H10 n10 => ?_⟩⟩⟩
    have e1 : H10 p10 = some (.lst wds) := n10.at_
    have e2 : H10 p7 = some (.lst (fnd n)) := n10.same _ _ (n9.same _ _ (n8.same _ _ upd_same))
    have s10 : Same H H10 := fun c ob e => n10.same _ _ (n9.same _ _ (n8.same _ _ (by rw [upd_ne (ne_of_none e f7)]; exact s7 c ob e)))
    refine ⟨⟨_, SqL.of e1⟩, ⟨_, SqL.of e2⟩, CompJ.zip (xs := wds) (ys := fnd n) rfl (KInv K H p10 p7 n) (fun i τ zs H' I => ?_) (fun i τ zs H' I => ⟨SqL.of I.a, SqL.of I.b⟩) ⟨⟨_, _, rfl⟩, (if_pos (Nat.zero_le n)).symm, s10, e1, e2⟩ ?_ ?_⟩
    · rw [I.zs]; split <;> simp <;> decide
    · intro N i x y p τ zs H' hx hy I hp hN
      obtain ⟨t0, t1, rfl⟩ := I.ex
      have hy' := fnd_at KN.lt hy
      subst hy'
      have hx' : wds.getD i .non = x := by rw [List.getD_eq_getElem?_getD, hx]; rfl
      refine ⟨p, [x, .bl (decide (i = n))], rfl, SqT.of upd_same, rfl, ?_⟩
      simp_all only []
      have nw : New H' p (.tup [x, .bl (decide (i = n))]) (upd H' p (.tup [x, .bl (decide (i = n))])) := .mk' hp
      by_cases hi : i = n
      · rw [decide_eq_true hi] at nw ⊢
        simp_all only []
        refine hN _ _ _ ⟨⟨_, _, rfl⟩, ?_, I.same.trans nw.same, nw.same _ _ I.a, nw.same _ _ I.b⟩
        rw [I.zs, if_pos (by omega), if_neg (by omega), ← hi, hx']; rfl
      · rw [decide_eq_false hi] at nw ⊢
        simp_all only []
        refine hN _ _ _ ⟨⟨_, _, rfl⟩, ?_, I.same.trans nw.same, nw.same _ _ I.a, nw.same _ _ I.b⟩
        rw [I.zs]
        by_cases h0 : i ≤ n
        · rw [if_pos h0, if_pos (by omega)]
        · rw [if_neg h0, if_neg (by omega)]
    · intro τ zs H' I D H'' nD
      refine q D H'' (I.same.trans nD.same) (I.same.free nD.no) ?_
      rw [nD.at_, I.zs, if_neg (by have := KN.lt; simp [wds, fnd]; omega)]
theorem Txt.kc_NoRow (T : Txt w K mg A) : KC K A A.NoRow 0 := ⟨T.ec_NoRow, by decide, T.k_NoRow_ValueError, T.k_NoRow_NoRow, T.k_NoRow_NoDisk, T.k_NoRow_Full, T.k_NoRow_Stopped, T.k_NoRow_NoFile, T.k_NoRow_NoPlace, T.k_NoRow_HeldAlready, T.k_NoRow_NotHeld, T.k_NoRow_NoFiles, T.k_NoRow_NoMark, T.k_NoRow_NoRoom, T.k_NoRow_Gone, T.k_NoRow_NotClosed, T.k_NoRow_NotBlank, T.k_NoRow_NoDeed, T.k_NoRow_NoHouse⟩
theorem iteT' {c : Bool} {A B : Prop} (hc : c = true) (h : A) : if c = true then A else B := by rw [if_pos hc]; exact h
def spRefused : Sp := fun vs H Q _ => ∃ v, vs = [v] ∧ Bad H v ∧ ∀ H', Same H H' → Q (.bl true) H'
theorem sc__law_refused : FnScope ["_law_thing", "_law_before", "_law_told", "_law_e"] ["_law_thing"] (defScope s__law_refused) := ⟨rfl, rfl, rfl, by decide +kernel, rfl, by decide +kernel, by decide +kernel⟩
theorem ok__law_refused {f : Addr} {fd : FuncData} (F : Fun K "_law_refused" "_law_refused" s__law_refused f fd) (T : Txt w K mg A) (G_read_row : GX P w K mg base true 5 "read_row" ["text"] (spReadR A)) (G__law_kinds : GF P w K mg base false 1 "_law_kinds" ["_law_e"] (spKinds K A)) : FnOk P w K mg base CX0 true 6 f fd ["_law_thing"] spRefused := by
  refine F.ok sc__law_refused (fun vs H Q E h => ?_) (fun cdv Ar outer s H vs Q E hr h => ?_)
  · obtain ⟨v, rfl, _⟩ := h; rfl
  · obtain ⟨v, rfl, ⟨⟨t, sh⟩, no⟩, q⟩ := h
    have hu : _ < cLine := Nat.lt_of_succ_lt (hu_of hr)
    have hg := hr.gd
    have hu5 : (Ar.deeper (envOfC "_law_refused" (defScope s__law_refused) s.heap.objs.size f cdv)).units + 5 < cLine := Nat.lt_of_le_of_lt (Nat.add_le_add_left (by decide : 5 ≤ 64) _) hr.units
    refine ⟨_, (W.h (w_pss_cons (w_ps_set (i := 1) sc__law_refused.nd rfl (Or.inl rfl) (w_pe_callBp (call_reprV hg) rfl T.n_repr boot_repr (w_pa_p (w_pv 0) w_pa_nil)))
      (w_pss_cons (w_ps_set (i := 2) sc__law_refused.nd rfl (Or.inl rfl) (w_pe_lstA w_pa_nil))
      (w_pss_cons (w_ps_try (i := 3) rfl rfl ⟨rfl, rfl⟩ sc__law_refused.nd rfl rfl T.ek_CleanError rfl T.mg_CleanError (fun pins Ex => (w_pss_one (w_ps_expr (w_pe_gX throws_try G_read_row hr rfl (w_pa_p (w_pv 0) w_pa_nil))))) (fun pins ea => by
      have hr := hr.mark (v := some (.ref ea))
      exact (w_pss_one (w_ps_set (i := 2) sc__law_refused.nd rfl (Or.inl rfl) (w_pe_g G__law_kinds hr rfl (w_pa_p (w_pv 3) w_pa_nil))))))
      (w_pss_one (w_ps_ret (w_pe_and (w_pe_cmpR (op_eqU hu) (w_pv 2) (w_pe_lstA (w_pa_p w_pe_str w_pa_nil)) (nomark _)) (w_pe_one (w_pe_cmpR (op_eqU hu) (w_pe_callBp (call_reprV hg) rfl T.n_repr boot_repr (w_pa_p (w_pv 0) w_pa_nil)) (w_pv 1) (nomark _)))))))))), ?_⟩
    simp_all only [tTry]
    refine sh _ H _ (Same.refl _) hu5 ⟨by decide, fun p H1 n1 _ => ?_⟩
    have hu5' := hu5
    rcases no with ⟨z, rfl, za, zl, zn⟩ | th
    · refine .inr ⟨z, rfl, za, zl, fun xs hx => absurd (hx.symm.trans zn) (by simp), fun _ H2 s2 => ⟨A.NoRow, rfl, T.ek_NoRow, T.mro_NoRow, fun ea oe he ho => ⟨_, rfl, ea, A.NoRow, oe, 0, rfl, upd_same, ho, T.kc_NoRow, fun l H3 s3 f3 e3 => ⟨_, rfl, by decide, fun p4 H4 n4 _ => ?_⟩⟩⟩⟩
      have nx : New H2 ea (.frz oe (.own 0)) (upd H2 ea (.frz oe (.own 0))) := .mk' he
      have sA := ((((n1.same.trans s2).trans nx.same).trans s3).trans n4.same)
      simp_all only []
      refine ⟨_, n4.same _ _ e3, _, n4.at_, rfl, rfl, ?_⟩
      refine iteT' (by decide +kernel) (sh _ H4 _ sA hu5 ?_)
      simp_all only []
      exact q H4 sA
    · refine .inl ⟨v, rfl, th.same n1.same, A.NoRow, rfl, T.ek_NoRow, T.mro_NoRow, fun ea oe he ho => ⟨_, rfl, ea, A.NoRow, oe, 0, rfl, upd_same, ho, T.kc_NoRow, fun l H3 s3 f3 e3 => ⟨_, rfl, by decide, fun p4 H4 n4 _ => ?_⟩⟩⟩
      have nx : New H1 ea (.frz oe (.own 0)) (upd H1 ea (.frz oe (.own 0))) := .mk' he
      have sA := (((n1.same.trans nx.same).trans s3).trans n4.same)
      simp_all only []
      refine ⟨_, n4.same _ _ e3, _, n4.at_, rfl, rfl, ?_⟩
      refine iteT' (by decide +kernel) (sh _ H4 _ sA hu5 ?_)
      simp_all only []
      exact q H4 sA
end
/-! ### which texts are no rows' -/
def DG (b : List Nat) : List Nat := sg (toString (sumS (tx b)) : Str)
theorem dgF (b : List Nat) : NumF (sumS (tx b)) := numF (sumS_lt _).1 (by have := (sumS_lt (tx b)).2; omega)
theorem dg_no (b : List Nat) {c : Nat} (h : c < 48 ∨ 57 < c) : c ∉ DG b := fun hc => by
  have := (dgF b).dig c hc
  omega
theorem sg_summed (b : List Nat) : sg (summedS (tx b)) = b ++ DG b ++ [59] := by
  unfold summedS DG
  rw [sg_append, sg_append, sg_tx]
  rfl
theorem read_at {u t : List Nat} (ht : 32 ∉ t) : readS (tx (u ++ 32 :: t)) = if t = DG (u ++ [32]) ++ [59] then rowS ((splitL 32 u).map tx) else none := by
  have hb : bodyAt (tx (u ++ 32 :: t)) = tx (u ++ [32]) := bodyAt_of (by rw [sg_tx]) ht
  have he : tx (u ++ 32 :: t) = summedS (tx (u ++ [32])) ↔ t = DG (u ++ [32]) ++ [59] := by
    constructor
    · intro h
      have h := congrArg sg h
      rw [sg_tx, sg_summed, List.append_assoc, show u ++ 32 :: t = (u ++ [32]) ++ t by simp] at h
      exact List.append_cancel_left h
    · intro h
      refine sg_inj ?_
      rw [sg_tx, sg_summed, List.append_assoc, ← h]
      simp
  unfold readS bodyS
  rw [hb]
  by_cases h : t = DG (u ++ [32]) ++ [59]
  · rw [if_pos (he.mpr h), if_pos h]
    show rowS (PySem.Txt.split (PySem.Txt.slice (tx (u ++ [32])) none (some (-1))) (c1 32)) = _
    rw [slice_but_last (by rw [sg_tx, List.length_append]; exact Nat.lt_of_lt_of_le (by decide) (Nat.le_add_left _ _)), sg_tx, List.dropLast_concat, split_one _ (by decide), sg_tx]
  · rw [if_neg (fun x => h (he.mp x)), if_neg h]
    rfl
theorem read_no {l : List Nat} (h : 32 ∉ l) : readS (tx l) = none := by
  have hb : bodyAt (tx l) = tx [] := bodyAt_no (by rw [sg_tx]; exact h)
  unfold readS bodyS
  rw [hb]
  split
  · show rowS (PySem.Txt.split (PySem.Txt.slice (tx []) none (some (-1))) (c1 32)) = none
    have e : PySem.Txt.slice (tx []) none (some (-1)) = tx [] := by
      have := PySem.Txt.slice_le (tx []) none (some (-1))
      refine sg_inj (List.eq_nil_of_length_eq_zero ?_ |>.trans (sg_tx []).symm)
      rw [sg_len]
      rw [tx_len] at this
      simpa using this
    rw [e, split_one _ (by decide), sg_tx]
    decide +kernel
  · rfl
/-- what doesn't end with ; is none -/
theorem read_end59 {l : List Nat} {c : Nat} (hc : c ≠ 59) : readS (tx (l ++ [c])) = none := by
  by_cases hm : 32 ∈ l ++ [c]
  · obtain ⟨a, b, e, hb⟩ := last_cut 32 _ hm
    rw [e, read_at hb, if_neg]
    intro h
    rw [h, show a ++ 32 :: (DG (a ++ [32]) ++ [59]) = (a ++ 32 :: DG (a ++ [32])) ++ [59] by simp] at e
    exact hc (List.append_inj_right' e rfl |> fun z => by injection z)
  · exact read_no hm
theorem nil_or_snoc (l : List Nat) : l = [] ∨ ∃ a c, l = a ++ [c] := by
  rcases List.eq_nil_or_concat l with e | ⟨a, c, e⟩
  · exact .inl e
  · exact .inr ⟨a, c, by rw [e, List.concat_eq_append]⟩
theorem read_no59 {l : List Nat} (h : 59 ∉ l) : readS (tx l) = none := by
  rcases nil_or_snoc l with e | ⟨a, c, e⟩
  · rw [e]; exact read_no (by simp)
  · rw [e]
    refine read_end59 fun x => h ?_
    rw [e, x]; simp
theorem rowS_count {w : List Nat} {ws : List (List Nat)} {ks : List Str} (h : kindsS (tx w) = some ks) (hl : ws.length ≠ ks.length) : rowS ((w :: ws).map tx) = none := by
  rw [List.map_cons, rowS_cons, h]
  show (if (ws.map tx).length = ks.length then _ else _) = _
  rw [List.length_map, if_neg hl]
def JJ (w : List Nat) (ws : List (List Nat)) : List Nat := w ++ (ws.map (32 :: ·)).flatten
theorem JJ_append (w : List Nat) (ws vs : List (List Nat)) : JJ w (ws ++ vs) = JJ w ws ++ (vs.map (32 :: ·)).flatten := by simp [JJ]
theorem tail_no (b : List Nat) : 32 ∉ DG b ++ [59] := fun h => by
  rcases List.mem_append.mp h with h | h
  · exact dg_no b (c := 32) (.inl (by decide)) h
  · simp at h
theorem closed_read (u : List Nat) : readS (summedS (tx (u ++ [32]))) = rowS ((splitL 32 u).map tx) := by
  have e : summedS (tx (u ++ [32])) = tx (u ++ 32 :: (DG (u ++ [32]) ++ [59])) := sg_inj (by rw [sg_summed, sg_tx]; simp)
  rw [e, read_at (tail_no _), if_pos rfl]
/-- a body that ends with a blank and is none -/
def badB (b : Str) : Bool := decide ((sg b).getLast? = some 32) && (rowS ((splitL 32 (sg b).dropLast).map tx)).isNone
theorem badB_none {b : Str} (h : badB b = true) : readS (summedS b) = none := by
  unfold badB at h
  rw [Bool.and_eq_true, decide_eq_true_eq] at h
  have e : sg b = (sg b).dropLast ++ [32] := by
    have hne : sg b ≠ [] := fun z => by rw [z] at h; simp at h
    have := List.dropLast_concat_getLast hne
    have hl : (sg b).getLast hne = 32 := by
      have := h.1
      rw [List.getLast?_eq_some_getLast hne] at this
      exact Option.some.inj this
    rw [hl] at this
    exact this.symm
  have e2 : b = tx ((sg b).dropLast ++ [32]) := by rw [← e, tx_sg]
  rw [e2, closed_read]
  exact Option.isNone_iff_eq_none.mp h.2
def okB (b : Str) : Bool := (sg b).all (· < 128) && decide ((sg b).length ≤ 1000) && badB b
structure BodyNo (b : Str) : Prop where
  a : asc b = true
  l : b.length ≤ 1000
  n : readS (summedS b) = none
theorem okB_no {b : Str} (h : okB b = true) : BodyNo b := by
  unfold okB at h
  rw [Bool.and_eq_true, Bool.and_eq_true, decide_eq_true_eq] at h
  exact ⟨by rw [asc_sg]; exact h.1.1, by rw [← sg_len]; exact h.1.2, badB_none h.2⟩
theorem all_no {l : List Str} (h : l.all okB = true) : ∀ b ∈ l, BodyNo b := fun b hb => okB_no (List.all_eq_true.mp h b hb)
theorem no_empty : BodyNo "" := by
  refine ⟨by rw [asc_sg]; decide +kernel, by decide, ?_⟩
  have e : summedS "" = tx (DG [] ++ [59]) := sg_inj (by rw [show ("" : Str) = tx [] by decide +kernel, sg_summed, sg_tx]; rfl)
  rw [e]
  exact read_no (tail_no _)
theorem no_open : BodyNo "put 1 1 1 a 0 w" := by
  refine ⟨by rw [asc_sg]; decide +kernel, by decide, ?_⟩
  have e0 : ("put 1 1 1 a 0 w" : Str) = tx (sg "put 1 1 1 a 0" ++ [32, 119]) := by decide +kernel
  have e : summedS "put 1 1 1 a 0 w" = tx (sg "put 1 1 1 a 0" ++ 32 :: (119 :: (DG (sg "put 1 1 1 a 0" ++ [32, 119]) ++ [59]))) := sg_inj (by rw [e0, sg_summed, sg_tx]; simp)
  rw [e, read_at, if_neg]
  · intro h
    have : 119 ∈ DG (sg "put 1 1 1 a 0" ++ [32]) ++ [59] := by rw [← h]; exact List.mem_cons_self ..
    rcases List.mem_append.mp this with x | x
    · exact dg_no _ (c := 119) (.inr (by decide)) x
    · simp at x
  · intro h
    rcases List.mem_cons.mp h with x | x
    · cases x
    · exact tail_no _ x
structure FarF (z : Str) : Prop where
  dig : ∀ c ∈ sg z, 48 ≤ c ∧ c ≤ 57
  len : 19 ≤ z.length ∧ z.length ≤ 20
theorem farF {far : Int} (f0 : 0 ≤ far) (f1 : far < 10 ^ 9) : FarF (toString ((10 : Int) ^ Int.toNat 18 + far) : Str) := by
  refine ⟨fun c hc => ?_, ?_, far_len f0 f1⟩
  · have e18 : (10 : Int) ^ Int.toNat 18 = 1000000000000000000 := rfl
    rw [e18] at hc
    obtain ⟨m, hm⟩ := Int.eq_ofNat_of_zero_le (show 0 ≤ 1000000000000000000 + far by omega)
    rw [hm, sg_num] at hc
    obtain ⟨ch, hch, e⟩ := List.mem_map.mp hc
    have r := Nat.isDigit_of_mem_toDigits (by decide) (by decide) hch
    rw [← e]
    exact PyProof.Rows.digit_range r
  · have e18 : (10 : Int) ^ Int.toNat 18 = 1000000000000000000 := rfl
    rw [e18]
    obtain ⟨m, hm⟩ := Int.eq_ofNat_of_zero_le (show 0 ≤ 1000000000000000000 + far by omega)
    rw [hm]
    show 19 ≤ (Str.ofString (toString ((m : Nat) : Int))).length
    rw [PySem.ofString_length]
    refine Nat.lt_of_not_le fun h => ?_
    have := (Nat.length_repr_le_iff (n := m) (k := 18) (by decide)).mp h
    omega
theorem far_read {z : Str} (h : FarF z) : readP "number" z = none := by
  have hn : numS z = false := by
    unfold numS madeS
    rw [decide_eq_false (show ¬ (z.length : Int) ≤ 18 by have := h.len.1; omega)]
    simp
  unfold readP
  rw [if_neg (fun x => by rw [hn] at x; cases x.2), if_neg (fun x => absurd x.1 (by decide +kernel)), if_neg (fun x => absurd x.1 (by decide +kernel)), if_neg (fun x => absurd x.1 (by decide +kernel))]
theorem no_far1 {z : Str} (h : FarF z) : BodyNo ("put 1 1 1 a " ++ z ++ " w ") := by
  have n32 : 32 ∉ sg z := fun x => by have := h.dig 32 x; omega
  have e : ("put 1 1 1 a " ++ z ++ " w " : Str) = tx (JJ (sg "put") [sg "1", sg "1", sg "1", sg "a", sg z, sg "w"] ++ [32]) := sg_inj (by
    rw [sg_append, sg_append, sg_tx]
    have k1 : sg ("put 1 1 1 a " : Str) = sg "put" ++ 32 :: (sg "1" ++ 32 :: (sg "1" ++ 32 :: (sg "1" ++ 32 :: (sg "a" ++ [32])))) := by decide +kernel
    have k2 : sg (" w " : Str) = 32 :: (sg "w" ++ [32]) := by decide +kernel
    rw [k1, k2]
    simp [JJ])
  refine ⟨?_, ?_, ?_⟩
  · rw [asc_sg, sg_append, sg_append, List.all_append, List.all_append]
    have : (sg z).all (· < 128) = true := by
      rw [List.all_eq_true]
      exact fun c hc => decide_eq_true (by have := h.dig c hc; omega)
    rw [this]
    decide +kernel
  · rw [Str.length_append, Str.length_append]
    have := h.len.2
    show 12 + z.length + 3 ≤ 1000
    omega
  · rw [e, closed_read]
    unfold JJ
    rw [splitL_words _ _ (by
      simp only [List.mem_cons, List.not_mem_nil, or_false]
      rintro v (rfl | rfl | rfl | rfl | rfl | rfl | rfl)
      · decide +kernel
      · decide +kernel
      · decide +kernel
      · decide +kernel
      · decide +kernel
      · exact n32
      · decide +kernel)]
    have ek : kindsS "put" = some (["number", "number", "end", "name", "number", "word"] : List Str) := by decide +kernel
    show rowS [tx (sg "put"), tx (sg "1"), tx (sg "1"), tx (sg "1"), tx (sg "a"), tx (sg z), tx (sg "w")] = none
    simp only [tx_sg]
    rw [rowS_cons, ek]
    have r1 : readP "number" "1" = some (.int 1) := by decide +kernel
    have r2 : readP "end" "1" = some (.bl true) := by decide +kernel
    have r3 : readP "name" "a" = some (.str "a") := by decide +kernel
    simp only [Option.bind_some, List.length_cons, List.length_nil, if_true, readPs, r1, r2, r3, far_read h, Option.bind_none, Option.map_none]
theorem no_far2 {z : Str} (h : FarF z) : BodyNo ("cut " ++ z ++ " a 0 ") := by
  have n32 : 32 ∉ sg z := fun x => by have := h.dig 32 x; omega
  have e : ("cut " ++ z ++ " a 0 " : Str) = tx (JJ (sg "cut") [sg z, sg "a", sg "0"] ++ [32]) := sg_inj (by
    rw [sg_append, sg_append, sg_tx]
    have k1 : sg ("cut " : Str) = sg "cut" ++ [32] := by decide +kernel
    have k2 : sg (" a 0 " : Str) = 32 :: (sg "a" ++ 32 :: (sg "0" ++ [32])) := by decide +kernel
    rw [k1, k2]
    simp [JJ])
  refine ⟨?_, ?_, ?_⟩
  · rw [asc_sg, sg_append, sg_append, List.all_append, List.all_append]
    have : (sg z).all (· < 128) = true := by
      rw [List.all_eq_true]
      exact fun c hc => decide_eq_true (by have := h.dig c hc; omega)
    rw [this]
    decide +kernel
  · rw [Str.length_append, Str.length_append]
    have := h.len.2
    show 4 + z.length + 5 ≤ 1000
    omega
  · rw [e, closed_read]
    unfold JJ
    rw [splitL_words _ _ (by
      simp only [List.mem_cons, List.not_mem_nil, or_false]
      rintro v (rfl | rfl | rfl | rfl)
      · decide +kernel
      · exact n32
      · decide +kernel
      · decide +kernel)]
    have ek : kindsS "cut" = some (["number", "name", "number"] : List Str) := by decide +kernel
    show rowS [tx (sg "cut"), tx (sg z), tx (sg "a"), tx (sg "0")] = none
    simp only [tx_sg]
    rw [rowS_cons, ek]
    simp only [Option.bind_some, List.length_cons, List.length_nil, if_true, readPs, far_read h, Option.bind_none, Option.map_none]
theorem bodies_no {far : Int} (f0 : 0 ≤ far) (f1 : far < 10 ^ 9) : ∀ b ∈ bodies far, BodyNo b := by
  have F := farF f0 f1
  have g0 : ∀ b ∈ bd0, BodyNo b := fun b hb => by
    rcases List.mem_cons.mp hb with rfl | hb
    · exact no_empty
    · exact all_no (l := bd0.tail) (by decide +kernel) b hb
  have g4 : ∀ b ∈ bd4, BodyNo b := fun b hb => by
    rcases List.mem_cons.mp hb with rfl | hb
    · exact okB_no (by decide +kernel)
    · rcases List.mem_cons.mp hb with rfl | hb
      · exact no_open
      · exact all_no (l := bd4.tail.tail) (by decide +kernel) b hb
  have g5 : ∀ b ∈ bd5 far, BodyNo b := fun b hb => by
    rcases List.mem_cons.mp hb with rfl | hb
    · exact no_far1 F
    · exact all_no (l := ["hold -0 a "]) (by decide +kernel) b hb
  have g7 : ∀ b ∈ bd7 far, BodyNo b := fun b hb => by
    rcases List.mem_cons.mp hb with rfl | hb
    · exact no_far2 F
    · exact all_no (l := ["hold 1 ", "hold a ", "hold 1 a a ", "hold 1 ab9 "]) (by decide +kernel) b hb
  have cat : ∀ {l m : List Str}, (∀ b ∈ l, BodyNo b) → (∀ b ∈ m, BodyNo b) → ∀ b ∈ l ++ m, BodyNo b := fun hl hm b hb => (List.mem_append.mp hb).elim (hl b) (hm b)
  unfold bodies
  exact cat (cat (cat (cat (cat (cat (cat (cat (cat (cat (cat g0 (all_no (by decide +kernel))) (all_no (by decide +kernel))) (all_no (by decide +kernel))) g4) g5) (all_no (by decide +kernel))) g7) (all_no (by decide +kernel))) (all_no (by decide +kernel))) (all_no (by decide +kernel))) (all_no (by decide +kernel))
/-! ### right bodies with other sums -/
theorem slice_from {x : Str} {j : Nat} (h : j ≤ (sg x).length) : PySem.Txt.slice x (some (j : Int)) none = tx ((sg x).drop j) := by
  have e := StrLaws.sliceText_from (x := x) (i := (j : Int)) ⟨by omega, by simpa [sg] using h⟩
  refine Eq.trans (show PySem.Txt.slice x (some (j : Int)) none = StrLaws.sliceText x (some (j : Int)) none from rfl) (e.trans ?_)
  show tx _ = tx _
  congr 1
  rw [Int.toNat_natCast]
  refine List.take_of_length_le ?_
  rw [List.length_drop]
  simp [sg] at h ⊢
structure TextNo (y : Str) : Prop where
  a : asc y = true
  l : y.length ≤ 1000
  n : readS y = none
section
variable {far : Int}
def uu (far : Int) : List Nat := JJ (sg "cut") [sg "3", sg "a", sg (toString (far % 1000) : Str)]
theorem sg_good : sg (goodS far) = uu far ++ [32] := by
  unfold goodS
  rw [sg_append, sg_append]
  have k1 : sg ("cut 3 a " : Str) = sg "cut" ++ 32 :: (sg "3" ++ 32 :: (sg "a" ++ [32])) := by decide +kernel
  rw [k1]
  simp [uu, JJ]
  decide +kernel
theorem good_tx : goodS far = tx (uu far ++ [32]) := by rw [← sg_good, tx_sg]
theorem good_N : NumF (far % 1000) := numF (by omega) (by omega)
theorem good_no32 : ∀ v ∈ sg "cut" :: [sg "3", sg "a", sg (toString (far % 1000) : Str)], 32 ∉ v := by
  simp only [List.mem_cons, List.not_mem_nil, or_false]
  rintro v (rfl | rfl | rfl | rfl)
  · decide +kernel
  · decide +kernel
  · decide +kernel
  · intro x
    have := (good_N (far := far)).dig 32 x
    omega
theorem good_no59 : 59 ∉ sg (goodS far) := by
  unfold goodS
  rw [sg_append, sg_append]
  intro h
  rcases List.mem_append.mp h with h | h
  · rcases List.mem_append.mp h with h | h
    · exact absurd h (by decide +kernel)
    · have := (good_N (far := far)).dig 59 h
      omega
  · exact absurd h (by decide +kernel)
def DD (far : Int) : List Nat := sg (toString (sumS (goodS far)) : Str)
theorem DD_eq : DG (uu far ++ [32]) = DD far := by unfold DD DG; rw [← good_tx]
theorem read_good {t : List Nat} (ht : 32 ∉ t) (hne : t ≠ DD far ++ [59]) : readS (tx (sg (goodS far) ++ t)) = none := by
  rw [sg_good, show uu far ++ [32] ++ t = uu far ++ 32 :: t by simp, read_at ht, DD_eq, if_neg hne]
theorem DD_F : NumF (sumS (goodS far)) := numF (sumS_lt _).1 (by have := (sumS_lt (goodS far)).2; omega)
theorem DD_no {c : Nat} (h : c < 48 ∨ 57 < c) : c ∉ DD far := fun hc => by
  have := (DD_F (far := far)).dig c hc
  omega
theorem read_char {t : List Nat} {c : Nat} (ht : 32 ∉ t) (hc : c ∈ t) (h1 : c ≠ 59) (h2 : c < 48 ∨ 57 < c) : readS (tx (sg (goodS far) ++ t)) = none := by
  refine read_good ht fun e => ?_
  rw [e] at hc
  rcases List.mem_append.mp hc with x | x
  · exact DD_no h2 x
  · exact h1 (by simpa using x)
theorem read_numb {i : Int} (h0 : 0 ≤ i) (h1 : i < 10 ^ 18) (hne : i ≠ sumS (goodS far)) : readS (tx (sg (goodS far) ++ (sg (toString i : Str) ++ [59]))) = none := by
  have F := numF h0 h1
  refine read_good (fun h => ?_) fun e => ?_
  · rcases List.mem_append.mp h with x | x
    · have := F.dig 32 x; omega
    · simp at x
  · have e := sg_inj (List.append_cancel_right e)
    have b1 := F.back
    rw [e, (DD_F (far := far)).back] at b1
    exact hne (Option.some.inj b1).symm
theorem text_no {y : Str} {t : List Nat} (e : sg y = sg (goodS far) ++ t) (ht : ∀ c ∈ t, c < 128) (hl : t.length ≤ 100) (hn : readS (tx (sg (goodS far) ++ t)) = none) : TextNo y := by
  obtain ⟨g1, g2⟩ := good_ok far
  refine ⟨?_, by rw [← sg_len, e, List.length_append, sg_len]; omega, by rw [← tx_sg y, e]; exact hn⟩
  rw [asc_sg, e, List.all_append, ← asc_sg, g2, Bool.true_and, List.all_eq_true]
  exact fun c hc => decide_eq_true (ht c hc)
theorem sums_no : ∀ y ∈ sums far, TextNo y := by
  have hs := sumS_lt (goodS far)
  have F := DD_F (far := far)
  have Dl : (DD far).length ≤ 18 := F.most
  have D1 : 1 ≤ (DD far).length := F.one
  have Dc : ∀ c ∈ DD far, c < 128 := fun c hc => by have := F.dig c hc; omega
  have D32 : 32 ∉ DD far := DD_no (.inl (by decide))
  have F2 := numF (i := sumS (goodS far) + 65521) (by omega) (by omega)
  have F3 := numF (i := (sumS (goodS far) + 1) % 65521) (by omega) (by omega)
  have dig : ∀ {i : Int}, NumF i → ∀ c ∈ sg (toString i : Str) ++ [59], c < 128 := fun F c hc => by
    rcases List.mem_append.mp hc with x | x
    · have := F.dig c x; omega
    · rw [List.mem_singleton.mp x]; decide
  have k59 : sg (";" : Str) = [59] := by decide
  have k48 : sg ("0" : Str) = [48] := by decide
  have k32 : sg (" " : Str) = [32] := by decide
  have k95 : sg ("_" : Str) = [95] := by decide
  have k10 : sg ("\n" : Str) = [10] := by decide
  have k45 : sg ("-" : Str) = [45] := by decide
  have k43 : sg ("+" : Str) = [43] := by decide
  have hD : sg (toString (sumS (goodS far)) : Str) = DD far := rfl
  have sl1 : PySem.Txt.slice (toString (sumS (goodS far)) : Str) none (some 1) = tx ((DD far).take 1) := slice_to (j := 1) D1
  have sl2 : PySem.Txt.slice (toString (sumS (goodS far)) : Str) (some 1) none = tx ((DD far).drop 1) := slice_from (j := 1) D1
  have one : ∀ (c : Nat), c < 128 → ∀ d ∈ c :: (DD far ++ [59]), d < 128 := fun c hc d hd => by
    rcases List.mem_cons.mp hd with x | x
    · rw [x]; exact hc
    · rcases List.mem_append.mp x with x | x
      · exact Dc d x
      · rw [List.mem_singleton.mp x]; decide
  have one32 : ∀ (c : Nat), c ≠ 32 → 32 ∉ c :: (DD far ++ [59]) := fun c hc h => by
    rcases List.mem_cons.mp h with x | x
    · exact hc x.symm
    · rcases List.mem_append.mp x with x | x
      · exact D32 x
      · simp at x
  unfold sums sm0 sm1 sm2 sm3 sm4
  simp only [List.cons_append, List.nil_append, List.mem_cons, List.not_mem_nil, or_false]
  rintro y (rfl | rfl | rfl | rfl | rfl | rfl | rfl | rfl | rfl | rfl | rfl | rfl | rfl | rfl)
  · exact text_no (far := far) (t := sg (toString (sumS (goodS far) + 65521) : Str) ++ [59]) (by rw [sg_append, sg_append, k59, List.append_assoc]) (dig F2) (by have := F2.most; rw [List.length_append]; show _ + 1 ≤ 100; omega) (read_numb (by omega) (by omega) (by omega))
  · refine text_no (far := far) (t := 48 :: (DD far ++ [59])) (by rw [sg_append, sg_append, sg_append, k59, k48, hD]; simp) (one 48 (by decide)) (by simp; omega) (read_good (one32 48 (by decide)) fun e => ?_)
    have := congrArg List.length e
    simp at this
  · exact text_no (far := far) (t := sg (toString ((sumS (goodS far) + 1) % 65521) : Str) ++ [59]) (by rw [sg_append, sg_append, k59, List.append_assoc]) (dig F3) (by have := F3.most; rw [List.length_append]; show _ + 1 ≤ 100; omega) (read_numb (by omega) (by omega) (by omega))
  · refine text_no (far := far) (t := DD far) (by rw [sg_append]; rfl) Dc (by omega) (read_no59 fun h => ?_)
    rcases List.mem_append.mp h with x | x
    · exact good_no59 x
    · exact DD_no (.inr (by decide)) x
  · refine text_no (far := far) (t := [59]) (by rw [sg_append, k59]) (by simp) (by simp) (read_good (by simp) fun e => ?_)
    have := congrArg List.length e
    rw [List.length_append] at this
    simp only [List.length_cons, List.length_nil] at this
    omega
  · refine text_no (far := far) (t := DD far ++ [32, 59]) (by rw [sg_append, sg_append, hD, List.append_assoc]; congr 2) (fun c hc => ?_) (by simp; omega) ?_
    · rcases List.mem_append.mp hc with x | x
      · exact Dc c x
      · simp at x; omega
    · rw [sg_good, show uu far ++ [32] ++ (DD far ++ [32, 59]) = (uu far ++ 32 :: DD far) ++ 32 :: [59] by simp, read_at (by simp), if_neg]
      intro e
      have h1 := (dgF (uu far ++ 32 :: DD far ++ [32])).one
      have := congrArg List.length e
      rw [List.length_append] at this
      unfold DG at this
      simp only [List.length_cons, List.length_nil] at this
      omega
  · refine text_no (far := far) (t := 32 :: (DD far ++ [59])) (by rw [sg_append, sg_append, sg_append, k59, k32, hD]; simp) (one 32 (by decide)) (by simp; omega) ?_
    have t59 : 32 ∉ DD far ++ [59] := fun h => by
      rcases List.mem_append.mp h with x | x
      · exact D32 x
      · simp at x
    rw [sg_good, show uu far ++ [32] ++ 32 :: (DD far ++ [59]) = JJ (sg "cut") ([sg "3", sg "a", sg (toString (far % 1000) : Str)] ++ [[]]) ++ 32 :: (DD far ++ [59]) by rw [JJ_append]; simp [uu], read_at t59]
    split
    · unfold JJ
      rw [splitL_words _ _ (by
        intro v hv
        rcases List.mem_cons.mp hv with x | x
        · exact good_no32 (far := far) v (by rw [x]; exact List.mem_cons_self ..)
        · rcases List.mem_append.mp x with x | x
          · exact good_no32 (far := far) v (List.mem_cons_of_mem _ x)
          · rw [List.mem_singleton.mp x]; simp)]
      exact rowS_count (ks := ["number", "name", "number"]) (by decide +kernel) (by simp)
    · rfl
  · refine text_no (far := far) (t := (DD far).take 1 ++ 95 :: ((DD far).drop 1 ++ [59])) (by rw [sl1, sl2, sg_append, sg_append, sg_append, sg_append, sg_tx, sg_tx, k59, k95]; simp) (fun c hc => ?_) (by simp; omega) (read_char (c := 95) ?_ (by simp) (by decide) (.inr (by decide)))
    · rcases List.mem_append.mp hc with x | x
      · exact Dc c (List.mem_of_mem_take x)
      · rcases List.mem_cons.mp x with x | x
        · rw [x]; decide
        · rcases List.mem_append.mp x with x | x
          · exact Dc c (List.mem_of_mem_drop x)
          · rw [List.mem_singleton.mp x]; decide
    · intro hc
      rcases List.mem_append.mp hc with x | x
      · exact D32 (List.mem_of_mem_take x)
      · rcases List.mem_cons.mp x with x | x
        · cases x
        · rcases List.mem_append.mp x with x | x
          · exact D32 (List.mem_of_mem_drop x)
          · simp at x
  · refine text_no (far := far) (t := DD far ++ [10, 59]) (by rw [sg_append, sg_append, hD, List.append_assoc]; congr 2) (fun c hc => ?_) (by simp; omega) (read_char (c := 10) (fun hc => ?_) (by simp) (by decide) (.inl (by decide)))
    · rcases List.mem_append.mp hc with x | x
      · exact Dc c x
      · simp at x; omega
    · rcases List.mem_append.mp hc with x | x
      · exact D32 x
      · simp at x
  · exact text_no (far := far) (t := 10 :: (DD far ++ [59])) (by rw [sg_append, sg_append, sg_append, k59, k10, hD]; simp) (one 10 (by decide)) (by simp; omega) (read_char (c := 10) (one32 10 (by decide)) (List.mem_cons_self ..) (by decide) (.inl (by decide)))
  · exact text_no (far := far) (t := 45 :: (DD far ++ [59])) (by rw [sg_append, sg_append, sg_append, k59, k45, hD]; simp) (one 45 (by decide)) (by simp; omega) (read_char (c := 45) (one32 45 (by decide)) (List.mem_cons_self ..) (by decide) (.inl (by decide)))
  · exact text_no (far := far) (t := 43 :: (DD far ++ [59])) (by rw [sg_append, sg_append, sg_append, k59, k43, hD]; simp) (one 43 (by decide)) (by simp; omega) (read_char (c := 43) (one32 43 (by decide)) (List.mem_cons_self ..) (by decide) (.inl (by decide)))
  · have e : sg ((toString (sumS (goodS far)) : Str) ++ ";") = DD far ++ [59] := by rw [sg_append, k59]; rfl
    refine ⟨?_, ?_, ?_⟩
    · rw [asc_sg, e, List.all_eq_true]
      exact fun c hc => decide_eq_true (dig F c hc)
    · rw [← sg_len, e]; simp; omega
    · rw [← tx_sg ((toString (sumS (goodS far)) : Str) ++ ";"), e]
      refine read_no fun h => ?_
      rcases List.mem_append.mp h with x | x
      · exact D32 x
      · simp at x
  · exact ⟨by rw [asc_sg]; decide +kernel, by decide, by rw [show (";" : Str) = tx [59] by decide +kernel]; exact read_no (by simp)⟩
end
abbrev s__law_ends : Stmt := top 48
abbrev s__law_spelled : Stmt := top 49
abbrev s_law : Stmt := top 50
theorem made_of {z y : Str} {m : Int} (h : ∀ c ∈ sg z, c ∈ sg y) (h1 : 1 ≤ z.length) (h2 : (z.length : Int) ≤ m) : madeS z y m = true := by
  unfold madeS
  rw [decide_eq_true (show (1 : Int) ≤ z.length by omega), decide_eq_true h2]
  rw [Bool.true_and, Bool.true_and, List.all_eq_true]
  exact fun c hc => List.contains_iff_mem.mpr (h c hc)
def numI (i : Int) : Prop := 0 ≤ i ∧ i < 10 ^ 18
inductive RowOk : List V → Prop
  | put (n g : Int) (b : Bool) (nm : Str) (pl : Int) (wd : Str) : numI n → numI g → numI pl → nameS nm = true → wordS wd = true → RowOk [.str "put", .int n, .int g, .bl b, .str nm, .int pl, .str wd]
  | cut (n : Int) (nm : Str) (pl : Int) : numI n → numI pl → nameS nm = true → RowOk [.str "cut", .int n, .str nm, .int pl]
  | hold (n : Int) (nm : Str) : numI n → nameS nm = true → RowOk [.str "hold", .int n, .str nm]
  | free (n : Int) (nm : Str) : numI n → nameS nm = true → RowOk [.str "free", .int n, .str nm]
  | carry (n g : Int) (wd : Str) : numI n → numI g → wordS wd = true → RowOk [.str "carry", .int n, .int g, .str wd]
/-! ### a row's text is read as the row -/
theorem summed_body {l : List Nat} (hl : ∃ a, l = a ++ [32]) : bodyAt (summedS (tx l)) = tx l := by
  obtain ⟨a, rfl⟩ := hl
  have F := numF (sumS_lt (tx (a ++ [32]))).1 (by have := (sumS_lt (tx (a ++ [32]))).2; omega)
  have e : sg (summedS (tx (a ++ [32]))) = a ++ 32 :: (sg (toString (sumS (tx (a ++ [32]))) : Str) ++ [59]) := by
    unfold summedS
    rw [sg_append, sg_append, sg_tx]
    simp
    decide +kernel
  refine bodyAt_of e fun h => ?_
  rcases List.mem_append.mp h with h | h
  · have := F.dig 32 h; omega
  · simp at h
theorem made_no {z y : Str} {m : Int} (h : madeS z y m = true) (hy : 32 ∉ sg y) : 32 ∉ sg z := by
  unfold madeS at h
  rw [Bool.and_eq_true] at h
  intro hz
  exact hy (List.contains_iff_mem.mp (List.all_eq_true.mp h.2 32 hz))
theorem name_no {z : Str} (h : nameS z = true) : 32 ∉ sg z := made_no h (by decide +kernel)
theorem word_no {z : Str} (h : wordS z = true) : 32 ∉ sg z := made_no h (by decide +kernel)
theorem num_no {i : Int} (h : numI i) : 32 ∉ sg (toString i : Str) := fun hz => by
  have := (numF h.1 h.2).dig 32 hz
  omega
theorem made_asc {z y : Str} {m : Int} (h : madeS z y m = true) (hy : ∀ c ∈ sg y, c < 128) (hm : m ≤ 100) : asc z = true ∧ z.length ≤ 100 := by
  unfold madeS at h
  rw [Bool.and_eq_true, Bool.and_eq_true, decide_eq_true_eq, decide_eq_true_eq] at h
  refine ⟨?_, by omega⟩
  rw [asc_sg, List.all_eq_true]
  exact fun c hc => decide_eq_true (hy c (List.contains_iff_mem.mp (List.all_eq_true.mp h.2 c hc)))
theorem name_part {z : Str} (h : nameS z = true) : Part (.str z) := by
  obtain ⟨a, b⟩ := made_asc h (by decide +kernel) (by decide)
  exact .str z a b
theorem word_part {z : Str} (h : wordS z = true) : Part (.str z) := by
  obtain ⟨a, b⟩ := made_asc h (by decide +kernel) (by decide)
  exact .str z a b
theorem num_part {i : Int} (h : numI i) : Part (.int i) := .int i h.1 h.2
theorem num_num {i : Int} (h : numI i) : numS (toString i : Str) = true := by
  have F := numF h.1 h.2
  unfold numS
  rw [Bool.and_eq_true]
  constructor
  · refine made_of (fun c hc => ?_) (by rw [← sg_len]; exact F.one) (by rw [← sg_len]; have := F.most; omega)
    have hf : sg FIG = [48, 49, 50, 51, 52, 53, 54, 55, 56, 57] := by decide
    rw [hf]
    have := F.dig c hc
    simp
    omega
  · rcases F.head with h | ⟨c, r, e, hc⟩
    · rw [decide_eq_true h]; rfl
    · rw [e]
      have : ¬ tx (List.take 1 (c :: r)) = ("0" : Str) := fun x => by
        have := congrArg sg x
        rw [sg_tx] at this
        have h0 : sg ("0" : Str) = [48] := by decide
        rw [h0] at this
        injection this with h1 _
        omega
      rw [decide_eq_false this]
      simp
theorem read_num {i : Int} (h : numI i) : readP "number" (toString i : Str) = some (.int i) := by
  unfold readP
  rw [if_pos ⟨rfl, num_num h⟩, (numF h.1 h.2).back]
  rfl
theorem read_name {z : Str} (h : nameS z = true) : readP "name" z = some (.str z) := by
  unfold readP
  rw [if_neg (fun x => absurd x.1 (by decide +kernel)), if_neg (fun x => absurd x.1 (by decide +kernel)), if_pos ⟨rfl, h⟩]
theorem read_word {z : Str} (h : wordS z = true) : readP "word" z = some (.str z) := by
  unfold readP
  rw [if_neg (fun x => absurd x.1 (by decide +kernel)), if_neg (fun x => absurd x.1 (by decide +kernel)), if_neg (fun x => absurd x.1 (by decide +kernel)), if_pos ⟨rfl, h⟩]
theorem read_end (b : Bool) : readP "end" (partT (.bl b)) = some (.bl b) := by cases b <;> decide +kernel
/-- what is written of words, read -/
theorem read_words {xs : List V} {v : V} (hn : ∀ u ∈ v :: xs, 32 ∉ sg (partT u)) : readS (rowT (v :: xs)) = rowS ((v :: xs).map partT) := by
  have flat : ∀ l : List V, aheadL l = (l.map fun u => sg (partT u) ++ [32]).flatten := fun l => rfl
  have ap : ∀ (u : V) (l : List V), aheadL (u :: l) = sg (partT u) ++ 32 :: aheadL l := fun u l => by simp [aheadL]
  -- what stands behind the first blank
  have key : ∀ (u : V) (l : List V), aheadL (u :: l) = sg (partT u) ++ ((l.map fun t => sg (partT t)).map (32 :: ·)).flatten ++ [32] := by
    intro u l
    induction l generalizing u with
    | nil => simp [aheadL]
    | cons t l ih =>
      rw [ap u (t :: l), ih t]
      simp
  have hb : bodyAt (rowT (v :: xs)) = tx (aheadL (v :: xs)) := summed_body ⟨_, key v xs⟩
  have hs : bodyS (rowT (v :: xs)) = some (tx (aheadL (v :: xs))) := by
    unfold bodyS
    rw [hb]
    exact if_pos rfl
  unfold readS
  rw [hs]
  show rowS (PySem.Txt.split (PySem.Txt.slice (tx (aheadL (v :: xs))) none (some (-1))) (c1 32)) = _
  rw [slice_but_last (by rw [sg_tx, key, List.length_append]; exact Nat.lt_of_lt_of_le (by decide) (Nat.le_add_left _ _)), sg_tx, key, List.dropLast_concat, split_one _ (by decide), sg_tx, splitL_words]
  · congr 1
    rw [List.map_cons, List.map_map, List.map_cons, tx_sg]
    congr 1
  · intro u hu
    rcases List.mem_cons.mp hu with rfl | hu
    · exact hn v (List.mem_cons_self ..)
    · obtain ⟨t, ht, rfl⟩ := List.mem_map.mp hu
      exact hn t (List.mem_cons_of_mem _ ht)
theorem RowOk.read {xs : List V} (h : RowOk xs) : readS (rowT xs) = some xs := by
  have bno : ∀ b : Bool, 32 ∉ sg (partT (.bl b)) := fun b => by cases b <;> decide
  cases h with
  | put n g b nm pl wd h1 h2 h3 h4 h5 =>
    rw [read_words (by
      simp only [List.mem_cons, List.not_mem_nil, or_false]
      rintro u (rfl | rfl | rfl | rfl | rfl | rfl | rfl)
      · decide +kernel
      · exact num_no h1
      · exact num_no h2
      · exact bno b
      · exact name_no h4
      · exact num_no h3
      · exact word_no h5)]
    have ek : kindsS "put" = some (["number", "number", "end", "name", "number", "word"] : List Str) := by decide +kernel
    show rowS [("put" : Str), (toString n : Str), (toString g : Str), partT (.bl b), nm, (toString pl : Str), wd] = _
    rw [rowS_cons, ek]
    simp only [Option.bind_some, List.length_cons, List.length_nil, if_true, readPs, read_num h1, read_num h2, read_end, read_name h4, read_num h3, read_word h5, Option.map_some]
  | cut n nm pl h1 h2 h3 =>
    rw [read_words (by
      simp only [List.mem_cons, List.not_mem_nil, or_false]
      rintro u (rfl | rfl | rfl | rfl)
      · decide +kernel
      · exact num_no h1
      · exact name_no h3
      · exact num_no h2)]
    have ek : kindsS "cut" = some (["number", "name", "number"] : List Str) := by decide +kernel
    show rowS [("cut" : Str), (toString n : Str), nm, (toString pl : Str)] = _
    rw [rowS_cons, ek]
    simp only [Option.bind_some, List.length_cons, List.length_nil, if_true, readPs, read_num h1, read_name h3, read_num h2, Option.map_some]
  | hold n nm h1 h2 =>
    rw [read_words (by
      simp only [List.mem_cons, List.not_mem_nil, or_false]
      rintro u (rfl | rfl | rfl)
      · decide +kernel
      · exact num_no h1
      · exact name_no h2)]
    have ek : kindsS "hold" = some (["number", "name"] : List Str) := by decide +kernel
    show rowS [("hold" : Str), (toString n : Str), nm] = _
    rw [rowS_cons, ek]
    simp only [Option.bind_some, List.length_cons, List.length_nil, if_true, readPs, read_num h1, read_name h2, Option.map_some]
  | free n nm h1 h2 =>
    rw [read_words (by
      simp only [List.mem_cons, List.not_mem_nil, or_false]
      rintro u (rfl | rfl | rfl)
      · decide +kernel
      · exact num_no h1
      · exact name_no h2)]
    have ek : kindsS "free" = some (["number", "name"] : List Str) := by decide +kernel
    show rowS [("free" : Str), (toString n : Str), nm] = _
    rw [rowS_cons, ek]
    simp only [Option.bind_some, List.length_cons, List.length_nil, if_true, readPs, read_num h1, read_name h2, Option.map_some]
  | carry n g wd h1 h2 h3 =>
    rw [read_words (by
      simp only [List.mem_cons, List.not_mem_nil, or_false]
      rintro u (rfl | rfl | rfl | rfl)
      · decide +kernel
      · exact num_no h1
      · exact num_no h2
      · exact word_no h3)]
    have ek : kindsS "carry" = some (["number", "number", "word"] : List Str) := by decide +kernel
    show rowS [("carry" : Str), (toString n : Str), (toString g : Str), wd] = _
    rw [rowS_cons, ek]
    simp only [Option.bind_some, List.length_cons, List.length_nil, if_true, readPs, read_num h1, read_num h2, read_word h3, Option.map_some]
theorem RowOk.parts {xs : List V} (h : RowOk xs) : xs.length ≤ 10 ∧ xs.all flatV = true ∧ (∀ v ∈ xs, ∀ b, v ≠ .byt b) ∧ ∀ v ∈ xs, Part v := by
  have kp : ∀ z : Str, asc z = true → z.length ≤ 100 → Part (.str z) := fun z a b => .str z a b
  cases h with
  | put n g b nm pl wd h1 h2 h3 h4 h5 =>
    refine ⟨by simp, rfl, by simp, ?_⟩
    simp only [List.mem_cons, List.not_mem_nil, or_false]
    rintro u (rfl | rfl | rfl | rfl | rfl | rfl | rfl)
    · exact kp _ (by rw [asc_sg]; decide +kernel) (by decide)
    · exact num_part h1
    · exact num_part h2
    · exact .bl b
    · exact name_part h4
    · exact num_part h3
    · exact word_part h5
  | cut n nm pl h1 h2 h3 =>
    refine ⟨by simp, rfl, by simp, ?_⟩
    simp only [List.mem_cons, List.not_mem_nil, or_false]
    rintro u (rfl | rfl | rfl | rfl)
    · exact kp _ (by rw [asc_sg]; decide +kernel) (by decide)
    · exact num_part h1
    · exact name_part h3
    · exact num_part h2
  | hold n nm h1 h2 =>
    refine ⟨by simp, rfl, by simp, ?_⟩
    simp only [List.mem_cons, List.not_mem_nil, or_false]
    rintro u (rfl | rfl | rfl)
    · exact kp _ (by rw [asc_sg]; decide +kernel) (by decide)
    · exact num_part h1
    · exact name_part h2
  | free n nm h1 h2 =>
    refine ⟨by simp, rfl, by simp, ?_⟩
    simp only [List.mem_cons, List.not_mem_nil, or_false]
    rintro u (rfl | rfl | rfl)
    · exact kp _ (by rw [asc_sg]; decide +kernel) (by decide)
    · exact num_part h1
    · exact name_part h2
  | carry n g wd h1 h2 h3 =>
    refine ⟨by simp, rfl, by simp, ?_⟩
    simp only [List.mem_cons, List.not_mem_nil, or_false]
    rintro u (rfl | rfl | rfl | rfl)
    · exact kp _ (by rw [asc_sg]; decide +kernel) (by decide)
    · exact num_part h1
    · exact num_part h2
    · exact word_part h3
section
variable {P : Program} {w : World} {K : PySem.W.Frag} {mg : Str → Option Value} {base : Heap} {A : ClsA}
def spEnds : Sp := fun vs H Q _ => vs = [] ∧ ∀ (l : Addr) (ps : List Addr) (H' : Hp), Same H H' → H' l = some (.lst (ps.map V.ref)) → ps.length = 6 → (∀ p ∈ ps, ∃ xs, H' p = some (.tup xs) ∧ RowOk xs) → Q (.ref l) H'
theorem num0 : numI 0 := ⟨by decide, by decide⟩
theorem sc__law_ends : FnScope ["_law_far", "_law_some"] [] (defScope s__law_ends) := ⟨rfl, rfl, rfl, by decide +kernel, rfl, by decide +kernel, by decide +kernel⟩
theorem ok__law_ends {f : Addr} {fd : FuncData} (F : Fun K "_law_ends" "_law_ends" s__law_ends f fd) (T : Txt w K mg A) : FnOk P w K mg base CX0 true 1 f fd [] spEnds := by
  refine F.ok sc__law_ends (fun vs H Q E h => ?_) (fun cdv Ar outer s H vs Q E hr h => ?_)
  · obtain ⟨rfl, _⟩ := h; rfl
  · obtain ⟨rfl, q⟩ := h
    refine ⟨_, (W.h (w_pss_cons (w_ps_set (i := 0) sc__law_ends.nd rfl (Or.inl rfl) (w_pe_op op_sub (w_pe_op op_pow w_pe_int w_pe_int) w_pe_int))
      (w_pss_cons (w_ps_set (i := 1) sc__law_ends.nd rfl (Or.inl rfl) (w_pe_lstA (w_pa_p (w_pe_tupA (w_pa_p w_pe_str (w_pa_p w_pe_int (w_pa_p (w_pv 0) (w_pa_p w_pe_bl (w_pa_p w_pe_str (w_pa_p w_pe_int (w_pa_p w_pe_str w_pa_nil)))))))) (w_pa_p (w_pe_tupA (w_pa_p w_pe_str (w_pa_p (w_pv 0) (w_pa_p w_pe_int (w_pa_p w_pe_bl (w_pa_p w_pe_str (w_pa_p (w_pv 0) (w_pa_p (w_pe_op op_mulS w_pe_str w_pe_int) w_pa_nil)))))))) (w_pa_p (w_pe_tupA (w_pa_p w_pe_str (w_pa_p w_pe_int (w_pa_p w_pe_str (w_pa_p w_pe_int w_pa_nil))))) w_pa_nil)))))
      (w_pss_one (w_ps_ret (w_pe_op op_addU (w_pv 1) (w_pe_lstA (w_pa_p (w_pe_tupA (w_pa_p w_pe_str (w_pa_p w_pe_int (w_pa_p w_pe_str w_pa_nil)))) (w_pa_p (w_pe_tupA (w_pa_p w_pe_str (w_pa_p (w_pv 0) (w_pa_p w_pe_str w_pa_nil)))) (w_pa_p (w_pe_tupA (w_pa_p w_pe_str (w_pa_p (w_pv 0) (w_pa_p (w_pv 0) (w_pa_p (w_pe_op op_mulS w_pe_str w_pe_int) w_pa_nil))))) w_pa_nil)))))))))), ?_⟩
    simp_all only []
    have nf : numI ((10 : Int) ^ Int.toNat 18 - 1) := ⟨by decide, by decide⟩
    refine ⟨⟨by decide, by decide, by decide⟩, by decide, fun p1 H1 n1 => ⟨by decide, by decide, by decide, by decide, by decide, fun p2 H2 n2 => ⟨by decide, fun p3 H3 n3 => ⟨by decide, fun l4 H4 n4 _ => ⟨by decide, fun p5 H5 n5 => ⟨by decide, fun p6 H6 n6 => ⟨by decide, by decide, by decide, by decide, by decide, fun p7 H7 n7 => ⟨by decide, fun l8 H8 n8 _ => ?_⟩⟩⟩⟩⟩⟩⟩⟩
    have s48 : Same H4 H8 := ((n5.same.trans n6.same).trans n7.same).trans n8.same
    refine ⟨_, s48 _ _ n4.at_, _, n8.at_, big5 (by simp), fun l9 H9 n9 => ?_⟩
    have s49 := s48.trans n9.same
    have s39 := n4.same.trans s49
    refine q l9 [p1, p2, p3, p5, p6, p7] H9 (((n1.same.trans n2.same).trans n3.same).trans s39) n9.at_ rfl ?_
    simp only [List.mem_cons, List.not_mem_nil, or_false]
    rintro p (rfl | rfl | rfl | rfl | rfl | rfl)
    · exact ⟨_, s39 _ _ (n3.same _ _ (n2.same _ _ n1.at_)), .put 0 _ false "a" 0 "0" num0 nf num0 (by decide +kernel) (by decide +kernel)⟩
    · exact ⟨_, s39 _ _ (n3.same _ _ n2.at_), .put _ 0 true "zzzzzz" _ _ nf num0 nf (by decide +kernel) (by decide +kernel)⟩
    · exact ⟨_, s39 _ _ n3.at_, .cut 0 "z" 0 num0 num0 (by decide +kernel)⟩
    · exact ⟨_, n9.same _ _ (n8.same _ _ (n7.same _ _ (n6.same _ _ n5.at_))), .hold 0 "abcdef" num0 (by decide +kernel)⟩
    · exact ⟨_, n9.same _ _ (n8.same _ _ (n7.same _ _ n6.at_)), .free _ "a" nf (by decide +kernel)⟩
    · exact ⟨_, n9.same _ _ (n8.same _ _ n7.at_), .carry _ _ _ nf nf (by decide +kernel)⟩
theorem at2_0 {a b : V} : atI [a, b] 0 = some a := rfl
theorem at2_1 {a b : V} : atI [a, b] 1 = some b := rfl
def spSpelled : Sp := fun vs H Q _ => ∃ a v xs, vs = [.ref a] ∧ H a = some (.tup (v :: xs)) ∧ (v :: xs).length ≤ 10 ∧ (∀ u ∈ v :: xs, Part u) ∧ ∀ H', Same H H' → Q (.str (rowT (v :: xs))) H'
structure SpInv (H : Hp) (xs : List V) (i : Nat) (τ : L2.St) (ys : List V) (H' : Hp) : Prop where
  ex : ∃ t, τ = [t]
  ys : ys = ((xs.take i).map partT).map V.str
  same : Same H H'
  le : i ≤ 10
theorem join_sp : ∀ (v : Str) (ws : List Str), sg (PySem.Txt.join " " (v :: ws)) ++ [32] = ((v :: ws).map fun u => sg u ++ [32]).flatten := by
  intro v ws
  have e : PySem.Txt.join " " (v :: ws) = Str.join " " (v :: ws) := StrLaws.glued_eq_join " " (v :: ws)
  rw [e]
  induction ws generalizing v with
  | nil => show sg v ++ [32] = _; simp
  | cons x ws ih =>
    have ih := ih x (StrLaws.glued_eq_join " " _)
    show sg (v ++ " " ++ Str.join " " (x :: ws)) ++ [32] = _
    rw [sg_append, sg_append, List.append_assoc, ih]
    have : sg (" " : Str) = [32] := by decide
    rw [this]
    simp
theorem sc__law_spelled : FnScope ["_law_row_here", "_law_some"] ["_law_row_here"] (defScope s__law_spelled) := ⟨rfl, rfl, rfl, by decide +kernel, rfl, by decide +kernel, by decide +kernel⟩
theorem lc__law_spelled_0 : lcStat { kind := .function, names := [(Str.ofString ".0", .local), (Str.ofString "_law_part", .local), (Str.ofString "str", .globalImplicit), (Str.ofString "int", .globalImplicit)], isGenerator := false, isCoroutine := false, more := [] } (defScope s__law_spelled).names ["_law_row_here", "_law_some"] ["_law_part"] [none] = true := by decide +kernel
theorem lcn__law_spelled_0 : (["_law_part"] : List Str).Nodup := by decide +kernel
theorem ok__law_spelled {f : Addr} {fd : FuncData} (F : Fun K "_law_spelled" "_law_spelled" s__law_spelled f fd) (T : Txt w K mg A) (G__law_closed : GF P w K mg base true 2 "_law_closed" ["_law_ahead"] spSummed) : FnOk P w K mg base CX0 true 3 f fd ["_law_row_here"] spSpelled := by
  refine F.ok sc__law_spelled (fun vs H Q E h => ?_) (fun cdv Ar outer s H vs Q E hr h => ?_)
  · obtain ⟨a, v, xs, rfl, _⟩ := h; rfl
  · obtain ⟨a, v, xs, rfl, hH, hl, hp, q⟩ := h
    refine ⟨_, (W.h (w_pss_cons (w_ps_setLC (i0 := 1) sc__law_spelled.nd rfl (Or.inl rfl) (fun _ => rfl) (LcOk.of lc__law_spelled_0) (w_pi_tup (w_pv 0)) (fun _ _ _ _ _ => (w_pg_name (i := 0) lcn__law_spelled_0 rfl (Or.inl rfl))) (fun _ _ _ _ _ => w_pts_nil) (fun _ _ _ _ _ => (w_pe_ix ix_U (w_pe_lstA (w_pa_p (w_pe_callTyp call_strB rfl T.n_str boot_str (w_pa_p (w_pv 0) w_pa_nil)) (w_pa_p (w_pe_callTyp call_strB rfl T.n_str boot_str (w_pa_p (w_pe_callTyp call_intT rfl T.n_int boot_int (w_pa_p (w_pe_cmpR op_isV (w_pv 0) w_pe_bl (nomark _)) w_pa_nil)) w_pa_nil)) w_pa_nil))) (w_pe_callTyp call_intT rfl T.n_int boot_int (w_pa_p (w_pe_or (w_pe_cmpR op_isV (w_pv 0) w_pe_bl (nomark _)) (w_pe_one (w_pe_cmpR op_isV (w_pv 0) w_pe_bl (nomark _)))) w_pa_nil)) (fun _ _ => rfl))))
      (w_pss_one (w_ps_ret (w_pe_g G__law_closed hr rfl (w_pa_p (w_pe_op op_addU (w_pe_b_join w_pe_str (w_pv 1)) w_pe_str) w_pa_nil)))))), ?_⟩
    simp_all only []
    refine ⟨⟨_, SqT.of hH⟩, CompJ.tup (xs := v :: xs) (SpInv H (v :: xs)) (fun i τ ys H' I => ?_) (fun i τ ys H' I => SqT.of (I.same _ _ hH)) ⟨⟨_, rfl⟩, by simp, Same.refl _, by omega⟩ ?_ ?_⟩
    · rw [I.ys, List.length_map, List.length_map, List.length_take]
      exact big5' (by omega)
    · intro N i x τ ys H' hx I hN
      obtain ⟨t, rfl⟩ := I.ex
      have hP := hp x (List.mem_of_getElem? hx)
      have hi : i < (v :: xs).length := (List.getElem?_eq_some_iff.mp hx).1
      have nx : ∀ (tt : Option V) (H2 : Hp), Same H' H2 → N [tt] (ys ++ [.str (partT x)]) H2 := fun tt H2 s2 => hN _ _ _ ⟨⟨_, rfl⟩, by rw [I.ys, List.take_add_one, hx]; simp, I.same.trans s2, by omega⟩
      cases hP with
      | bl b =>
        cases b with
        | true =>
          simp_all only [decide_false, decide_true]
          refine ⟨rfl, log_small (by decide), by decide, fun p H2 n2 _ => ⟨rfl, ?_⟩⟩
          simp_all only [n2.at_, at2_1]
          exact nx _ H2 n2.same
        | false =>
          simp_all only [decide_false, decide_true]
          refine ⟨rfl, log_small (by decide), by decide, fun p H2 n2 _ => ⟨rfl, rfl, ?_⟩⟩
          simp_all only [n2.at_, at2_1]
          exact nx _ H2 n2.same
      | int k h0 h1 =>
        simp_all only [decide_false, decide_true]
        refine ⟨log_small (by omega), rfl, log_small (by decide), by decide, fun p H2 n2 _ => ⟨rfl, rfl, ?_⟩⟩
        simp_all only [n2.at_, at2_0]
        exact nx _ H2 n2.same
      | str z za zl =>
        simp_all only [decide_false, decide_true]
        refine ⟨rfl, log_small (by decide), by decide, fun p H2 n2 _ => ⟨rfl, rfl, ?_⟩⟩
        simp_all only [n2.at_, at2_0]
        exact nx _ H2 n2.same
    · intro τ ys H' I D H2 n2
      have hall : (v :: xs).take (v :: xs).length = v :: xs := List.take_of_length_le (Nat.le_refl _)
      rw [rJoin_sr]
      obtain ⟨l1, l2⟩ := ahead_len hp
      have ej : PySem.Txt.join " " ((v :: xs).map partT) ++ " " = tx (aheadL (v :: xs)) := by
        refine sg_inj ?_
        rw [sg_append, sg_tx, show sg (" " : Str) = [32] by decide, List.map_cons, join_sp, ← List.map_cons]
        unfold aheadL
        rw [List.map_map]
        rfl
      have sl : (((v :: xs).map partT).map (·.length)).sum ≤ (aheadL (v :: xs)).length := by
        unfold aheadL
        rw [List.length_flatten, List.map_map, List.map_map]
        generalize v :: xs = zs
        induction zs with
        | nil => simp
        | cons z zs ih =>
          rw [List.map_cons, List.map_cons, List.sum_cons, List.sum_cons]
          have : ((fun x : Str => x.length) ∘ partT) z ≤ (List.length ∘ fun v => sg (partT v) ++ [32]) z := by
            show (partT z).length ≤ (sg (partT z) ++ [32]).length
            rw [List.length_append, sg_len]
            omega
          omega
      have jl : (PySem.Txt.join " " ((v :: xs).map partT)).length + (" " : Str).length = (aheadL (v :: xs)).length := by
        rw [← Str.length_append, ej, tx_len]
      refine ⟨(v :: xs).map partT, by rw [n2.at_, I.ys, hall], ?_, ?_⟩
      · rw [show (" " : Str).length = 1 by decide, List.length_map]
        omega
      · rw [List.map_cons] at ej jl
        simp_all only []
        refine ⟨big5 (by omega), _, rfl, by rw [ej, asc_tx]; exact l2, by rw [ej, tx_len]; omega, fun H3 s3 => ?_⟩
        rw [ej]
        exact q H3 ((I.same.trans n2.same).trans s3)
end
section
variable {P : Program} {w : World} {K : PySem.W.Frag} {mg : Str → Option Value} {base : Heap} {A : ClsA}
def spLaw (K : PySem.W.Frag) : Sp := fun vs H Q _ => ∃ (a : Addr) (ns : List Int), vs = [.ref a] ∧ SqL K H a (ns.map V.int) ∧ ns.length ≤ 63 ∧ ∀ H', Q (.bl true) H'
structure LawInv (H : Hp) (a : Addr) (σ : L2.St) (H' : Hp) : Prop where
  ex : ∃ t1 t2 t3 t4 t5 t6 t7, σ = [some (V.ref a), t1, t2, t3, t4, t5, t6, t7]
  same : Same H H'
structure EndInv (H : Hp) (i : Nat) (τ : L2.St) (ys : List V) (H' : Hp) : Prop where
  ex : ∃ t, τ = [t]
  ys : ys = (List.replicate i true).map V.bl
  same : Same H H'
  le : i ≤ 6
theorem Shows.same {H H' : Hp} {v : V} (s : Same H H') (h : Shows H v) : Shows H' v := by
  obtain ⟨t, f⟩ := h
  exact ⟨t, fun A' H2 Q s2 => f A' H2 Q (s.trans s2)⟩
theorem Bad.same {H H' : Hp} {v : V} (h : Bad H v) (s : Same H H') : Bad H' v := ⟨h.shows.same s, h.no.imp id fun t => t.same s⟩
theorem bad_str {H : Hp} {z : Str} (a : asc z = true) (l : z.length ≤ 100000) (n : readS z = none) : Bad H (.str z) := ⟨shows_str a l, .inl ⟨z, rfl, a, l, n⟩⟩
theorem summed_sp {b : Str} (ha : asc b = true) (hl : b.length ≤ 2000) : asc (summedS b) = true ∧ (summedS b).length ≤ 100000 := by
  have F := numF (sumS_lt b).1 (by have := (sumS_lt b).2; omega)
  have e : sg (summedS b) = sg b ++ sg (toString (sumS b) : Str) ++ [59] := by
    unfold summedS
    rw [sg_append, sg_append]
    rfl
  constructor
  · rw [asc_sg, e, List.all_append, List.all_append, ← asc_sg, ha]
    have : (sg (toString (sumS b) : Str)).all (· < 128) = true := by
      rw [List.all_eq_true]
      exact fun c hc => decide_eq_true (by have := F.dig c hc; omega)
    rw [this]
    decide
  · rw [← sg_len, e, List.length_append, List.length_append, sg_len b]
    have := F.most
    show _ + _ + 1 ≤ _
    omega
theorem bad_body {H : Hp} {b : Str} (h : BodyNo b) : Bad H (.str (summedS b)) := by
  have z := summed_sp h.a (by have := h.l; omega)
  exact bad_str z.1 z.2 h.n
theorem RowOk.sp {xs : List V} (h : RowOk xs) : asc (rowT xs) = true ∧ (rowT xs).length ≤ 100000 := by
  obtain ⟨p1, _, _, p4⟩ := h.parts
  obtain ⟨l1, l2⟩ := ahead_len p4
  exact summed_sp (by rw [asc_tx]; exact l2) (by rw [tx_len]; omega)
theorem RowOk.ne {xs : List V} (h : RowOk xs) : ∃ v zs, xs = v :: zs := by cases h <;> exact ⟨_, _, rfl⟩
theorem sums_len (far : Int) : (sums far).length = 14 := rfl
theorem bodies_len (far : Int) : (bodies far).length = 54 := rfl
theorem at3_0 {a b c : V} : atI [a, b, c] 0 = some a := rfl
theorem at3_1 {a b c : V} : atI [a, b, c] 1 = some b := rfl
theorem at3_2 {a b c : V} : atI [a, b, c] 2 = some c := rfl
theorem sc_law : FnScope ["_law_script", "_law_k", "_law_way", "_law_at_here", "_law_far", "_law_bodies_here", "_law_body", "_law_things_here"] ["_law_script"] (defScope s_law) := ⟨rfl, rfl, rfl, by decide +kernel, rfl, by decide +kernel, by decide +kernel⟩
theorem lc_law_0 : lcStat { kind := .function, names := [(Str.ofString ".0", .local), (Str.ofString "_law_row_here", .local), (Str.ofString "read_row", .globalImplicit), (Str.ofString "_law_spelled", .globalImplicit)], isGenerator := false, isCoroutine := false, more := [] } (defScope s_law).names ["_law_script", "_law_k", "_law_way", "_law_at_here", "_law_far", "_law_bodies_here", "_law_body", "_law_things_here"] ["_law_row_here"] [none] = true := by decide +kernel
theorem lcn_law_0 : (["_law_row_here"] : List Str).Nodup := by decide +kernel
theorem ok_law {f : Addr} {fd : FuncData} (F : Fun K "law" "law" s_law f fd) (T : Txt w K mg A) (G__law_row : GF P w K mg base true 2 "_law_row" ["_law_script", "_law_k", "_law_many", "_law_base"] (spRow K)) (G__law_bodies : GF P w K mg base true 1 "_law_bodies" ["_law_far"] (spBodies bodies)) (G__law_sums : GF P w K mg base true 2 "_law_sums" ["_law_far"] (spBodies sums))
    (G__law_things : GF P w K mg base true 3 "_law_things" ["_law_far"] spThings) (G__law_closed : GF P w K mg base true 2 "_law_closed" ["_law_ahead"] spSummed) (G__law_refused : GF P w K mg base true 6 "_law_refused" ["_law_thing"] spRefused) (G__law_ends : GF P w K mg base true 1 "_law_ends" [] spEnds)
    (G__law_spelled : GF P w K mg base true 3 "_law_spelled" ["_law_row_here"] spSpelled) (G_read_row : GX P w K mg base true 5 "read_row" ["text"] (spReadR A)) : FnOk P w K mg base CX0 true 9 f fd ["_law_script"] (spLaw K) := by
  refine F.ok sc_law (fun vs H Q E h => ?_) (fun cdv Ar outer s H vs Q E hr h => ?_)
  · obtain ⟨a, ns, rfl, _⟩ := h; rfl
  · obtain ⟨a, ns, rfl, hS, hl, q⟩ := h
    have hu : _ < cLine := Nat.lt_of_succ_lt (hu_of hr)
    refine ⟨_, (W.h (w_pss_cons (w_ps_for PassesOwn.never (fun _ => rfl) (w_pi_range1p rfl T.n_range (w_pa_p (w_pe_callBp (call_maxU rfl) rfl T.n_max boot_max (w_pa_p w_pe_int (w_pa_p (w_pe_callBp (call_minU rfl) rfl T.n_min boot_min (w_pa_p (w_pe_callBp call_len_seq rfl T.n_len PySem.boot_len (w_pa_p (w_pv 0) w_pa_nil)) (w_pa_p w_pe_int w_pa_nil))) w_pa_nil))) w_pa_nil)) (w_pg_name (i := 1) sc_law.nd rfl (Or.inl rfl))
      (w_pss_cons (w_ps_asg (w_pe_g G__law_row hr rfl (w_pa_p (w_pv 0) (w_pa_p (w_pv 1) (w_pa_p w_pe_int (w_pa_p (w_pe_op op_pow w_pe_int w_pe_int) w_pa_nil))))) (w_pg_lst rfl (n := 3) (w_pgs_cons (w_pg_name (i := 2) sc_law.nd rfl (Or.inl rfl)) (w_pgs_cons (w_pg_name (i := 3) sc_law.nd rfl (Or.inl rfl)) (w_pgs_cons (w_pg_name (i := 4) sc_law.nd rfl (Or.inl rfl)) w_pgs_nil)))))
      (w_pss_cons (w_ps_set (i := 5) sc_law.nd rfl (Or.inl rfl) (w_pe_g G__law_bodies hr rfl (w_pa_p (w_pv 4) w_pa_nil)))
      (w_pss_cons (w_ps_set (i := 6) sc_law.nd rfl (Or.inl rfl) (w_pe_ix ix_U (w_pv 5) (w_pe_op op_mod (w_pe_op op_addU (w_pv 3) (w_pe_op op_mulS w_pe_int (w_pv 1))) (w_pe_callBp call_lenU rfl T.n_len PySem.boot_len (w_pa_p (w_pv 5) w_pa_nil))) (fun _ _ => rfl)))
      (w_pss_cons (w_ps_set (i := 7) sc_law.nd rfl (Or.inl rfl) (w_pe_lstA (w_pa_p (w_pe_g G__law_closed hr rfl (w_pa_p (w_pe_ix ix_U (w_pv 5) (w_pe_op op_mod (w_pv 3) (w_pe_callBp call_lenU rfl T.n_len PySem.boot_len (w_pa_p (w_pv 5) w_pa_nil))) (fun _ _ => rfl)) w_pa_nil)) (w_pa_p (w_pe_ix ix_U (w_pe_g G__law_sums hr rfl (w_pa_p (w_pv 4) w_pa_nil)) (w_pe_op op_mod (w_pv 3) w_pe_int) (fun _ _ => rfl)) (w_pa_p (w_pe_ix ix_U (w_pe_g G__law_things hr rfl (w_pa_p (w_pv 4) w_pa_nil)) (w_pe_op op_mod (w_pv 3) w_pe_int) (fun _ _ => rfl)) w_pa_nil)))))
      (w_pss_one (w_ps_if (w_pt (w_pw_or (w_pt_not (w_pt_tru (w_pe_g G__law_refused hr rfl (w_pa_p (w_pe_ix ix_U (w_pv 7) (w_pe_op op_mod (w_pv 2) w_pe_int) (fun _ _ => rfl)) w_pa_nil)))) (w_pw_or1 (w_pt_not (w_pt_tru (w_pe_g G__law_refused hr rfl (w_pa_p (w_pe_g G__law_closed hr rfl (w_pa_p (w_pv 6) w_pa_nil)) w_pa_nil)))))))
      (w_pss_one (w_ps_ret w_pe_bl))
      w_pss_nil)))))))
      (w_pss_one (w_ps_ret (w_pe_callBp (call_allU rfl) rfl T.n_all boot_all (w_pa_p (w_pe_lc (fun _ => rfl) (LcOk.of lc_law_0) (w_pi_list (w_pe_g0 G__law_ends hr rfl)) (fun _ _ _ _ _ => (w_pg_name (i := 0) lcn_law_0 rfl (Or.inl rfl))) (fun _ _ _ _ _ => w_pts_nil) (fun _ _ _ _ _ => (w_pe_cmpR (op_eqT hu) (w_pe_gX throws_none G_read_row hr rfl (w_pa_p (w_pe_g G__law_spelled hr rfl (w_pa_p (w_pv 0) w_pa_nil)) w_pa_nil)) (w_pv 0) (nomark _)))) w_pa_nil)))))), ?_⟩
    simp_all only []
    refine ⟨_, .inl hS, ?_⟩
    rw [List.length_map]
    refine ⟨by split <;> (try split) <;> omega, by split <;> (try split) <;> omega, ForJ.rng (fun _ => LawInv H a) ⟨⟨_, _, _, _, _, _, _, rfl⟩, Same.refl _⟩ ?_ ?_⟩
    · rintro i σ H' hi ⟨⟨t1, t2, t3, t4, t5, t6, t7, rfl⟩, sm⟩
      simp_all only []
      refine ⟨⟨by decide, by decide, by decide⟩, a, ns, _, 3, _, rfl, sm.seq hS, by omega, by decide, by decide, by decide, by decide, fun l ds H1 s1 f1 e1 hl3 hd => ?_⟩
      match ds, hl3 with
      | [way, at_, far], _ =>
      have h1 := hd way (by simp)
      have h2 := hd at_ (by simp)
      have h3 := hd far (by simp)
      refine ⟨l, _, rfl, SqL.of e1, rfl, ?_⟩
      simp_all only []
      refine ⟨far, rfl, h3.1, h3.2, fun lb H2 s2 f2 e2 => ⟨.inl ⟨by decide, by decide⟩, ?_⟩⟩
      simp_all only [e2]
      have L : ((List.map V.str (bodies far)).length : Int) = 54 := by rw [List.length_map, bodies_len]; rfl
      have pick : ∀ j : Int, ∃ b, atI (List.map V.str (bodies far)) (j % ((List.map V.str (bodies far)).length : Nat)) = some (.str b) ∧ BodyNo b := by
        intro j
        obtain ⟨v, e, hv⟩ := atI_mem (xs := List.map V.str (bodies far)) (i := j % ((List.map V.str (bodies far)).length : Nat)) (by rw [L]; omega) (by rw [L]; omega)
        obtain ⟨b, hb, rfl⟩ := List.mem_map.mp hv
        exact ⟨b, e, bodies_no h3.1 h3.2 b hb⟩
      obtain ⟨b1, q1, B1⟩ := pick (at_ + 7 * (0 + i))
      obtain ⟨b2, q2, B2⟩ := pick at_
      refine ⟨by rw [L]; decide, _, q1, by rw [L]; decide, _, q2, b2, rfl, B2.a, Nat.le_trans B2.l (by decide), fun H3 s3 => ⟨far, rfl, h3.1, h3.2, fun ls H4 s4 f4 e4 => ⟨by decide, ?_⟩⟩⟩
      obtain ⟨y, qy, Y⟩ : ∃ y, atI (List.map V.str (sums far)) (at_ % 14) = some (.str y) ∧ TextNo y := by
        obtain ⟨v, e, hv⟩ := atI_mem (xs := List.map V.str (sums far)) (i := at_ % 14) (by omega) (by rw [List.length_map, sums_len]; omega)
        obtain ⟨b, hb, rfl⟩ := List.mem_map.mp hv
        exact ⟨b, e, sums_no b hb⟩
      rw [uIx_r]
      refine ⟨_, .inl e4, _, qy, far, rfl, h3.1, h3.2, fun lt xs H5 s5 f5 e5 l9 hb => ⟨by decide, ?_⟩⟩
      obtain ⟨vt, qt, hvt⟩ := atI_mem (xs := xs) (i := at_ % 9) (by omega) (by omega)
      rw [uIx_r]
      refine ⟨_, .inl e5, _, qt, by decide, fun p H6 n6 _ => ⟨by decide, _, .inl n6.at_, ?_⟩⟩
      have bad3 : ∃ v, atI [V.str (summedS b2), V.str y, vt] (way % 3) = some v ∧ Bad H6 v := by
        rcases (show way % 3 = 0 ∨ way % 3 = 1 ∨ way % 3 = 2 by omega) with e | e | e <;> rw [e]
        · exact ⟨_, at3_0, bad_body B2⟩
        · exact ⟨_, at3_1, bad_str Y.a (Nat.le_trans Y.l (by decide)) Y.n⟩
        · exact ⟨_, at3_2, (hb vt hvt).same n6.same⟩
      obtain ⟨v, ev, bv⟩ := bad3
      refine ⟨v, ev, v, rfl, bv, fun H7 s7 => ?_⟩
      simp_all only []
      refine ⟨b1, rfl, B1.a, Nat.le_trans B1.l (by decide), fun H8 s8 => ⟨_, rfl, bad_body B1, fun H9 s9 => ?_⟩⟩
      simp_all only []
      exact ⟨⟨_, _, _, _, _, _, _, rfl⟩, (((((((((sm.trans s1).trans s2).trans s3).trans s4).trans s5).trans n6.same).trans s7).trans s8).trans s9)⟩
    · rintro σ H' ⟨⟨t1, t2, t3, t4, t5, t6, t7, rfl⟩, sm⟩
      simp_all only []
      refine ⟨rfl, fun l ps H1 s1 e1 hl6 hr => ?_⟩
      simp_all only []
      refine ⟨⟨_, SqL.of e1⟩, CompJ.lst (xs := ps.map V.ref) (EndInv H1) (fun i τ ys H' I => ?_) (fun i τ ys H' I => SqL.of (I.same _ _ e1)) ⟨⟨_, rfl⟩, rfl, Same.refl _, by omega⟩ ?_ ?_⟩
      · rw [I.ys, List.length_map, List.length_replicate]
        have := I.le
        exact big5' (by omega)
      · intro N i x τ ys H' hx I hN
        obtain ⟨t, rfl⟩ := I.ex
        rw [List.getElem?_map] at hx
        obtain ⟨p, hp, rfl⟩ := Option.map_eq_some_iff.mp hx
        have hi : i < ps.length := (List.getElem?_eq_some_iff.mp hp).1
        obtain ⟨xs, hH, ok⟩ := hr p (List.mem_of_getElem? hp)
        obtain ⟨v, zs, rfl⟩ := ok.ne
        obtain ⟨p1, p2, p3, p4⟩ := ok.parts
        simp_all only []
        refine ⟨p, v, zs, rfl, I.same _ _ hH, p1, p4, fun H2 s2 => .inr ⟨_, rfl, ok.sp.1, ok.sp.2, fun us hu p' H3 s3 e3 => ?_, fun hn => absurd (ok.read.symm.trans hn) (by simp)⟩⟩
        rw [ok.read] at hu
        injection hu with hu
        subst hu
        have eH := (s2.trans s3) _ _ (I.same _ _ hH)
        simp_all only []
        refine ⟨_, _, .inr ⟨e3, eH⟩, p2, p2, ?_⟩
        rw [eqL_self p2 p3]
        refine hN _ _ _ ⟨⟨_, rfl⟩, ?_, (I.same.trans s2).trans s3, by omega⟩
        rw [I.ys, List.replicate_succ', List.map_append]
        rfl
      · intro τ ys H' I D H2 n2
        rw [uAll_r]
        refine ⟨List.replicate 6 true, ?_, q H2⟩
        rw [n2.at_, I.ys, List.length_map, hl6]
end
theorem all_mk {l : PySem.W.OpenLaw} {w : World} {K : PySem.W.Frag} {h : Heap} {mg : Str → Option Value} {fa : Addr} {a_CleanError : Addr} {a_NoRow : Addr} {a_NoDisk : Addr} {a_Full : Addr} {a_Stopped : Addr} {a_NoFile : Addr} {a_NoPlace : Addr} {a_HeldAlready : Addr} {a_NotHeld : Addr} {a_NoFiles : Addr} {a_NoMark : Addr} {a_NoRoom : Addr} {a_Gone : Addr} {a_NotClosed : Addr} {a_NotBlank : Addr} {a_NoDeed : Addr} {a_NoHouse : Addr} {f_is_made_of : Addr} {od_is_made_of an_is_made_of : Option Addr} {sl_is_made_of : Array (Option Value)} {oc_is_made_of kV_is_made_of dc_is_made_of pm_is_made_of cd_is_made_of ct_is_made_of : Value} {f_is_number_text : Addr} {od_is_number_text an_is_number_text : Option Addr} {sl_is_number_text : Array (Option Value)} {oc_is_number_text kV_is_number_text dc_is_number_text pm_is_number_text cd_is_number_text ct_is_number_text : Value} {f_is_name : Addr} {od_is_name an_is_name : Option Addr} {sl_is_name : Array (Option Value)} {oc_is_name kV_is_name dc_is_name pm_is_name cd_is_name ct_is_name : Value} {f_is_word : Addr} {od_is_word an_is_word : Option Addr} {sl_is_word : Array (Option Value)} {oc_is_word kV_is_word dc_is_word pm_is_word cd_is_word ct_is_word : Value} {f_sum_of : Addr} {od_sum_of an_sum_of : Option Addr} {sl_sum_of : Array (Option Value)} {oc_sum_of kV_sum_of dc_sum_of pm_sum_of cd_sum_of ct_sum_of : Value} {f_summed : Addr} {od_summed an_summed : Option Addr} {sl_summed : Array (Option Value)} {oc_summed kV_summed dc_summed pm_summed cd_summed ct_summed : Value} {f_body_of : Addr} {od_body_of an_body_of : Option Addr} {sl_body_of : Array (Option Value)} {oc_body_of kV_body_of dc_body_of pm_body_of cd_body_of ct_body_of : Value} {f_read_row : Addr} {od_read_row an_read_row : Option Addr} {sl_read_row : Array (Option Value)} {oc_read_row kV_read_row dc_read_row pm_read_row cd_read_row ct_read_row : Value} {f_row_of : Addr} {od_row_of an_row_of : Option Addr} {sl_row_of : Array (Option Value)} {oc_row_of kV_row_of dc_row_of pm_row_of cd_row_of ct_row_of : Value} {f_read_part : Addr} {od_read_part an_read_part : Option Addr} {sl_read_part : Array (Option Value)} {oc_read_part kV_read_part dc_read_part pm_read_part cd_read_part ct_read_part : Value} {f__law_at : Addr} {od__law_at an__law_at : Option Addr} {sl__law_at : Array (Option Value)} {oc__law_at kV__law_at dc__law_at pm__law_at cd__law_at ct__law_at : Value} {f__law_mixed : Addr} {od__law_mixed an__law_mixed : Option Addr} {sl__law_mixed : Array (Option Value)} {oc__law_mixed kV__law_mixed dc__law_mixed pm__law_mixed cd__law_mixed ct__law_mixed : Value} {f__law_row : Addr} {od__law_row an__law_row : Option Addr} {sl__law_row : Array (Option Value)} {oc__law_row kV__law_row dc__law_row pm__law_row cd__law_row ct__law_row : Value} {f__law_summed : Addr} {od__law_summed an__law_summed : Option Addr} {sl__law_summed : Array (Option Value)} {oc__law_summed kV__law_summed dc__law_summed pm__law_summed cd__law_summed ct__law_summed : Value} {f__law_closed : Addr} {od__law_closed an__law_closed : Option Addr} {sl__law_closed : Array (Option Value)} {oc__law_closed kV__law_closed dc__law_closed pm__law_closed cd__law_closed ct__law_closed : Value} {f__law_bodies : Addr} {od__law_bodies an__law_bodies : Option Addr} {sl__law_bodies : Array (Option Value)} {oc__law_bodies kV__law_bodies dc__law_bodies pm__law_bodies cd__law_bodies ct__law_bodies : Value} {f__law_sums : Addr} {od__law_sums an__law_sums : Option Addr} {sl__law_sums : Array (Option Value)} {oc__law_sums kV__law_sums dc__law_sums pm__law_sums cd__law_sums ct__law_sums : Value} {f__law_things : Addr} {od__law_things an__law_things : Option Addr} {sl__law_things : Array (Option Value)} {oc__law_things kV__law_things dc__law_things pm__law_things cd__law_things ct__law_things : Value} {f__law_kinds : Addr} {od__law_kinds an__law_kinds : Option Addr} {sl__law_kinds : Array (Option Value)} {oc__law_kinds kV__law_kinds dc__law_kinds pm__law_kinds cd__law_kinds ct__law_kinds : Value} {f__law_refused : Addr} {od__law_refused an__law_refused : Option Addr} {sl__law_refused : Array (Option Value)} {oc__law_refused kV__law_refused dc__law_refused pm__law_refused cd__law_refused ct__law_refused : Value} {f__law_ends : Addr} {od__law_ends an__law_ends : Option Addr} {sl__law_ends : Array (Option Value)} {oc__law_ends kV__law_ends dc__law_ends pm__law_ends cd__law_ends ct__law_ends : Value} {f__law_spelled : Addr} {od__law_spelled an__law_spelled : Option Addr} {sl__law_spelled : Array (Option Value)} {oc__law_spelled kV__law_spelled dc__law_spelled pm__law_spelled cd__law_spelled ct__law_spelled : Value} {f_law : Addr} {od_law an_law : Option Addr} {sl_law : Array (Option Value)} {oc_law kV_law dc_law pm_law cd_law ct_law : Value} {t_FIGURES : Tok} {t_LETTERS : Tok} {t_MOST_FIGURES : Tok} {t_MOST_LETTERS : Tok} {t_MOST_SIGNS : Tok} {t_MODULUS : Tok} {a_PARTS : Addr} {n_PARTS : Nat} {a_PARTS_put : Addr} {t_PARTS_put : Tok} {n_PARTS_put : Nat} {d_PARTS_put : Option Addr} {s_PARTS_put : Array (Option Value)} {t_PARTS_put_0 : Tok} {t_PARTS_put_1 : Tok} {t_PARTS_put_2 : Tok} {t_PARTS_put_3 : Tok} {t_PARTS_put_4 : Tok} {t_PARTS_put_5 : Tok} {a_PARTS_cut : Addr} {t_PARTS_cut : Tok} {n_PARTS_cut : Nat} {d_PARTS_cut : Option Addr} {s_PARTS_cut : Array (Option Value)} {t_PARTS_cut_0 : Tok} {t_PARTS_cut_1 : Tok} {t_PARTS_cut_2 : Tok} {a_PARTS_hold : Addr} {t_PARTS_hold : Tok} {n_PARTS_hold : Nat} {d_PARTS_hold : Option Addr} {s_PARTS_hold : Array (Option Value)} {t_PARTS_hold_0 : Tok} {t_PARTS_hold_1 : Tok} {a_PARTS_free : Addr} {t_PARTS_free : Tok} {n_PARTS_free : Nat} {d_PARTS_free : Option Addr} {s_PARTS_free : Array (Option Value)} {t_PARTS_free_0 : Tok} {t_PARTS_free_1 : Tok} {a_PARTS_carry : Addr} {t_PARTS_carry : Tok} {n_PARTS_carry : Nat} {d_PARTS_carry : Option Addr} {s_PARTS_carry : Array (Option Value)} {t_PARTS_carry_0 : Tok} {t_PARTS_carry_1 : Tok} {t_PARTS_carry_2 : Tok} (X : K.In h) (G : h.Ns mainGlobals mg) (hfa : mg "law" = some (.ref fa))
    (c_CleanError : PySem.W.nsIn K mainGlobals "CleanError" = some (some (.ref a_CleanError)))
    (c_NoRow : PySem.W.nsIn K mainGlobals "NoRow" = some (some (.ref a_NoRow)))
    (c_NoDisk : PySem.W.nsIn K mainGlobals "NoDisk" = some (some (.ref a_NoDisk)))
    (c_Full : PySem.W.nsIn K mainGlobals "Full" = some (some (.ref a_Full)))
    (c_Stopped : PySem.W.nsIn K mainGlobals "Stopped" = some (some (.ref a_Stopped)))
    (c_NoFile : PySem.W.nsIn K mainGlobals "NoFile" = some (some (.ref a_NoFile)))
    (c_NoPlace : PySem.W.nsIn K mainGlobals "NoPlace" = some (some (.ref a_NoPlace)))
    (c_HeldAlready : PySem.W.nsIn K mainGlobals "HeldAlready" = some (some (.ref a_HeldAlready)))
    (c_NotHeld : PySem.W.nsIn K mainGlobals "NotHeld" = some (some (.ref a_NotHeld)))
    (c_NoFiles : PySem.W.nsIn K mainGlobals "NoFiles" = some (some (.ref a_NoFiles)))
    (c_NoMark : PySem.W.nsIn K mainGlobals "NoMark" = some (some (.ref a_NoMark)))
    (c_NoRoom : PySem.W.nsIn K mainGlobals "NoRoom" = some (some (.ref a_NoRoom)))
    (c_Gone : PySem.W.nsIn K mainGlobals "Gone" = some (some (.ref a_Gone)))
    (c_NotClosed : PySem.W.nsIn K mainGlobals "NotClosed" = some (some (.ref a_NotClosed)))
    (c_NotBlank : PySem.W.nsIn K mainGlobals "NotBlank" = some (some (.ref a_NotBlank)))
    (c_NoDeed : PySem.W.nsIn K mainGlobals "NoDeed" = some (some (.ref a_NoDeed)))
    (c_NoHouse : PySem.W.nsIn K mainGlobals "NoHouse" = some (some (.ref a_NoHouse)))
    (ais_made_of : PySem.W.nsIn K mainGlobals "is_made_of" = some (some (.ref f_is_made_of)))
    (lis_made_of : K.lookup f_is_made_of = some ⟨oc_is_made_of, od_is_made_of, .func (PySem.W.fnOf "is_made_of" "is_made_of" (defArgs s_is_made_of) (defBody s_is_made_of) (defScope s_is_made_of) .none kV_is_made_of dc_is_made_of pm_is_made_of an_is_made_of cd_is_made_of ct_is_made_of), sl_is_made_of⟩)
    (dis_made_of : PySem.W.codeIn K cd_is_made_of "is_made_of" = true)
    (kis_made_of : PySem.W.keepIn K (.ref f_is_made_of) = true)
    (ais_number_text : PySem.W.nsIn K mainGlobals "is_number_text" = some (some (.ref f_is_number_text)))
    (lis_number_text : K.lookup f_is_number_text = some ⟨oc_is_number_text, od_is_number_text, .func (PySem.W.fnOf "is_number_text" "is_number_text" (defArgs s_is_number_text) (defBody s_is_number_text) (defScope s_is_number_text) .none kV_is_number_text dc_is_number_text pm_is_number_text an_is_number_text cd_is_number_text ct_is_number_text), sl_is_number_text⟩)
    (dis_number_text : PySem.W.codeIn K cd_is_number_text "is_number_text" = true)
    (kis_number_text : PySem.W.keepIn K (.ref f_is_number_text) = true)
    (ais_name : PySem.W.nsIn K mainGlobals "is_name" = some (some (.ref f_is_name)))
    (lis_name : K.lookup f_is_name = some ⟨oc_is_name, od_is_name, .func (PySem.W.fnOf "is_name" "is_name" (defArgs s_is_name) (defBody s_is_name) (defScope s_is_name) .none kV_is_name dc_is_name pm_is_name an_is_name cd_is_name ct_is_name), sl_is_name⟩)
    (dis_name : PySem.W.codeIn K cd_is_name "is_name" = true)
    (kis_name : PySem.W.keepIn K (.ref f_is_name) = true)
    (ais_word : PySem.W.nsIn K mainGlobals "is_word" = some (some (.ref f_is_word)))
    (lis_word : K.lookup f_is_word = some ⟨oc_is_word, od_is_word, .func (PySem.W.fnOf "is_word" "is_word" (defArgs s_is_word) (defBody s_is_word) (defScope s_is_word) .none kV_is_word dc_is_word pm_is_word an_is_word cd_is_word ct_is_word), sl_is_word⟩)
    (dis_word : PySem.W.codeIn K cd_is_word "is_word" = true)
    (kis_word : PySem.W.keepIn K (.ref f_is_word) = true)
    (asum_of : PySem.W.nsIn K mainGlobals "sum_of" = some (some (.ref f_sum_of)))
    (lsum_of : K.lookup f_sum_of = some ⟨oc_sum_of, od_sum_of, .func (PySem.W.fnOf "sum_of" "sum_of" (defArgs s_sum_of) (defBody s_sum_of) (defScope s_sum_of) .none kV_sum_of dc_sum_of pm_sum_of an_sum_of cd_sum_of ct_sum_of), sl_sum_of⟩)
    (dsum_of : PySem.W.codeIn K cd_sum_of "sum_of" = true)
    (ksum_of : PySem.W.keepIn K (.ref f_sum_of) = true)
    (asummed : PySem.W.nsIn K mainGlobals "summed" = some (some (.ref f_summed)))
    (lsummed : K.lookup f_summed = some ⟨oc_summed, od_summed, .func (PySem.W.fnOf "summed" "summed" (defArgs s_summed) (defBody s_summed) (defScope s_summed) .none kV_summed dc_summed pm_summed an_summed cd_summed ct_summed), sl_summed⟩)
    (dsummed : PySem.W.codeIn K cd_summed "summed" = true)
    (ksummed : PySem.W.keepIn K (.ref f_summed) = true)
    (abody_of : PySem.W.nsIn K mainGlobals "body_of" = some (some (.ref f_body_of)))
    (lbody_of : K.lookup f_body_of = some ⟨oc_body_of, od_body_of, .func (PySem.W.fnOf "body_of" "body_of" (defArgs s_body_of) (defBody s_body_of) (defScope s_body_of) .none kV_body_of dc_body_of pm_body_of an_body_of cd_body_of ct_body_of), sl_body_of⟩)
    (dbody_of : PySem.W.codeIn K cd_body_of "body_of" = true)
    (kbody_of : PySem.W.keepIn K (.ref f_body_of) = true)
    (aread_row : PySem.W.nsIn K mainGlobals "read_row" = some (some (.ref f_read_row)))
    (lread_row : K.lookup f_read_row = some ⟨oc_read_row, od_read_row, .func (PySem.W.fnOf "read_row" "read_row" (defArgs s_read_row) (defBody s_read_row) (defScope s_read_row) .none kV_read_row dc_read_row pm_read_row an_read_row cd_read_row ct_read_row), sl_read_row⟩)
    (dread_row : PySem.W.codeIn K cd_read_row "read_row" = true)
    (kread_row : PySem.W.keepIn K (.ref f_read_row) = true)
    (arow_of : PySem.W.nsIn K mainGlobals "row_of" = some (some (.ref f_row_of)))
    (lrow_of : K.lookup f_row_of = some ⟨oc_row_of, od_row_of, .func (PySem.W.fnOf "row_of" "row_of" (defArgs s_row_of) (defBody s_row_of) (defScope s_row_of) .none kV_row_of dc_row_of pm_row_of an_row_of cd_row_of ct_row_of), sl_row_of⟩)
    (drow_of : PySem.W.codeIn K cd_row_of "row_of" = true)
    (krow_of : PySem.W.keepIn K (.ref f_row_of) = true)
    (aread_part : PySem.W.nsIn K mainGlobals "read_part" = some (some (.ref f_read_part)))
    (lread_part : K.lookup f_read_part = some ⟨oc_read_part, od_read_part, .func (PySem.W.fnOf "read_part" "read_part" (defArgs s_read_part) (defBody s_read_part) (defScope s_read_part) .none kV_read_part dc_read_part pm_read_part an_read_part cd_read_part ct_read_part), sl_read_part⟩)
    (dread_part : PySem.W.codeIn K cd_read_part "read_part" = true)
    (kread_part : PySem.W.keepIn K (.ref f_read_part) = true)
    (a_law_at : PySem.W.nsIn K mainGlobals "_law_at" = some (some (.ref f__law_at)))
    (l_law_at : K.lookup f__law_at = some ⟨oc__law_at, od__law_at, .func (PySem.W.fnOf "_law_at" "_law_at" (defArgs s__law_at) (defBody s__law_at) (defScope s__law_at) .none kV__law_at dc__law_at pm__law_at an__law_at cd__law_at ct__law_at), sl__law_at⟩)
    (d_law_at : PySem.W.codeIn K cd__law_at "_law_at" = true)
    (k_law_at : PySem.W.keepIn K (.ref f__law_at) = true)
    (a_law_mixed : PySem.W.nsIn K mainGlobals "_law_mixed" = some (some (.ref f__law_mixed)))
    (l_law_mixed : K.lookup f__law_mixed = some ⟨oc__law_mixed, od__law_mixed, .func (PySem.W.fnOf "_law_mixed" "_law_mixed" (defArgs s__law_mixed) (defBody s__law_mixed) (defScope s__law_mixed) .none kV__law_mixed dc__law_mixed pm__law_mixed an__law_mixed cd__law_mixed ct__law_mixed), sl__law_mixed⟩)
    (d_law_mixed : PySem.W.codeIn K cd__law_mixed "_law_mixed" = true)
    (k_law_mixed : PySem.W.keepIn K (.ref f__law_mixed) = true)
    (a_law_row : PySem.W.nsIn K mainGlobals "_law_row" = some (some (.ref f__law_row)))
    (l_law_row : K.lookup f__law_row = some ⟨oc__law_row, od__law_row, .func (PySem.W.fnOf "_law_row" "_law_row" (defArgs s__law_row) (defBody s__law_row) (defScope s__law_row) .none kV__law_row dc__law_row pm__law_row an__law_row cd__law_row ct__law_row), sl__law_row⟩)
    (d_law_row : PySem.W.codeIn K cd__law_row "_law_row" = true)
    (k_law_row : PySem.W.keepIn K (.ref f__law_row) = true)
    (a_law_summed : PySem.W.nsIn K mainGlobals "_law_summed" = some (some (.ref f__law_summed)))
    (l_law_summed : K.lookup f__law_summed = some ⟨oc__law_summed, od__law_summed, .func (PySem.W.fnOf "_law_summed" "_law_summed" (defArgs s__law_summed) (defBody s__law_summed) (defScope s__law_summed) .none kV__law_summed dc__law_summed pm__law_summed an__law_summed cd__law_summed ct__law_summed), sl__law_summed⟩)
    (d_law_summed : PySem.W.codeIn K cd__law_summed "_law_summed" = true)
    (k_law_summed : PySem.W.keepIn K (.ref f__law_summed) = true)
    (a_law_closed : PySem.W.nsIn K mainGlobals "_law_closed" = some (some (.ref f__law_closed)))
    (l_law_closed : K.lookup f__law_closed = some ⟨oc__law_closed, od__law_closed, .func (PySem.W.fnOf "_law_closed" "_law_closed" (defArgs s__law_closed) (defBody s__law_closed) (defScope s__law_closed) .none kV__law_closed dc__law_closed pm__law_closed an__law_closed cd__law_closed ct__law_closed), sl__law_closed⟩)
    (d_law_closed : PySem.W.codeIn K cd__law_closed "_law_closed" = true)
    (k_law_closed : PySem.W.keepIn K (.ref f__law_closed) = true)
    (a_law_bodies : PySem.W.nsIn K mainGlobals "_law_bodies" = some (some (.ref f__law_bodies)))
    (l_law_bodies : K.lookup f__law_bodies = some ⟨oc__law_bodies, od__law_bodies, .func (PySem.W.fnOf "_law_bodies" "_law_bodies" (defArgs s__law_bodies) (defBody s__law_bodies) (defScope s__law_bodies) .none kV__law_bodies dc__law_bodies pm__law_bodies an__law_bodies cd__law_bodies ct__law_bodies), sl__law_bodies⟩)
    (d_law_bodies : PySem.W.codeIn K cd__law_bodies "_law_bodies" = true)
    (k_law_bodies : PySem.W.keepIn K (.ref f__law_bodies) = true)
    (a_law_sums : PySem.W.nsIn K mainGlobals "_law_sums" = some (some (.ref f__law_sums)))
    (l_law_sums : K.lookup f__law_sums = some ⟨oc__law_sums, od__law_sums, .func (PySem.W.fnOf "_law_sums" "_law_sums" (defArgs s__law_sums) (defBody s__law_sums) (defScope s__law_sums) .none kV__law_sums dc__law_sums pm__law_sums an__law_sums cd__law_sums ct__law_sums), sl__law_sums⟩)
    (d_law_sums : PySem.W.codeIn K cd__law_sums "_law_sums" = true)
    (k_law_sums : PySem.W.keepIn K (.ref f__law_sums) = true)
    (a_law_things : PySem.W.nsIn K mainGlobals "_law_things" = some (some (.ref f__law_things)))
    (l_law_things : K.lookup f__law_things = some ⟨oc__law_things, od__law_things, .func (PySem.W.fnOf "_law_things" "_law_things" (defArgs s__law_things) (defBody s__law_things) (defScope s__law_things) .none kV__law_things dc__law_things pm__law_things an__law_things cd__law_things ct__law_things), sl__law_things⟩)
    (d_law_things : PySem.W.codeIn K cd__law_things "_law_things" = true)
    (k_law_things : PySem.W.keepIn K (.ref f__law_things) = true)
    (a_law_kinds : PySem.W.nsIn K mainGlobals "_law_kinds" = some (some (.ref f__law_kinds)))
    (l_law_kinds : K.lookup f__law_kinds = some ⟨oc__law_kinds, od__law_kinds, .func (PySem.W.fnOf "_law_kinds" "_law_kinds" (defArgs s__law_kinds) (defBody s__law_kinds) (defScope s__law_kinds) .none kV__law_kinds dc__law_kinds pm__law_kinds an__law_kinds cd__law_kinds ct__law_kinds), sl__law_kinds⟩)
    (d_law_kinds : PySem.W.codeIn K cd__law_kinds "_law_kinds" = true)
    (k_law_kinds : PySem.W.keepIn K (.ref f__law_kinds) = true)
    (a_law_refused : PySem.W.nsIn K mainGlobals "_law_refused" = some (some (.ref f__law_refused)))
    (l_law_refused : K.lookup f__law_refused = some ⟨oc__law_refused, od__law_refused, .func (PySem.W.fnOf "_law_refused" "_law_refused" (defArgs s__law_refused) (defBody s__law_refused) (defScope s__law_refused) .none kV__law_refused dc__law_refused pm__law_refused an__law_refused cd__law_refused ct__law_refused), sl__law_refused⟩)
    (d_law_refused : PySem.W.codeIn K cd__law_refused "_law_refused" = true)
    (k_law_refused : PySem.W.keepIn K (.ref f__law_refused) = true)
    (a_law_ends : PySem.W.nsIn K mainGlobals "_law_ends" = some (some (.ref f__law_ends)))
    (l_law_ends : K.lookup f__law_ends = some ⟨oc__law_ends, od__law_ends, .func (PySem.W.fnOf "_law_ends" "_law_ends" (defArgs s__law_ends) (defBody s__law_ends) (defScope s__law_ends) .none kV__law_ends dc__law_ends pm__law_ends an__law_ends cd__law_ends ct__law_ends), sl__law_ends⟩)
    (d_law_ends : PySem.W.codeIn K cd__law_ends "_law_ends" = true)
    (k_law_ends : PySem.W.keepIn K (.ref f__law_ends) = true)
    (a_law_spelled : PySem.W.nsIn K mainGlobals "_law_spelled" = some (some (.ref f__law_spelled)))
    (l_law_spelled : K.lookup f__law_spelled = some ⟨oc__law_spelled, od__law_spelled, .func (PySem.W.fnOf "_law_spelled" "_law_spelled" (defArgs s__law_spelled) (defBody s__law_spelled) (defScope s__law_spelled) .none kV__law_spelled dc__law_spelled pm__law_spelled an__law_spelled cd__law_spelled ct__law_spelled), sl__law_spelled⟩)
    (d_law_spelled : PySem.W.codeIn K cd__law_spelled "_law_spelled" = true)
    (k_law_spelled : PySem.W.keepIn K (.ref f__law_spelled) = true)
    (alaw : PySem.W.nsIn K mainGlobals "law" = some (some (.ref f_law)))
    (llaw : K.lookup f_law = some ⟨oc_law, od_law, .func (PySem.W.fnOf "law" "law" (defArgs s_law) (defBody s_law) (defScope s_law) .none kV_law dc_law pm_law an_law cd_law ct_law), sl_law⟩)
    (dlaw : PySem.W.codeIn K cd_law "law" = true)
    (klaw : PySem.W.keepIn K (.ref f_law) = true)
    (z_ValueError : PySem.W.nsIn K mainGlobals "ValueError" = some none)
    (z_all : PySem.W.nsIn K mainGlobals "all" = some none)
    (z_enumerate : PySem.W.nsIn K mainGlobals "enumerate" = some none)
    (z_int : PySem.W.nsIn K mainGlobals "int" = some none)
    (z_isinstance : PySem.W.nsIn K mainGlobals "isinstance" = some none)
    (z_len : PySem.W.nsIn K mainGlobals "len" = some none)
    (z_max : PySem.W.nsIn K mainGlobals "max" = some none)
    (z_min : PySem.W.nsIn K mainGlobals "min" = some none)
    (z_ord : PySem.W.nsIn K mainGlobals "ord" = some none)
    (z_range : PySem.W.nsIn K mainGlobals "range" = some none)
    (z_repr : PySem.W.nsIn K mainGlobals "repr" = some none)
    (z_str : PySem.W.nsIn K mainGlobals "str" = some none)
    (z_tuple : PySem.W.nsIn K mainGlobals "tuple" = some none)
    (z_zip : PySem.W.nsIn K mainGlobals "zip" = some none)
    (v_FIGURES : PySem.W.nsIn K mainGlobals "FIGURES" = some (some (.str "0123456789" t_FIGURES)))
    (v_LETTERS : PySem.W.nsIn K mainGlobals "LETTERS" = some (some (.str "abcdefghijklmnopqrstuvwxyz" t_LETTERS)))
    (v_MOST_FIGURES : PySem.W.nsIn K mainGlobals "MOST_FIGURES" = some (some (.int 18 t_MOST_FIGURES)))
    (v_MOST_LETTERS : PySem.W.nsIn K mainGlobals "MOST_LETTERS" = some (some (.int 6 t_MOST_LETTERS)))
    (v_MOST_SIGNS : PySem.W.nsIn K mainGlobals "MOST_SIGNS" = some (some (.int 20 t_MOST_SIGNS)))
    (v_MODULUS : PySem.W.nsIn K mainGlobals "MODULUS" = some (some (.int 65521 t_MODULUS)))
    (v_PARTS : PySem.W.nsIn K mainGlobals "PARTS" = some (some (.ref a_PARTS)))
    (dl_PARTS : K.lookup a_PARTS = some { cls := .type "dict", dict := none, data := .dict #[{ hash := PyData.keyHash w.params (Str.ofString "put"), key := .str (Str.ofString "put") t_PARTS_put, val := .ref a_PARTS_put }, { hash := PyData.keyHash w.params (Str.ofString "cut"), key := .str (Str.ofString "cut") t_PARTS_cut, val := .ref a_PARTS_cut }, { hash := PyData.keyHash w.params (Str.ofString "hold"), key := .str (Str.ofString "hold") t_PARTS_hold, val := .ref a_PARTS_hold }, { hash := PyData.keyHash w.params (Str.ofString "free"), key := .str (Str.ofString "free") t_PARTS_free, val := .ref a_PARTS_free }, { hash := PyData.keyHash w.params (Str.ofString "carry"), key := .str (Str.ofString "carry") t_PARTS_carry, val := .ref a_PARTS_carry }] n_PARTS, slots := #[] })
    (ds_PARTS : (a_PARTS == sysModules) = false)
    (tl_PARTS_put : K.lookup a_PARTS_put = some { cls := .type "tuple", dict := d_PARTS_put, data := .seq #[.str (Str.ofString "number") t_PARTS_put_0, .str (Str.ofString "number") t_PARTS_put_1, .str (Str.ofString "end") t_PARTS_put_2, .str (Str.ofString "name") t_PARTS_put_3, .str (Str.ofString "number") t_PARTS_put_4, .str (Str.ofString "word") t_PARTS_put_5] n_PARTS_put, slots := s_PARTS_put })
    (tl_PARTS_cut : K.lookup a_PARTS_cut = some { cls := .type "tuple", dict := d_PARTS_cut, data := .seq #[.str (Str.ofString "number") t_PARTS_cut_0, .str (Str.ofString "name") t_PARTS_cut_1, .str (Str.ofString "number") t_PARTS_cut_2] n_PARTS_cut, slots := s_PARTS_cut })
    (tl_PARTS_hold : K.lookup a_PARTS_hold = some { cls := .type "tuple", dict := d_PARTS_hold, data := .seq #[.str (Str.ofString "number") t_PARTS_hold_0, .str (Str.ofString "name") t_PARTS_hold_1] n_PARTS_hold, slots := s_PARTS_hold })
    (tl_PARTS_free : K.lookup a_PARTS_free = some { cls := .type "tuple", dict := d_PARTS_free, data := .seq #[.str (Str.ofString "number") t_PARTS_free_0, .str (Str.ofString "name") t_PARTS_free_1] n_PARTS_free, slots := s_PARTS_free })
    (tl_PARTS_carry : K.lookup a_PARTS_carry = some { cls := .type "tuple", dict := d_PARTS_carry, data := .seq #[.str (Str.ofString "number") t_PARTS_carry_0, .str (Str.ofString "number") t_PARTS_carry_1, .str (Str.ofString "word") t_PARTS_carry_2] n_PARTS_carry, slots := s_PARTS_carry })
    (ek_CleanError : PySem.W.excIn K a_CleanError [.type "ValueError", .type "Exception", .type "BaseException", .type "object"] "ValueError.__new__" = true)
    (ek_NoRow : PySem.W.excIn K a_NoRow [.type "ValueError", .type "Exception", .type "BaseException", .type "object"] "ValueError.__new__" = true)
    (ga_NoRow : PySem.W.findIn K (.ref a_NoRow) "__getattribute__" = some (some (.builtin "BaseException.__getattribute__")))
    (gr_NoRow : PySem.W.findIn K (.ref a_NoRow) "__getattr__" = some none)
    (clx_NoRow : PySem.W.findIn K (.ref a_NoRow) "__class__" = some (some (.builtin "object.__class__")))
    (ob_NoRow : PySem.W.mroIn K a_NoRow (.type "object") = some true)
    (ba_NoRow : PySem.W.mroIn K a_NoRow (.type "BaseException") = some true)
    (mro_NoRow : PySem.W.mroIn K a_NoRow (.ref a_CleanError) = some true)
    (kk_NoRow_ValueError : PySem.W.kitOne K (.ref a_NoRow) (.type "ValueError") = some true)
    (kk_NoRow_NoRow : PySem.W.kitOne K (.ref a_NoRow) (.ref a_NoRow) = some true)
    (kk_NoRow_NoDisk : PySem.W.kitOne K (.ref a_NoRow) (.ref a_NoDisk) = some false)
    (kk_NoRow_Full : PySem.W.kitOne K (.ref a_NoRow) (.ref a_Full) = some false)
    (kk_NoRow_Stopped : PySem.W.kitOne K (.ref a_NoRow) (.ref a_Stopped) = some false)
    (kk_NoRow_NoFile : PySem.W.kitOne K (.ref a_NoRow) (.ref a_NoFile) = some false)
    (kk_NoRow_NoPlace : PySem.W.kitOne K (.ref a_NoRow) (.ref a_NoPlace) = some false)
    (kk_NoRow_HeldAlready : PySem.W.kitOne K (.ref a_NoRow) (.ref a_HeldAlready) = some false)
    (kk_NoRow_NotHeld : PySem.W.kitOne K (.ref a_NoRow) (.ref a_NotHeld) = some false)
    (kk_NoRow_NoFiles : PySem.W.kitOne K (.ref a_NoRow) (.ref a_NoFiles) = some false)
    (kk_NoRow_NoMark : PySem.W.kitOne K (.ref a_NoRow) (.ref a_NoMark) = some false)
    (kk_NoRow_NoRoom : PySem.W.kitOne K (.ref a_NoRow) (.ref a_NoRoom) = some false)
    (kk_NoRow_Gone : PySem.W.kitOne K (.ref a_NoRow) (.ref a_Gone) = some false)
    (kk_NoRow_NotClosed : PySem.W.kitOne K (.ref a_NoRow) (.ref a_NotClosed) = some false)
    (kk_NoRow_NotBlank : PySem.W.kitOne K (.ref a_NoRow) (.ref a_NotBlank) = some false)
    (kk_NoRow_NoDeed : PySem.W.kitOne K (.ref a_NoRow) (.ref a_NoDeed) = some false)
    (kk_NoRow_NoHouse : PySem.W.kitOne K (.ref a_NoRow) (.ref a_NoHouse) = some false) :
    ∃ fd : FuncData, (∀ (s : Shared) (v : Value), BindsTo s fd ⟨[v], []⟩ [("_law_script", v)]) ∧ ∀ base : Heap, K.In base → base.Ns mainGlobals mg → FnOk l.prog w K mg base CX0 true 9 fa fd ["_law_script"] (spLaw K) := by
  have e := hfa.symm.trans (PySem.W.mg_of X G alaw)
  cases e
  have T : Txt w K mg ⟨a_CleanError, a_NoRow, a_NoDisk, a_Full, a_Stopped, a_NoFile, a_NoPlace, a_HeldAlready, a_NotHeld, a_NoFiles, a_NoMark, a_NoRoom, a_Gone, a_NotClosed, a_NotBlank, a_NoDeed, a_NoHouse, a_PARTS, a_PARTS_put, a_PARTS_cut, a_PARTS_hold, a_PARTS_free, a_PARTS_carry⟩ := ⟨PySem.W.mg_of X G v_PARTS, ⟨⟨_, _, dl_PARTS, (.cons (.cons (.cons (.cons (.cons .nil)))))⟩, by show (["put", "cut", "hold", "free", "carry"] : List Str).Nodup; decide +kernel, ds_PARTS⟩, fun H => .inr ⟨_, _, _, tl_PARTS_put, rfl, rfl, by show 6 ≤ sizeLine; decide, (.cons ⟨_, rfl⟩ (.cons ⟨_, rfl⟩ (.cons ⟨_, rfl⟩ (.cons ⟨_, rfl⟩ (.cons ⟨_, rfl⟩ (.cons ⟨_, rfl⟩ .nil))))))⟩, fun H => .inr ⟨_, _, _, tl_PARTS_cut, rfl, rfl, by show 3 ≤ sizeLine; decide, (.cons ⟨_, rfl⟩ (.cons ⟨_, rfl⟩ (.cons ⟨_, rfl⟩ .nil)))⟩, fun H => .inr ⟨_, _, _, tl_PARTS_hold, rfl, rfl, by show 2 ≤ sizeLine; decide, (.cons ⟨_, rfl⟩ (.cons ⟨_, rfl⟩ .nil))⟩, fun H => .inr ⟨_, _, _, tl_PARTS_free, rfl, rfl, by show 2 ≤ sizeLine; decide, (.cons ⟨_, rfl⟩ (.cons ⟨_, rfl⟩ .nil))⟩, fun H => .inr ⟨_, _, _, tl_PARTS_carry, rfl, rfl, by show 3 ≤ sizeLine; decide, (.cons ⟨_, rfl⟩ (.cons ⟨_, rfl⟩ (.cons ⟨_, rfl⟩ .nil)))⟩, PySem.W.mg_none_of X G z_ValueError, PySem.W.mg_none_of X G z_all, PySem.W.mg_none_of X G z_enumerate, PySem.W.mg_none_of X G z_int, PySem.W.mg_none_of X G z_isinstance, PySem.W.mg_none_of X G z_len, PySem.W.mg_none_of X G z_max, PySem.W.mg_none_of X G z_min, PySem.W.mg_none_of X G z_ord, PySem.W.mg_none_of X G z_range, PySem.W.mg_none_of X G z_repr, PySem.W.mg_none_of X G z_str, PySem.W.mg_none_of X G z_tuple, PySem.W.mg_none_of X G z_zip, ⟨_, PySem.W.mg_of X G v_FIGURES, ⟨_, rfl⟩⟩, ⟨_, PySem.W.mg_of X G v_LETTERS, ⟨_, rfl⟩⟩, ⟨_, PySem.W.mg_of X G v_MOST_FIGURES, ⟨_, rfl⟩⟩, ⟨_, PySem.W.mg_of X G v_MOST_LETTERS, ⟨_, rfl⟩⟩, ⟨_, PySem.W.mg_of X G v_MOST_SIGNS, ⟨_, rfl⟩⟩, ⟨_, PySem.W.mg_of X G v_MODULUS, ⟨_, rfl⟩⟩, PySem.W.mg_of X G c_CleanError, PySem.W.mg_of X G c_NoRow, PySem.W.mg_of X G c_NoDisk, PySem.W.mg_of X G c_Full, PySem.W.mg_of X G c_Stopped, PySem.W.mg_of X G c_NoFile, PySem.W.mg_of X G c_NoPlace, PySem.W.mg_of X G c_HeldAlready, PySem.W.mg_of X G c_NotHeld, PySem.W.mg_of X G c_NoFiles, PySem.W.mg_of X G c_NoMark, PySem.W.mg_of X G c_NoRoom, PySem.W.mg_of X G c_Gone, PySem.W.mg_of X G c_NotClosed, PySem.W.mg_of X G c_NotBlank, PySem.W.mg_of X G c_NoDeed, PySem.W.mg_of X G c_NoHouse, ek_CleanError, ek_NoRow, ⟨ek_NoRow, ga_NoRow, gr_NoRow, clx_NoRow, ob_NoRow, ba_NoRow⟩, mro_NoRow, kk_NoRow_ValueError, kk_NoRow_NoRow, kk_NoRow_NoDisk, kk_NoRow_Full, kk_NoRow_Stopped, kk_NoRow_NoFile, kk_NoRow_NoPlace, kk_NoRow_HeldAlready, kk_NoRow_NotHeld, kk_NoRow_NoFiles, kk_NoRow_NoMark, kk_NoRow_NoRoom, kk_NoRow_Gone, kk_NoRow_NotClosed, kk_NoRow_NotBlank, kk_NoRow_NoDeed, kk_NoRow_NoHouse⟩
  have Fis_made_of := fun_mk (st := s_is_made_of) lis_made_of dis_made_of kis_made_of
  have bis_made_of := Fis_made_of.binds (ps := ["text", "signs", "most"]) fun _ _ _ _ _ _ us hl => match us, hl with | [_, _, _], _ => rfl
  have Fis_number_text := fun_mk (st := s_is_number_text) lis_number_text dis_number_text kis_number_text
  have bis_number_text := Fis_number_text.binds (ps := ["text"]) fun _ _ _ _ _ _ us hl => match us, hl with | [_], _ => rfl
  have Fis_name := fun_mk (st := s_is_name) lis_name dis_name kis_name
  have bis_name := Fis_name.binds (ps := ["text"]) fun _ _ _ _ _ _ us hl => match us, hl with | [_], _ => rfl
  have Fis_word := fun_mk (st := s_is_word) lis_word dis_word kis_word
  have bis_word := Fis_word.binds (ps := ["text"]) fun _ _ _ _ _ _ us hl => match us, hl with | [_], _ => rfl
  have Fsum_of := fun_mk (st := s_sum_of) lsum_of dsum_of ksum_of
  have bsum_of := Fsum_of.binds (ps := ["text"]) fun _ _ _ _ _ _ us hl => match us, hl with | [_], _ => rfl
  have Fsummed := fun_mk (st := s_summed) lsummed dsummed ksummed
  have bsummed := Fsummed.binds (ps := ["body"]) fun _ _ _ _ _ _ us hl => match us, hl with | [_], _ => rfl
  have Fbody_of := fun_mk (st := s_body_of) lbody_of dbody_of kbody_of
  have bbody_of := Fbody_of.binds (ps := ["text"]) fun _ _ _ _ _ _ us hl => match us, hl with | [_], _ => rfl
  have Fread_row := fun_mk (st := s_read_row) lread_row dread_row kread_row
  have bread_row := Fread_row.binds (ps := ["text"]) fun _ _ _ _ _ _ us hl => match us, hl with | [_], _ => rfl
  have Frow_of := fun_mk (st := s_row_of) lrow_of drow_of krow_of
  have brow_of := Frow_of.binds (ps := ["words"]) fun _ _ _ _ _ _ us hl => match us, hl with | [_], _ => rfl
  have Fread_part := fun_mk (st := s_read_part) lread_part dread_part kread_part
  have bread_part := Fread_part.binds (ps := ["kind", "word"]) fun _ _ _ _ _ _ us hl => match us, hl with | [_, _], _ => rfl
  have F_law_at := fun_mk (st := s__law_at) l_law_at d_law_at k_law_at
  have b_law_at := F_law_at.binds (ps := ["_law_script", "_law_k"]) fun _ _ _ _ _ _ us hl => match us, hl with | [_, _], _ => rfl
  have F_law_mixed := fun_mk (st := s__law_mixed) l_law_mixed d_law_mixed k_law_mixed
  have b_law_mixed := F_law_mixed.binds (ps := ["_law_number", "_law_k"]) fun _ _ _ _ _ _ us hl => match us, hl with | [_, _], _ => rfl
  have F_law_row := fun_mk (st := s__law_row) l_law_row d_law_row k_law_row
  have b_law_row := F_law_row.binds (ps := ["_law_script", "_law_k", "_law_many", "_law_base"]) fun _ _ _ _ _ _ us hl => match us, hl with | [_, _, _, _], _ => rfl
  have F_law_summed := fun_mk (st := s__law_summed) l_law_summed d_law_summed k_law_summed
  have b_law_summed := F_law_summed.binds (ps := ["_law_text"]) fun _ _ _ _ _ _ us hl => match us, hl with | [_], _ => rfl
  have F_law_closed := fun_mk (st := s__law_closed) l_law_closed d_law_closed k_law_closed
  have b_law_closed := F_law_closed.binds (ps := ["_law_ahead"]) fun _ _ _ _ _ _ us hl => match us, hl with | [_], _ => rfl
  have F_law_bodies := fun_mk (st := s__law_bodies) l_law_bodies d_law_bodies k_law_bodies
  have b_law_bodies := F_law_bodies.binds (ps := ["_law_far"]) fun _ _ _ _ _ _ us hl => match us, hl with | [_], _ => rfl
  have F_law_sums := fun_mk (st := s__law_sums) l_law_sums d_law_sums k_law_sums
  have b_law_sums := F_law_sums.binds (ps := ["_law_far"]) fun _ _ _ _ _ _ us hl => match us, hl with | [_], _ => rfl
  have F_law_things := fun_mk (st := s__law_things) l_law_things d_law_things k_law_things
  have b_law_things := F_law_things.binds (ps := ["_law_far"]) fun _ _ _ _ _ _ us hl => match us, hl with | [_], _ => rfl
  have F_law_kinds := fun_mk (st := s__law_kinds) l_law_kinds d_law_kinds k_law_kinds
  have b_law_kinds := F_law_kinds.binds (ps := ["_law_e"]) fun _ _ _ _ _ _ us hl => match us, hl with | [_], _ => rfl
  have F_law_refused := fun_mk (st := s__law_refused) l_law_refused d_law_refused k_law_refused
  have b_law_refused := F_law_refused.binds (ps := ["_law_thing"]) fun _ _ _ _ _ _ us hl => match us, hl with | [_], _ => rfl
  have F_law_ends := fun_mk (st := s__law_ends) l_law_ends d_law_ends k_law_ends
  have b_law_ends := F_law_ends.binds (ps := []) fun _ _ _ _ _ _ us hl => match us, hl with | [], _ => rfl
  have F_law_spelled := fun_mk (st := s__law_spelled) l_law_spelled d_law_spelled k_law_spelled
  have b_law_spelled := F_law_spelled.binds (ps := ["_law_row_here"]) fun _ _ _ _ _ _ us hl => match us, hl with | [_], _ => rfl
  have Flaw := fun_mk (st := s_law) llaw dlaw klaw
  have blaw := Flaw.binds (ps := ["_law_script"]) fun _ _ _ _ _ _ us hl => match us, hl with | [_], _ => rfl
  refine ⟨PySem.W.fnOf "law" "law" (defArgs s_law) (defBody s_law) (defScope s_law) .none kV_law dc_law pm_law an_law cd_law ct_law, fun s v => .of_eq rfl, fun base _ _ => ?_⟩
  have G_is_made_of : GF l.prog w K mg base true 1 "is_made_of" ["text", "signs", "most"] (spMade) := ⟨_, _, ok_is_made_of Fis_made_of T, PySem.W.mg_of X G ais_made_of, kis_made_of, bis_made_of⟩
  have G_is_number_text : GF l.prog w K mg base true 2 "is_number_text" ["text"] (spTest numS) := ⟨_, _, ok_is_number_text Fis_number_text T G_is_made_of, PySem.W.mg_of X G ais_number_text, kis_number_text, bis_number_text⟩
  have G_is_name : GF l.prog w K mg base true 2 "is_name" ["text"] (spTest nameS) := ⟨_, _, ok_is_name Fis_name T G_is_made_of, PySem.W.mg_of X G ais_name, kis_name, bis_name⟩
  have G_is_word : GF l.prog w K mg base true 2 "is_word" ["text"] (spTest wordS) := ⟨_, _, ok_is_word Fis_word T G_is_made_of, PySem.W.mg_of X G ais_word, kis_word, bis_word⟩
  have G_sum_of : GF l.prog w K mg base true 1 "sum_of" ["text"] (spSum) := ⟨_, _, ok_sum_of Fsum_of T, PySem.W.mg_of X G asum_of, ksum_of, bsum_of⟩
  have G_summed : GF l.prog w K mg base true 2 "summed" ["body"] (spSummed) := ⟨_, _, ok_summed Fsummed T G_sum_of, PySem.W.mg_of X G asummed, ksummed, bsummed⟩
  have G_body_of : GF l.prog w K mg base true 3 "body_of" ["text"] (spBody) := ⟨_, _, ok_body_of Fbody_of T G_summed, PySem.W.mg_of X G abody_of, kbody_of, bbody_of⟩
  have G_read_part : GX l.prog w K mg base true 3 "read_part" ["kind", "word"] (spReadP _) := ⟨_, _, ok_read_part Fread_part T G_is_number_text G_is_name G_is_word, PySem.W.mg_of X G aread_part, kread_part, bread_part⟩
  have G_row_of : GX l.prog w K mg base true 4 "row_of" ["words"] (spRowOf _) := ⟨_, _, ok_row_of Frow_of T G_read_part, PySem.W.mg_of X G arow_of, krow_of, brow_of⟩
  have G_read_row : GX l.prog w K mg base true 5 "read_row" ["text"] (spReadR _) := ⟨_, _, ok_read_row Fread_row T G_body_of G_row_of, PySem.W.mg_of X G aread_row, kread_row, bread_row⟩
  have G__law_at : GF l.prog w K mg base true 1 "_law_at" ["_law_script", "_law_k"] (spAt K) := ⟨_, _, ok__law_at F_law_at T, PySem.W.mg_of X G a_law_at, k_law_at, b_law_at⟩
  have G__law_mixed : GF l.prog w K mg base true 1 "_law_mixed" ["_law_number", "_law_k"] (spMixed) := ⟨_, _, ok__law_mixed F_law_mixed T, PySem.W.mg_of X G a_law_mixed, k_law_mixed, b_law_mixed⟩
  have G__law_row : GF l.prog w K mg base true 2 "_law_row" ["_law_script", "_law_k", "_law_many", "_law_base"] (spRow K) := ⟨_, _, ok__law_row (cm := true) F_law_row T G__law_at G__law_mixed, PySem.W.mg_of X G a_law_row, k_law_row, b_law_row⟩
  have G__law_summed : GF l.prog w K mg base true 1 "_law_summed" ["_law_text"] (spSum) := ⟨_, _, ok__law_summed F_law_summed T, PySem.W.mg_of X G a_law_summed, k_law_summed, b_law_summed⟩
  have G__law_closed : GF l.prog w K mg base true 2 "_law_closed" ["_law_ahead"] (spSummed) := ⟨_, _, ok__law_closed F_law_closed T G__law_summed, PySem.W.mg_of X G a_law_closed, k_law_closed, b_law_closed⟩
  have G__law_bodies : GF l.prog w K mg base true 1 "_law_bodies" ["_law_far"] (spBodies bodies) := ⟨_, _, ok__law_bodies F_law_bodies T, PySem.W.mg_of X G a_law_bodies, k_law_bodies, b_law_bodies⟩
  have G__law_sums : GF l.prog w K mg base true 2 "_law_sums" ["_law_far"] (spBodies sums) := ⟨_, _, ok__law_sums F_law_sums T G__law_summed, PySem.W.mg_of X G a_law_sums, k_law_sums, b_law_sums⟩
  have G__law_things : GF l.prog w K mg base true 3 "_law_things" ["_law_far"] (spThings) := ⟨_, _, ok__law_things F_law_things T G__law_closed, PySem.W.mg_of X G a_law_things, k_law_things, b_law_things⟩
  have G__law_kinds : GF l.prog w K mg base false 1 "_law_kinds" ["_law_e"] (spKinds K _) := ⟨_, _, ok__law_kinds F_law_kinds T, PySem.W.mg_of X G a_law_kinds, k_law_kinds, b_law_kinds⟩
  have G__law_refused : GF l.prog w K mg base true 6 "_law_refused" ["_law_thing"] (spRefused) := ⟨_, _, ok__law_refused F_law_refused T G_read_row G__law_kinds, PySem.W.mg_of X G a_law_refused, k_law_refused, b_law_refused⟩
  have G__law_ends : GF l.prog w K mg base true 1 "_law_ends" [] (spEnds) := ⟨_, _, ok__law_ends F_law_ends T, PySem.W.mg_of X G a_law_ends, k_law_ends, b_law_ends⟩
  have G__law_spelled : GF l.prog w K mg base true 3 "_law_spelled" ["_law_row_here"] (spSpelled) := ⟨_, _, ok__law_spelled F_law_spelled T G__law_closed, PySem.W.mg_of X G a_law_spelled, k_law_spelled, b_law_spelled⟩
  exact ok_law Flaw T G__law_row G__law_bodies G__law_sums G__law_things G__law_closed G__law_refused G__law_ends G__law_spelled G_read_row
theorem walk {l : PySem.W.OpenLaw} {q : Program} {loose : List Str} {XP : (Str → Option Value) → Heap → Prop} {YP : World → Heap → Prop} {d : DefRec} {K : Params → PySem.W.Frag} (hn : l.most = some 63) (hdf : d.params.defaults = [])
    (hY : ∀ (w : World) (h : Heap), YP w h → (K w.params).In h)
    (F : ∀ (w : World) (mg : Str → Option Value) (fa : Addr) (h : Heap), (K w.params).In h → h.Ns mainGlobals mg → mg d.name = some (.ref fa) →
      ∃ fd : FuncData, (∀ (s : Shared) (u : Value), BindsTo s fd ⟨[u], []⟩ [("_law_script", u)]) ∧ ∀ base : Heap, (K w.params).In base → base.Ns mainGlobals mg → FnOk l.prog w (K w.params) mg base CX0 true 9 fa fd ["_law_script"] (spLaw (K w.params))) :
    PySem.W.WalkO q loose XP YP l.row.toRowW d [] (fun f vs => PySem.call f vs) :=
  L2.walk_of (n := 63) (k := 9) (x := "_law_script") (CX := fun _ => CX0) (sp := fun w => spLaw (K w.params)) hn (by decide) hdf ⟨fun _ => rfl, by decide, by decide, rfl⟩ hY F (fun _ _ a ns hl _ hS => ⟨a, ns, rfl, hS, hl, fun _ => rfl⟩) fun _ _ _ _ _ z => z

end K13
set_option Elab.async false
/-! names that keep the head from laying twins of its long states: with them the object file is over its size -/
def PySem.W.Fast.tw7655454867029826776 : Nat := 0
def PySem.W.Fast.tw16052782964204779004 : Nat := 0
def PySem.W.Fast.tw10153613000294215991 : Nat := 0
def PySem.W.Fast.tw13335283195323267201 : Nat := 0
def PySem.W.Fast.tw16155535107821893165 : Nat := 0
def PySem.W.Fast.tw14329157929314458921 : Nat := 0
def PySem.W.Fast.tw2300862590825872810 : Nat := 0
def PySem.W.Fast.tw7061176276780093989 : Nat := 0
def PySem.W.Fast.tw8028338242837021993 : Nat := 0
def PySem.W.Fast.tw16275397269468841620 : Nat := 0
def PySem.W.Fast.tw3104265761611523529 : Nat := 0
def PySem.W.Fast.tw12797172262253829403 : Nat := 0
def PySem.W.Fast.tw13006592595967458110 : Nat := 0
def PySem.W.Fast.tw10438160306692665356 : Nat := 0
open PySem PySem.W PyProof.Rows
set_option maxRecDepth 100000 in
set_option maxHeartbeats 0 in
theorem PySem.Challenge.cw_cleanrows_k13_no_rows_holds : PySem.Challenge.rw_cleanrows_k13_no_rows.Holds := by
  w_on; o_law; k_head; (case hw => w_witness2)
  k_fill
  refine K13.walk (l := PySem.Challenge.rw_cleanrows_k13_no_rows) rfl rfl (fun w h Y => PySem.W.kIn_of Y) ?F
  case F =>
    intro w mg fa h KX G hmg
    refine' K13.all_mk KX G hmg ?c_CleanError ?c_NoRow ?c_NoDisk ?c_Full ?c_Stopped ?c_NoFile ?c_NoPlace ?c_HeldAlready ?c_NotHeld ?c_NoFiles ?c_NoMark ?c_NoRoom ?c_Gone ?c_NotClosed ?c_NotBlank ?c_NoDeed ?c_NoHouse ?ais_made_of ?lis_made_of ?dis_made_of ?kis_made_of ?ais_number_text ?lis_number_text ?dis_number_text ?kis_number_text ?ais_name ?lis_name ?dis_name ?kis_name ?ais_word ?lis_word ?dis_word ?kis_word ?asum_of ?lsum_of ?dsum_of ?ksum_of ?asummed ?lsummed ?dsummed ?ksummed ?abody_of ?lbody_of ?dbody_of ?kbody_of ?aread_row ?lread_row ?dread_row ?kread_row ?arow_of ?lrow_of ?drow_of ?krow_of ?aread_part ?lread_part ?dread_part ?kread_part ?a_law_at ?l_law_at ?d_law_at ?k_law_at ?a_law_mixed ?l_law_mixed ?d_law_mixed ?k_law_mixed ?a_law_row ?l_law_row ?d_law_row ?k_law_row ?a_law_summed ?l_law_summed ?d_law_summed ?k_law_summed ?a_law_closed ?l_law_closed ?d_law_closed ?k_law_closed ?a_law_bodies ?l_law_bodies ?d_law_bodies ?k_law_bodies ?a_law_sums ?l_law_sums ?d_law_sums ?k_law_sums ?a_law_things ?l_law_things ?d_law_things ?k_law_things ?a_law_kinds ?l_law_kinds ?d_law_kinds ?k_law_kinds ?a_law_refused ?l_law_refused ?d_law_refused ?k_law_refused ?a_law_ends ?l_law_ends ?d_law_ends ?k_law_ends ?a_law_spelled ?l_law_spelled ?d_law_spelled ?k_law_spelled ?alaw ?llaw ?dlaw ?klaw ?z_ValueError ?z_all ?z_enumerate ?z_int ?z_isinstance ?z_len ?z_max ?z_min ?z_ord ?z_range ?z_repr ?z_str ?z_tuple ?z_zip ?v_FIGURES ?v_LETTERS ?v_MOST_FIGURES ?v_MOST_LETTERS ?v_MOST_SIGNS ?v_MODULUS ?v_PARTS ?dl_PARTS ?ds_PARTS ?tl_PARTS_put ?tl_PARTS_cut ?tl_PARTS_hold ?tl_PARTS_free ?tl_PARTS_carry ?ek_CleanError ?ek_NoRow ?ga_NoRow ?gr_NoRow ?clx_NoRow ?ob_NoRow ?ba_NoRow ?mro_NoRow ?kk_NoRow_ValueError ?kk_NoRow_NoRow ?kk_NoRow_NoDisk ?kk_NoRow_Full ?kk_NoRow_Stopped ?kk_NoRow_NoFile ?kk_NoRow_NoPlace ?kk_NoRow_HeldAlready ?kk_NoRow_NotHeld ?kk_NoRow_NoFiles ?kk_NoRow_NoMark ?kk_NoRow_NoRoom ?kk_NoRow_Gone ?kk_NoRow_NotClosed ?kk_NoRow_NotBlank ?kk_NoRow_NoDeed ?kk_NoRow_NoHouse
    (case c_CleanError => first | k_is | kit_is | k_exc)
    (case c_NoRow => first | k_is | kit_is | k_exc)
    (case c_NoDisk => first | k_is | kit_is | k_exc)
    (case c_Full => first | k_is | kit_is | k_exc)
    (case c_Stopped => first | k_is | kit_is | k_exc)
    (case c_NoFile => first | k_is | kit_is | k_exc)
    (case c_NoPlace => first | k_is | kit_is | k_exc)
    (case c_HeldAlready => first | k_is | kit_is | k_exc)
    (case c_NotHeld => first | k_is | kit_is | k_exc)
    (case c_NoFiles => first | k_is | kit_is | k_exc)
    (case c_NoMark => first | k_is | kit_is | k_exc)
    (case c_NoRoom => first | k_is | kit_is | k_exc)
    (case c_Gone => first | k_is | kit_is | k_exc)
    (case c_NotClosed => first | k_is | kit_is | k_exc)
    (case c_NotBlank => first | k_is | kit_is | k_exc)
    (case c_NoDeed => first | k_is | kit_is | k_exc)
    (case c_NoHouse => first | k_is | kit_is | k_exc)
    (case ais_made_of => first | k_is | kit_is | k_exc)
    (case lis_made_of => first | k_is | kit_is | k_exc)
    (case dis_made_of => first | k_is | kit_is | k_exc)
    (case kis_made_of => first | k_is | kit_is | k_exc)
    (case ais_number_text => first | k_is | kit_is | k_exc)
    (case lis_number_text => first | k_is | kit_is | k_exc)
    (case dis_number_text => first | k_is | kit_is | k_exc)
    (case kis_number_text => first | k_is | kit_is | k_exc)
    (case ais_name => first | k_is | kit_is | k_exc)
    (case lis_name => first | k_is | kit_is | k_exc)
    (case dis_name => first | k_is | kit_is | k_exc)
    (case kis_name => first | k_is | kit_is | k_exc)
    (case ais_word => first | k_is | kit_is | k_exc)
    (case lis_word => first | k_is | kit_is | k_exc)
    (case dis_word => first | k_is | kit_is | k_exc)
    (case kis_word => first | k_is | kit_is | k_exc)
    (case asum_of => first | k_is | kit_is | k_exc)
    (case lsum_of => first | k_is | kit_is | k_exc)
    (case dsum_of => first | k_is | kit_is | k_exc)
    (case ksum_of => first | k_is | kit_is | k_exc)
    (case asummed => first | k_is | kit_is | k_exc)
    (case lsummed => first | k_is | kit_is | k_exc)
    (case dsummed => first | k_is | kit_is | k_exc)
    (case ksummed => first | k_is | kit_is | k_exc)
    (case abody_of => first | k_is | kit_is | k_exc)
    (case lbody_of => first | k_is | kit_is | k_exc)
    (case dbody_of => first | k_is | kit_is | k_exc)
    (case kbody_of => first | k_is | kit_is | k_exc)
    (case aread_row => first | k_is | kit_is | k_exc)
    (case lread_row => first | k_is | kit_is | k_exc)
    (case dread_row => first | k_is | kit_is | k_exc)
    (case kread_row => first | k_is | kit_is | k_exc)
    (case arow_of => first | k_is | kit_is | k_exc)
    (case lrow_of => first | k_is | kit_is | k_exc)
    (case drow_of => first | k_is | kit_is | k_exc)
    (case krow_of => first | k_is | kit_is | k_exc)
    (case aread_part => first | k_is | kit_is | k_exc)
    (case lread_part => first | k_is | kit_is | k_exc)
    (case dread_part => first | k_is | kit_is | k_exc)
    (case kread_part => first | k_is | kit_is | k_exc)
    (case a_law_at => first | k_is | kit_is | k_exc)
    (case l_law_at => first | k_is | kit_is | k_exc)
    (case d_law_at => first | k_is | kit_is | k_exc)
    (case k_law_at => first | k_is | kit_is | k_exc)
    (case a_law_mixed => first | k_is | kit_is | k_exc)
    (case l_law_mixed => first | k_is | kit_is | k_exc)
    (case d_law_mixed => first | k_is | kit_is | k_exc)
    (case k_law_mixed => first | k_is | kit_is | k_exc)
    (case a_law_row => first | k_is | kit_is | k_exc)
    (case l_law_row => first | k_is | kit_is | k_exc)
    (case d_law_row => first | k_is | kit_is | k_exc)
    (case k_law_row => first | k_is | kit_is | k_exc)
    (case a_law_summed => first | k_is | kit_is | k_exc)
    (case l_law_summed => first | k_is | kit_is | k_exc)
    (case d_law_summed => first | k_is | kit_is | k_exc)
    (case k_law_summed => first | k_is | kit_is | k_exc)
    (case a_law_closed => first | k_is | kit_is | k_exc)
    (case l_law_closed => first | k_is | kit_is | k_exc)
    (case d_law_closed => first | k_is | kit_is | k_exc)
    (case k_law_closed => first | k_is | kit_is | k_exc)
    (case a_law_bodies => first | k_is | kit_is | k_exc)
    (case l_law_bodies => first | k_is | kit_is | k_exc)
    (case d_law_bodies => first | k_is | kit_is | k_exc)
    (case k_law_bodies => first | k_is | kit_is | k_exc)
    (case a_law_sums => first | k_is | kit_is | k_exc)
    (case l_law_sums => first | k_is | kit_is | k_exc)
    (case d_law_sums => first | k_is | kit_is | k_exc)
    (case k_law_sums => first | k_is | kit_is | k_exc)
    (case a_law_things => first | k_is | kit_is | k_exc)
    (case l_law_things => first | k_is | kit_is | k_exc)
    (case d_law_things => first | k_is | kit_is | k_exc)
    (case k_law_things => first | k_is | kit_is | k_exc)
    (case a_law_kinds => first | k_is | kit_is | k_exc)
    (case l_law_kinds => first | k_is | kit_is | k_exc)
    (case d_law_kinds => first | k_is | kit_is | k_exc)
    (case k_law_kinds => first | k_is | kit_is | k_exc)
    (case a_law_refused => first | k_is | kit_is | k_exc)
    (case l_law_refused => first | k_is | kit_is | k_exc)
    (case d_law_refused => first | k_is | kit_is | k_exc)
    (case k_law_refused => first | k_is | kit_is | k_exc)
    (case a_law_ends => first | k_is | kit_is | k_exc)
    (case l_law_ends => first | k_is | kit_is | k_exc)
    (case d_law_ends => first | k_is | kit_is | k_exc)
    (case k_law_ends => first | k_is | kit_is | k_exc)
    (case a_law_spelled => first | k_is | kit_is | k_exc)
    (case l_law_spelled => first | k_is | kit_is | k_exc)
    (case d_law_spelled => first | k_is | kit_is | k_exc)
    (case k_law_spelled => first | k_is | kit_is | k_exc)
    (case alaw => first | k_is | kit_is | k_exc)
    (case llaw => first | k_is | kit_is | k_exc)
    (case dlaw => first | k_is | kit_is | k_exc)
    (case klaw => first | k_is | kit_is | k_exc)
    (case z_ValueError => first | k_is | kit_is | k_exc)
    (case z_all => first | k_is | kit_is | k_exc)
    (case z_enumerate => first | k_is | kit_is | k_exc)
    (case z_int => first | k_is | kit_is | k_exc)
    (case z_isinstance => first | k_is | kit_is | k_exc)
    (case z_len => first | k_is | kit_is | k_exc)
    (case z_max => first | k_is | kit_is | k_exc)
    (case z_min => first | k_is | kit_is | k_exc)
    (case z_ord => first | k_is | kit_is | k_exc)
    (case z_range => first | k_is | kit_is | k_exc)
    (case z_repr => first | k_is | kit_is | k_exc)
    (case z_str => first | k_is | kit_is | k_exc)
    (case z_tuple => first | k_is | kit_is | k_exc)
    (case z_zip => first | k_is | kit_is | k_exc)
    (case v_FIGURES => first | k_is | kit_is | k_exc)
    (case v_LETTERS => first | k_is | kit_is | k_exc)
    (case v_MOST_FIGURES => first | k_is | kit_is | k_exc)
    (case v_MOST_LETTERS => first | k_is | kit_is | k_exc)
    (case v_MOST_SIGNS => first | k_is | kit_is | k_exc)
    (case v_MODULUS => first | k_is | kit_is | k_exc)
    (case v_PARTS => first | k_is | kit_is | k_exc)
    (case dl_PARTS => first | k_is | kit_is | k_exc)
    (case ds_PARTS => first | k_is | kit_is | k_exc | rfl | decide +kernel)
    (case tl_PARTS_put => first | k_is | kit_is | k_exc)
    (case tl_PARTS_cut => first | k_is | kit_is | k_exc)
    (case tl_PARTS_hold => first | k_is | kit_is | k_exc)
    (case tl_PARTS_free => first | k_is | kit_is | k_exc)
    (case tl_PARTS_carry => first | k_is | kit_is | k_exc)
    (case ek_CleanError => first | k_is | kit_is | k_exc)
    (case ek_NoRow => first | k_is | kit_is | k_exc)
    (case ga_NoRow => first | k_is | kit_is | k_exc)
    (case gr_NoRow => first | k_is | kit_is | k_exc)
    (case clx_NoRow => first | k_is | kit_is | k_exc)
    (case ob_NoRow => first | k_is | kit_is | k_exc)
    (case ba_NoRow => first | k_is | kit_is | k_exc)
    (case mro_NoRow => first | k_is | kit_is | k_exc)
    (case kk_NoRow_ValueError => first | k_is | kit_is | k_exc)
    (case kk_NoRow_NoRow => first | k_is | kit_is | k_exc)
    (case kk_NoRow_NoDisk => first | k_is | kit_is | k_exc)
    (case kk_NoRow_Full => first | k_is | kit_is | k_exc)
    (case kk_NoRow_Stopped => first | k_is | kit_is | k_exc)
    (case kk_NoRow_NoFile => first | k_is | kit_is | k_exc)
    (case kk_NoRow_NoPlace => first | k_is | kit_is | k_exc)
    (case kk_NoRow_HeldAlready => first | k_is | kit_is | k_exc)
    (case kk_NoRow_NotHeld => first | k_is | kit_is | k_exc)
    (case kk_NoRow_NoFiles => first | k_is | kit_is | k_exc)
    (case kk_NoRow_NoMark => first | k_is | kit_is | k_exc)
    (case kk_NoRow_NoRoom => first | k_is | kit_is | k_exc)
    (case kk_NoRow_Gone => first | k_is | kit_is | k_exc)
    (case kk_NoRow_NotClosed => first | k_is | kit_is | k_exc)
    (case kk_NoRow_NotBlank => first | k_is | kit_is | k_exc)
    (case kk_NoRow_NoDeed => first | k_is | kit_is | k_exc)
    (case kk_NoRow_NoHouse => first | k_is | kit_is | k_exc)
