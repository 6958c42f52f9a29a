import PyProof.Rows.All
import Wide.All
import OpenK.AllK
import Wide.FinOn
import Lean
import PyProof.EqAt
import PyProof.EqKinds
import PyProof.TupleCall
import KE.KUnpack
import PyProof.NeKinds
import PyProof.EnumFor
import PyProof.EnumStmt
import PyProof.EnumMake
import PyProof.Draws
import PyProof.StrWalks
import PyProof.Rows.FStr
import PyProof.Rows.CallKw2
import PyProof.StrBlockL
import KE.KIntText
import PyProof.ConsumeWalk
import PyProof.StrBlockG
import PyProof.CallStr
import PyProof.Rows.Range3
import PyProof.MeetsDict
import PyProof.DictList
import PyProof.StrLawsChain
import PyProof.StrLawsNeg
import KE.IntTextLaws
import KE.IntTextText
import PyProof.CallFns
import PyProof.CompUse
import PyProof.DictWalks
import KE.KDictSum
import PyProof.FString5
import PySem.Challenge.RW_cleanrows_k23_texts_of_files
set_option Elab.async false
set_option linter.all false
set_option maxRecDepth 100000
/-! THE HAND LAYER, for ints, bools, texts, own classes, LISTS and tuples (index, slices, in, append, pop ..), calls, loops. Paste it whole ahead of your own text; what your proof does not reach may be deleted. -/
namespace L2
open PySem PySem.Spec PyProof.Rows

/-- a key: an int or a str -/
abbrev Key := Sum Int Str
def keyIs : Key → Value → Bool
  | .inl k, v => Value.isInt k v
  | .inr x, v => Value.isStrOf x v
def keyH (w : World) : Key → Int
  | .inl k => hashInt k
  | .inr x => hashStr w x
theorem keyIs_shape : ∀ {k : Key} {v : Value}, keyIs k v = true → (∃ i t, k = Sum.inl i ∧ v = Value.int i t) ∨ (∃ x t, k = Sum.inr x ∧ v = Value.str x t)
  | .inl i, v, h => by
    obtain ⟨t, e⟩ := Value.isInt_shape (k := i) (v := v) h
    exact .inl ⟨i, t, rfl, e⟩
  | .inr x, v, h => by
    obtain ⟨t, e⟩ := Value.isStrOf_shape (x := x) (v := v) h
    exact .inr ⟨x, t, rfl, e⟩
theorem keyIs_int (i : Int) (t : Tok) : keyIs (.inl i) (.int i t) = true := by simp [keyIs, Value.isInt]
theorem keyIs_str (x : Str) (t : Tok) : keyIs (.inr x) (.str x t) = true := by simp [keyIs, Value.isStrOf]
theorem key_ll (a b : Int) : decide ((Sum.inl a : Key) = Sum.inl b) = (a == b) := by
  by_cases e : a = b
  · subst e; simp
  · have h : ¬ (Sum.inl a : Key) = Sum.inl b := fun q => e (Sum.inl.inj q)
    rw [decide_eq_false h]
    exact (beq_eq_false_iff_ne.mpr e).symm
theorem key_rr (a b : Str) : decide ((Sum.inr a : Key) = Sum.inr b) = decide (a = b) := by
  by_cases e : a = b
  · subst e; simp
  · have h : ¬ (Sum.inr a : Key) = Sum.inr b := fun q => e (Sum.inr.inj q)
    rw [decide_eq_false h, decide_eq_false e]
theorem key_lr (a : Int) (b : Str) : decide ((Sum.inl a : Key) = Sum.inr b) = false := decide_eq_false (fun q => nomatch q)
theorem key_rl (a : Str) (b : Int) : decide ((Sum.inr a : Key) = Sum.inl b) = false := decide_eq_false (fun q => nomatch q)

def mixKind (prog : Program) (w : World) : PySem.KeyKind prog w Key where
  is := keyIs
  hash := keyH w
  inj := fun v a b ha hb => by
    rcases keyIs_shape ha with ⟨i, t, rfl, rfl⟩ | ⟨x, t, rfl, rfl⟩
    · rcases keyIs_shape hb with ⟨j, u, rfl, e⟩ | ⟨y, u, rfl, e⟩
      · injection e with e1 _; rw [e1]
      · exact nomatch e
    · rcases keyIs_shape hb with ⟨j, u, rfl, e⟩ | ⟨y, u, rfl, e⟩
      · exact nomatch e
      · injection e with e1 _; rw [e1]
  byValue := fun k v h => by
    rcases keyIs_shape h with ⟨i, t, rfl, rfl⟩ | ⟨x, t, rfl, rfl⟩ <;> rfl
  pyHash := fun hv h => by
    rcases keyIs_shape hv with ⟨i, t, rfl, rfl⟩ | ⟨x, t, rfl, rfl⟩
    · exact wpAny_pyHash_int h
    · exact wpAny_pyHash_str h
  eqBool := fun hu hv h => by
    rcases keyIs_shape hu with ⟨i, t, rfl, rfl⟩ | ⟨x, t, rfl, rfl⟩
    · rcases keyIs_shape hv with ⟨j, u, rfl, rfl⟩ | ⟨y, u, rfl, rfl⟩
      · rw [key_ll] at h; exact wpAny_eqBool_int h
      · rw [key_lr] at h; exact SeqAt.EqAt.int_str i t y u _ _ _ _ h
    · rcases keyIs_shape hv with ⟨j, u, rfl, rfl⟩ | ⟨y, u, rfl, rfl⟩
      · rw [key_rl] at h; exact SeqAt.EqAt.str_int x t j u _ _ _ _ h
      · rw [key_rr] at h; exact wpAny_eqBool_str h
  «strs» := fun k x t v h => by
    rcases keyIs_shape h with ⟨i, u, rfl, e⟩ | ⟨y, u, rfl, e⟩
    · exact nomatch e
    · injection e with e1 _
      subst e1
      cases v <;> rfl

theorem mixKind_int (prog : Program) (w : World) (i : Int) (t : Tok) : (mixKind prog w).is (.inl i) (.int i t) = true := keyIs_int i t
theorem mixKind_str (prog : Program) (w : World) (x : Str) (t : Tok) : (mixKind prog w).is (.inr x) (.str x t) = true := keyIs_str x t
end L2

namespace L2
open PySem PySem.Spec PyProof.Rows

/-- a value, without the heap -/
inductive V where
  | non | bl (b : Bool) | int (i : Int) | str (x : Str) | byt (b : Array UInt8) | flt (b : UInt64) | ref (a : Addr) | ty (n : String)
  deriving DecidableEq

def RelV : V → Value → Prop
  | .non, u => u = Value.none
  | .bl b, u => u = Value.bool b
  | .int i, u => ∃ t, u = Value.int i t
  | .str x, u => ∃ t, u = Value.str x t
  | .byt b, u => ∃ t, u = Value.bytes b t
  | .flt b, u => ∃ t, u = Value.float b t
  | .ref a, u => u = Value.ref a
  | .ty n, u => u = Value.type n

abbrev Vals : List V → List Value → Prop := Paired RelV
theorem Vals.length {xs : List V} {us : List Value} (r : Vals xs us) : xs.length = us.length := Paired.length r
theorem Vals.get : ∀ {xs : List V} {us : List Value} {i : Nat} {x : V}, Vals xs us → xs[i]? = some x → ∃ u, us[i]? = some u ∧ RelV x u
  | _, _, _, _, .nil, e => by simp at e
  | _, _, 0, _, .cons r _, e => by simp at e; subst e; exact ⟨_, rfl, r⟩
  | _, _, i + 1, x, .cons _ t, e => by
    obtain ⟨u, h1, h2⟩ := Vals.get (i := i) (x := x) t (by simpa using e)
    exact ⟨u, by simpa using h1, h2⟩
theorem Vals.set {x : V} {u : Value} (r : RelV x u) : ∀ {xs : List V} {us : List Value} (i : Nat), Vals xs us → Vals (xs.set i x) (us.set i u)
  | _, _, _, .nil => .nil
  | _, _, 0, .cons _ t => .cons r t
  | _, _, i + 1, .cons q t => .cons q (Vals.set r i t)
theorem Vals.append : ∀ {xs ys : List V} {us ws : List Value}, Vals xs us → Vals ys ws → Vals (xs ++ ys) (us ++ ws)
  | _, _, _, _, .nil, s => s
  | _, _, _, _, .cons r t, s => .cons r (Vals.append t s)
theorem Vals.take : ∀ {xs : List V} {us : List Value} (n : Nat), Vals xs us → Vals (xs.take n) (us.take n)
  | _, _, 0, _ => .nil
  | _, _, _ + 1, .nil => .nil
  | _, _, n + 1, .cons r t => .cons r (Vals.take n t)
theorem Vals.drop : ∀ {xs : List V} {us : List Value} (n : Nat), Vals xs us → Vals (xs.drop n) (us.drop n)
  | _, _, 0, r => r
  | _, _, _ + 1, .nil => .nil
  | _, _, n + 1, .cons _ t => Vals.drop n t
theorem Vals.none_of : ∀ {xs : List V} {us : List Value} {i : Nat}, Vals xs us → xs[i]? = none → us[i]? = none := fun {xs us i} r e => by
  have h1 := r.length
  have h2 : xs.length ≤ i := List.getElem?_eq_none_iff.mp e
  exact List.getElem?_eq_none_iff.mpr (by omega)

def RelO : Option V → Option Value → Prop
  | some v, some u => RelV v u
  | none, none => True
  | _, _ => False
def KV {κ : Type} : List (κ × V) → List (κ × Value) → Prop := Paired fun (p : κ × V) (q : κ × Value) => p.1 = q.1 ∧ RelV p.2 q.2

/-- a key of a dict (00_mix): an int or a text -/
def kV : Key → V
  | .inl i => .int i
  | .inr x => .str x

/-- what stands at a tracked address -/
inductive HO where
  /-- a list -/
  | lst (xs : List V)
  /-- a tuple (never changes) -/
  | tup (xs : List V)
  /-- a dict whose keys are ints and texts; one whose keys are tuples of ints and texts (the empty one is both) -/
  | dK (kvs : List (Key × V)) | dT (kvs : List (List Key × V))
  /-- a set of ints: its members, its size -/
  | set (S : Int → Bool) (n : Nat)
  /-- an instance of the class at C, its dict at dx, its attributes -/
  | ins (C dx : Addr) (fs : List (Str × V))
  /-- the dict of the instance at x -/
  | own (x : Addr)
  /-- the dict of an exception -/
  | xd (fs : List (Str × V))
  /-- a bound method, f of x -/
  | met (f x : Addr)
  /-- a range object lo, lo + 1, .. below hi -/
  | rng (lo hi : Int)
  /-- a thing that is known to the object (the script; a dict while a loop walks it): read, never written while it is so -/
  | frz (o : Obj) (u : HO)
  /-- a code object's table -/
  | tbl (ps : Array Value)
  /-- any other thing, by what is true of its one object (a def of one's own: SetO a S n := HO.ext fun h => ..) -/
  | ext (φ : Heap → Prop)

abbrev Hp := Addr → Option HO
def upd (H : Hp) (a : Addr) (o : HO) : Hp := fun b => if b = a then some o else H b
theorem upd_same {H : Hp} {a : Addr} {o : HO} : upd H a o a = some o := by unfold upd; rw [if_pos rfl]
theorem upd_ne {H : Hp} {a b : Addr} {o : HO} (h : b ≠ a) : upd H a o b = H b := by unfold upd; rw [if_neg h]
/-- two objects of different content stand apart -/
theorem ne_of {H : Hp} {a b : Addr} {o u : HO} (h : H a = some o) (h' : H b = some u) (d : o ≠ u) : a ≠ b := by
  intro e; subst e; rw [h] at h'; exact d (Option.some.inj h')
theorem ne_of_none {H : Hp} {a b : Addr} {o : HO} (h : H a = some o) (h' : H b = none) : a ≠ b := by
  intro e; subst e; rw [h] at h'; cases h'

section
variable (P : Program) (w : World)
def ObjOk (H : Hp) (h : Heap) (a : Addr) : HO → Prop
  | .lst xs => xs.length ≤ sizeLine ∧ ∃ (its : List Value) (n : Nat), Vals xs its ∧ h.get? a = some { cls := .type "list", data := .seq its.toArray n }
  | .tup xs => xs.length ≤ sizeLine ∧ ∃ its : List Value, Vals xs its ∧ IsTup h a its.toArray
  | .dK kvs => kvs.length ≤ sizeLine ∧ (a == sysModules) = false ∧ ∃ vs, KV kvs vs ∧ h.DictOf (mixKind P w) a vs
  | .dT kvs => kvs.length ≤ sizeLine ∧ (a == sysModules) = false ∧ ∃ xs : List (List Key × Addr × Value),
      Paired (fun (p : List Key × V) (q : List Key × Addr × Value) => p.1 = q.1 ∧ H q.2.1 = some (.tup (p.1.map kV)) ∧ RelV p.2 q.2.2) kvs xs ∧
      ∃ o es ep, h.get? a = some o ∧ o.ExactDict ∧ o.data = .dict es ep ∧ es.toList = xs.map (entryOfKey (tupleKind (mixKind P w))) ∧ (xs.map (·.1)).Nodup
  | .set S n => h.SetOf (intKind P w) a S n
  | .ins C dx fs => H dx = some (.own a) ∧ fs.length ≤ 1000 ∧ dx ≠ a ∧ h.get? a = some (PySem.W.instObj C dx) ∧
      ∃ mA, h.Ns1 dx mA ∧ (∀ f, RelO (fs.lookup f) (mA f)) ∧ PySem.Within mA (fs.map (·.1))
  | .own _ => ∃ o, h.get? a = some o
  | .xd fs => ∃ mA, h.Ns1 a mA ∧ ∀ f, RelO (fs.lookup f) (mA f)
  | .rng lo hi => ∃ t u v, h.get? a = some { cls := .type "range", data := .fields #[.int lo t, .int hi u, .int 1 v] }
  | .frz o u => h.get? a = some o ∧ ObjOk H h a u
  | .tbl ps => h.get? a = some { cls := .none, data := .fields ps }
  | .met f x => h.get? a = some (PySem.W.methodObj (.ref f) (.ref x))
  | .ext φ => φ h ∧ (∃ o, h.get? a = some o) ∧ ∀ h1 h2 : Heap, φ h1 → (∀ o, h1.get? a = some o → h2.get? a = some o) → φ h2
/-- the abstract heap is held -/
def HOk (H : Hp) (h : Heap) : Prop := ∀ a o, H a = some o → ObjOk P w H h a o
end

section
variable {P : Program} {w : World} {H H' : Hp} {h h' : Heap} {a : Addr} {o : HO}
theorem ObjOk.lt (x : ObjOk P w H h a o) : a < h.objs.size := by
  cases o with
  | lst xs => obtain ⟨_, _, _, _, e⟩ := x; exact Heap.lt_size e
  | tup xs => obtain ⟨_, _, _, p⟩ := x; exact p.lt
  | dK kvs => obtain ⟨_, _, _, _, o, _, _, e, _⟩ := x; exact Heap.lt_size e
  | dT kvs => obtain ⟨_, _, _, _, o, _, _, e, _⟩ := x; exact Heap.lt_size e
  | set S n => obtain ⟨o, _, _, _, e, _⟩ := x; exact Heap.lt_size e
  | ins C dx fs => obtain ⟨_, _, _, e, _⟩ := x; exact Heap.lt_size e
  | own y => obtain ⟨_, e⟩ := x; exact Heap.lt_size e
  | xd fs => obtain ⟨_, ⟨_, _, _, e, _⟩, _⟩ := x; exact Heap.lt_size e
  | rng lo hi => obtain ⟨_, _, _, e⟩ := x; exact Heap.lt_size e
  | frz ob u => obtain ⟨e, _⟩ := x; exact Heap.lt_size e
  | tbl ps => exact Heap.lt_size (show h.get? a = some _ from x)
  | met f y => exact Heap.lt_size (show h.get? a = some _ from x)
  | ext φ => obtain ⟨_, ⟨_, e⟩, _⟩ := x; exact Heap.lt_size e
theorem Paired.mapP {α β : Type} {F G : α → β → Prop} : ∀ {l₁ : List α} {l₂ : List β}, Paired F l₁ l₂ → (∀ a b, F a b → G a b) → Paired G l₁ l₂
  | _, _, .nil, _ => .nil
  | _, _, .cons r t, f => .cons (f _ _ r) (Paired.mapP t f)
/-- what an object's description leans on: its own object, its own dict, the tuples -/
theorem ObjOk.stay (x : ObjOk P w H h a o) (k : ∀ b u, (b = a ∨ H b = some (.own a)) → h.get? b = some u → h'.get? b = some u)
    (ho : ∀ b, H b = some (.own a) → H' b = some (.own a)) (ht : ∀ b xs, H b = some (.tup xs) → H' b = some (.tup xs)) : ObjOk P w H' h' a o := by
  induction o with
  | lst xs => obtain ⟨z, its, n, r, e⟩ := x; exact ⟨z, its, n, r, k _ _ (.inl rfl) e⟩
  | tup xs => obtain ⟨z, its, r, ob, e, c⟩ := x; exact ⟨z, its, r, ob, k _ _ (.inl rfl) e, c⟩
  | dK kvs => obtain ⟨z, y, vs, r, ob, es, ep, e, c⟩ := x; exact ⟨z, y, vs, r, ob, es, ep, k _ _ (.inl rfl) e, c⟩
  | dT kvs =>
    obtain ⟨z, y, xs, r, ob, es, ep, e, c⟩ := x
    exact ⟨z, y, xs, Paired.mapP r fun p q z => ⟨z.1, ht _ _ z.2.1, z.2.2⟩, ob, es, ep, k _ _ (.inl rfl) e, c⟩
  | set S n => obtain ⟨ob, es, ep, t, e, c⟩ := x; exact ⟨ob, es, ep, t, k _ _ (.inl rfl) e, c⟩
  | ins C dx fs =>
    obtain ⟨d, z, ne, e, mA, ⟨od, es, ep, e2, c⟩, r⟩ := x
    exact ⟨ho _ d, z, ne, k _ _ (.inl rfl) e, mA, ⟨od, es, ep, k _ _ (.inr d) e2, c⟩, r⟩
  | own y => obtain ⟨ob, e⟩ := x; exact ⟨ob, k _ _ (.inl rfl) e⟩
  | xd fs => obtain ⟨mA, ⟨od, es, ep, e, c⟩, r⟩ := x; exact ⟨mA, ⟨od, es, ep, k _ _ (.inl rfl) e, c⟩, r⟩
  | rng lo hi => obtain ⟨t, u, v, e⟩ := x; exact ⟨t, u, v, k _ _ (.inl rfl) e⟩
  | frz ob u ih => obtain ⟨e, q⟩ := x; exact ⟨k _ _ (.inl rfl) e, ih q⟩
  | tbl ps =>
    have e : h.get? a = some { cls := .none, data := .fields ps } := x
    show h'.get? a = some { cls := .none, data := .fields ps }
    exact k a _ (.inl rfl) e
  | met f y =>
    have e : h.get? a = some (PySem.W.methodObj (.ref f) (.ref y)) := x
    show h'.get? a = some (PySem.W.methodObj (.ref f) (.ref y))
    exact k a _ (.inl rfl) e
  | ext φ => obtain ⟨p, ⟨o, e⟩, st⟩ := x; exact ⟨st _ _ p fun o q => k _ _ (.inl rfl) q, ⟨o, k _ _ (.inl rfl) e⟩, st⟩
theorem HOk.lt (x : HOk P w H h) (e : H a = some o) : a < h.objs.size := (x a o e).lt
theorem HOk.fresh (x : HOk P w H h) (e : h.objs.size ≤ a) : H a = none := by
  cases q : H a with
  | none => rfl
  | some u => exact absurd (Nat.lt_of_lt_of_le (x.lt q) e) (Nat.lt_irrefl _)
/-- every object of the heap is kept -/
theorem HOk.kept (x : HOk P w H h) (k : ∀ b u, h.get? b = some u → h'.get? b = some u) : HOk P w H h' := fun a o e =>
  (x a o e).stay (fun b u _ q => k b u q) (fun _ q => q) fun _ _ q => q
/-- a new object is laid and tracked -/
theorem HOk.laid (x : HOk P w H h) (k : ∀ b u, h.get? b = some u → h'.get? b = some u) (hp : h.objs.size ≤ a) (new : ObjOk P w (upd H a o) h' a o) : HOk P w (upd H a o) h' := fun b u e => by
  have hn := x.fresh hp
  by_cases hb : b = a
  · subst hb; rw [upd_same] at e; cases e; exact new
  · rw [upd_ne hb] at e
    exact (x b u e).stay (fun c v _ q => k c v q) (fun c q => by rw [upd_ne (ne_of_none q hn)]; exact q) fun c xs q => by rw [upd_ne (ne_of_none q hn)]; exact q
end

/-- what may be read as u: it is u, or a known u -/
def Rd (H : Hp) (a : Addr) (u : HO) : Prop := H a = some u ∨ ∃ o, H a = some (.frz o u)
theorem Rd.of {H : Hp} {a : Addr} {u : HO} (h : H a = some u) : Rd H a u := .inl h
theorem Rd.ok {P : Program} {w : World} {H : Hp} {h : Heap} {a : Addr} {u : HO} (r : Rd H a u) (x : HOk P w H h) : ObjOk P w H h a u := by
  rcases r with r | ⟨o, r⟩
  · exact x a u r
  · obtain ⟨_, q⟩ := x a _ r
    exact q
/-- what may be written -/
def Mut : Option HO → Prop
  | some (.lst _) => True
  | some (.dK _) => True
  | some (.dT _) => True
  | some (.set _ _) => True
  | some (.ins _ _ _) => True
  | some (.ext _) => True
  | _ => False
section
variable {P : Program} {w : World} {H : Hp} {h h' : Heap} {x e : Addr} {o' : HO}
/-- the object at e is changed: x itself, or the dict of the instance x -/
theorem HOk.write (ok : HOk P w H h) (mu : Mut (H x)) (he : e = x ∨ H e = some (.own x)) (k : ∀ b u, b ≠ e → h.get? b = some u → h'.get? b = some u) (heo : ∃ u, h'.get? e = some u)
    (new : ObjOk P w (upd H x o') h' x o') : HOk P w (upd H x o') h' := fun b u q => by
  have nown : ∀ c y, H c = some (.own y) → c ≠ x := fun c y r z => by subst z; rw [r] at mu; exact mu
  have ntup : ∀ c xs, H c = some (.tup xs) → c ≠ x := fun c xs r z => by subst z; rw [r] at mu; exact mu
  by_cases hb : b = x
  · subst hb; rw [upd_same] at q; cases q; exact new
  · rw [upd_ne hb] at q
    by_cases hbe : b = e
    · have q' : H b = some (.own x) := by
        rcases he with z | z
        · exact absurd (hbe.trans z) hb
        · rw [hbe]; exact z
      rw [q] at q'; cases q'
      obtain ⟨v, hv⟩ := heo
      exact ⟨v, by rw [hbe]; exact hv⟩
    · refine (ok b u q).stay (fun c v hc r => k c v ?_ r) (fun c r => by rw [upd_ne (nown c b r)]; exact r) fun c xs r => by rw [upd_ne (ntup c xs r)]; exact r
      rcases hc with rfl | hc
      · exact hbe
      · rintro rfl
        rcases he with z | z
        · exact nown c b hc z
        · rw [hc] at z; cases z; exact hb rfl
end

/-! ### kept unless tracked; of the frames at fs (the callers') the slots may change (an exception that passes writes there); of the records at ex (iterators) nothing is said -/
structure Un (fs ex : List Addr) (H H' : Hp) (h h' : Heap) : Prop where
  keep : ∀ b o, h.get? b = some o → H b = none → b ∉ fs → b ∉ ex → h'.get? b = some o
  slot : ∀ b o, h.get? b = some o → H b = none → b ∈ fs → b ∉ ex → ∃ sl, h'.get? b = some { o with slots := sl }
  free : ∀ b o, h.get? b = some o → H b = none → b ∉ ex → H' b = none
  there : ∀ b o, h.get? b = some o → b ∉ ex → ∃ o', h'.get? b = some o'
  tups : ∀ b xs, H b = some (.tup xs) → H' b = some (.tup xs)
  frzs : ∀ b o u, H b = some (.frz o u) → H' b = some (.frz o u)
  tbls : ∀ b ps, H b = some (.tbl ps) → ∃ more, H' b = some (.tbl (ps ++ more))
section
variable {fs fs' ex ex' : List Addr} {H H1 H2 : Hp} {h h1 h2 h' : Heap} {a x e : Addr} {o : HO}
theorem Un.any (u : Un fs ex H H1 h h1) {b : Addr} {ob : Obj} (q : h.get? b = some ob) (n : H b = none) (hx : b ∉ ex) : ∃ sl, h1.get? b = some { ob with slots := sl } := by
  by_cases hb : b ∈ fs
  · exact u.slot b ob q n hb hx
  · exact ⟨ob.slots, u.keep b ob q n hb hx⟩
theorem Un.trans (a : Un fs ex H H1 h h1) (b : Un fs ex H1 H2 h1 h2) : Un fs ex H H2 h h2 where
  keep := fun c ob q n hc hx => b.keep c ob (a.keep c ob q n hc hx) (a.free c ob q n hx) hc hx
  slot := fun c ob q n hc hx => by
    obtain ⟨sl, e1⟩ := a.slot c ob q n hc hx
    obtain ⟨sl', e2⟩ := b.slot c _ e1 (a.free c ob q n hx) hc hx
    exact ⟨sl', e2⟩
  free := fun c ob q n hx => by
    obtain ⟨o', e1⟩ := a.there c ob q hx
    exact b.free c o' e1 (a.free c ob q n hx) hx
  there := fun c ob q hx => by
    obtain ⟨o', e1⟩ := a.there c ob q hx
    exact b.there c o' e1 hx
  tups := fun c xs q => b.tups c xs (a.tups c xs q)
  frzs := fun c ob xs q => b.frzs c ob xs (a.frzs c ob xs q)
  tbls := fun c ps q => by
    obtain ⟨m1, e1⟩ := a.tbls c ps q
    obtain ⟨m2, e2⟩ := b.tbls c _ e1
    exact ⟨m1 ++ m2, by rw [e2, Array.append_assoc]⟩
theorem Un.kept (k : ∀ b u, h.get? b = some u → h'.get? b = some u) : Un fs ex H H h h' :=
  ⟨fun b ob q _ _ _ => k b ob q, fun b ob q _ _ _ => ⟨ob.slots, k b ob q⟩, fun _ _ _ n _ => n, fun b ob q _ => ⟨ob, k b ob q⟩, fun _ _ q => q, fun _ _ _ q => q, fun _ ps q => ⟨#[], by rw [q]; simp⟩⟩
theorem Un.refl : Un fs ex H H h h := Un.kept fun _ _ q => q
theorem Un.laid (k : ∀ b u, h.get? b = some u → h'.get? b = some u) (hp : h.objs.size ≤ a) (hn : H a = none) : Un fs ex H (upd H a o) h h' where
  keep := fun b u q _ _ _ => k b u q
  slot := fun b u q _ _ _ => ⟨u.slots, k b u q⟩
  free := fun b u q n _ => by rw [upd_ne (Nat.ne_of_lt (Nat.lt_of_lt_of_le (Heap.lt_size q) hp))]; exact n
  there := fun b u q _ => ⟨u, k b u q⟩
  tups := fun b xs q => by rw [upd_ne (ne_of_none q hn)]; exact q
  frzs := fun b u xs q => by rw [upd_ne (ne_of_none q hn)]; exact q
  tbls := fun b ps q => ⟨#[], by rw [upd_ne (ne_of_none q hn), q]; simp⟩
theorem Un.write (mu : Mut (H x)) (he : e = x ∨ H e = some (.own x)) (k : ∀ b u, b ≠ e → h.get? b = some u → h'.get? b = some u) (heo : ∃ u, h'.get? e = some u) : Un fs ex H (upd H x o) h h' := by
  have hx : ∀ b, H b = none → b ≠ x := fun b n z => by subst z; rw [n] at mu; exact mu
  have hb : ∀ b, H b = none → b ≠ e := fun b n z => by
    subst z
    rcases he with r | r
    · exact hx b n r
    · rw [n] at r; cases r
  have hm : ∀ b u, H b = some u → ¬ Mut (some u) → b ≠ x := fun b u q nm z => by subst z; rw [q] at mu; exact nm mu
  refine ⟨fun b u q n _ _ => k b u (hb b n) q, fun b u q n _ _ => ⟨u.slots, k b u (hb b n) q⟩, fun b u q n _ => by rw [upd_ne (hx b n)]; exact n, fun b u q _ => ?_,
    fun b xs q => by rw [upd_ne (hm b _ q fun z => z)]; exact q, fun b u xs q => by rw [upd_ne (hm b _ q fun z => z)]; exact q, fun b ps q => ⟨#[], by rw [upd_ne (hm b _ q fun z => z), q]; simp⟩⟩
  by_cases hbe : b = e
  · subst hbe; exact heo
  · exact ⟨u, k b u hbe q⟩
theorem Un.mono (u : Un fs ex H H1 h h1) (hs : ∀ b ∈ fs, b ∈ fs') (hx : ∀ b ∈ ex, b ∈ ex') : Un fs' ex' H H1 h h1 :=
  ⟨fun b ob q n hb he => u.keep b ob q n (fun z => hb (hs b z)) fun z => he (hx b z), fun _ _ q n _ he => u.any q n fun z => he (hx _ z), fun b ob q n he => u.free b ob q n fun z => he (hx b z), fun b ob q he => u.there b ob q fun z => he (hx b z), u.tups, u.frzs, u.tbls⟩
end

/-! ### the heap without what is tracked -/
def trk (h : Heap) (H : Hp) : List Addr := (List.range h.objs.size).filter fun a => (H a).isSome
def hidT (h : Heap) (H : Hp) : Heap := PySem.W.hideAll h (trk h H)
theorem hidT_size (h : Heap) (H : Hp) : (hidT h H).objs.size = h.objs.size := PySem.W.hideAll_size _ _
theorem hidT_get {h : Heap} {H : Hp} {b : Addr} {o : Obj} (e : h.get? b = some o) (n : H b = none) : (hidT h H).get? b = some o :=
  PySem.W.hideAll_get _ e fun hm => by
    have q : (H b).isSome = true := (List.mem_filter.mp hm).2
    rw [n] at q; simp at q
theorem of_hidT {h : Heap} {H : Hp} {b : Addr} {o : Obj} (e : (hidT h H).get? b = some o) : h.get? b = some o ∧ H b = none := by
  have e' : h.get? b = some o := PySem.W.of_hideAll (trk h H) e
  refine ⟨e', ?_⟩
  cases q : H b with
  | none => rfl
  | some x =>
    have hm : b ∈ trk h H := List.mem_filter.mpr ⟨List.mem_range.mpr (Heap.lt_size e'), by simp [q]⟩
    have z : (hidT h H).get? b = none := PySem.W.hideAll_none (trk h H) hm
    rw [z] at e; cases e

/-! ### OpenK's ledger, filled with every new object but one -/
def allNews (g h : Heap) (L : Addr) : List (Addr × Obj) := (List.range h.objs.size).filterMap fun a => if a = L ∨ (g.get? a).isSome = true then none else (h.get? a).map fun o => (a, o)
def rest (g h : Heap) (L d : Addr) : List (Addr × Obj) := (allNews g h L).filter fun p => decide (p.1 ≠ d)
end L2

namespace L2
open PySem PySem.Spec PyProof.Rows

/-- the module's facts, over the base: the heap at the law's entry without what is tracked there -/
structure Mod (K : PySem.W.Frag) (mg : Str → Option Value) (base : Heap) : Prop where
  kin : K.In base
  glob : base.Ns mainGlobals mg
  blt : ∃ mb, base.Ns builtinsNs mb ∧ ∀ x : Str, x ≠ "__name__" → mb x = bootBuiltins x
  nolimit : base.NoLimit

/-- what is being handled: nothing, or an exception on which no context hangs, known to the object -/
def HdOk (A : Around) (H : Hp) : Prop := A.handled = none ∨ ∃ (a : Addr) (o : Obj) (vs : Array Value), A.handled = some (.ref a) ∧ H a = some (.frz o (.own 0)) ∧ o.data = .fields vs ∧ vs[2]? = some .none ∧ ∃ C, o.cls = .ref C
theorem HdOk.same {A : Around} {H H' : Hp} (x : HdOk A H) (k : ∀ b o u, H b = some (.frz o u) → H' b = some (.frz o u)) : HdOk A H' := by
  rcases x with x | ⟨a, o, vs, h1, h2, h3⟩
  · exact .inl x
  · exact .inr ⟨a, o, vs, h1, k _ _ _ h2, h3⟩
/-- the context: a def's body (or a comprehension's block) running. base: fixed through the whole law; s₀, H₀: the entry; outer: the frames whose slots others may change (a def's callers); stack: all frames that run;
   ex: iterators that were made ahead of the entry and are walked here (a comprehension's); fn: the names whose cells were made at the entry (a def: all; a comprehension's block: its own); calm: not within an except suite; pn: pins that every state bears; xe: what is wanted of an exception that leaves the code -/
structure Cx where
  prog : Program
  w : World
  K : PySem.W.Frag
  mg : Str → Option Value
  base : Heap
  A : Around
  N : List Str
  s₀ : Shared
  H₀ : Hp
  env : Env
  outer : List Env
  stack : List Env
  ex : List Addr
  fn : Str → Bool
  calm : Bool
  pn : List (Addr × Obj)
  xe : Value → Shared → Prop
/-- the callers' frames -/
def frs (l : List Env) : List Addr := l.filterMap (·.frame)
abbrev Cx.fs (X : Cx) : List Addr := frs X.outer

def Vis (sc : Scope) (x : Str) : Prop := sc.names.lookup x = some .local ∨ sc.names.lookup x = some .cell ∨ sc.names.lookup x = some .free
def Loc (sc : Scope) (x : Str) : Prop := sc.names.lookup x = some .local ∨ sc.names.lookup x = some .cell
def Look (env : Env) (h : Heap) (m : Str → Option Value) (x : Str) (u : Value) : Prop :=
  (env.kindOf x = some .local ∧ m x = some u) ∨ ((env.kindOf x = some .cell ∨ env.kindOf x = some .free) ∧ ∃ c, env.cells.lookup x = some c ∧ h.IsCell c (some u))

structure Cx.Ok (X : Cx) : Prop where
  mod : Mod X.K X.mg X.base
  kind : X.env.scope.kind = .function
  glob : X.env.globals = mainGlobals
  blt : X.env.builtins = builtinsNs
  above : X.s₀.heap.objs.size ≤ X.env.locals
  inj : ∀ x y c, X.env.cells.lookup x = some c → X.env.cells.lookup y = some c → x = y
  has : ∀ x, (X.env.kindOf x = some .cell ∨ X.env.kindOf x = some .free) → ∃ c, X.env.cells.lookup x = some c
  cab : ∀ x c, X.fn x = true → X.env.cells.lookup x = some c → X.s₀.heap.objs.size ≤ c
  hd : X.calm = true → X.A.handled = none
  frames : X.A.frames = some X.stack
  stk : X.stack = X.outer ∨ (X.stack = X.env :: X.outer ∧ X.env.frame = some X.env.locals)
  exf : ∀ b ∈ X.ex, b ≠ X.env.locals ∧ ∀ x c, X.env.cells.lookup x = some c → c ≠ b
  bs : ∀ b o, X.base.get? b = some o → X.s₀.heap.get? b = some o ∧ X.H₀ b = none
  bsz : X.base.objs.size ≤ X.s₀.heap.objs.size
  noex : ∀ b o, X.base.get? b = some o → b ∉ X.ex
  exfs : ∀ b ∈ X.ex, b ∉ X.fs
  funs : X.s₀.heap.FunFrames X.base X.outer
  frf : ∀ b ∈ X.fs, X.H₀ b = none

structure Inv (X : Cx) (pins : List (Addr × Obj)) (σ : List (Option V)) (H : Hp) (s : Shared) : Prop where
  ok : X.Ok
  os : s.os = X.s₀.os
  bare : AllBare s.gens
  base : Un X.fs X.ex X.H₀ H X.s₀.heap s.heap
  loc : ∃ m, s.heap.Ns X.env.locals m ∧ ∀ (i : Nat) (x : Str) (v : V), X.N[i]? = some x → σ[i]? = some (some v) → Vis X.env.scope x → ∃ u, RelV v u ∧ Look X.env s.heap m x u
  cell : ∀ x c, X.env.cells.lookup x = some c → ∃ v, s.heap.IsCell c v
  free : H X.env.locals = none
  freeC : ∀ x c, X.env.cells.lookup x = some c → H c = none
  pin : ∀ p ∈ X.pn ++ pins, s.heap.get? p.1 = some p.2 ∧ H p.1 = none ∧ p.1 ≠ X.env.locals ∧ p.1 ∉ X.fs ∧ ∀ v, p.2.data ≠ .cell v
  hok : HOk X.prog X.w H s.heap
  len : σ.length = X.N.length
  hdk : HdOk X.A H

section
variable {X : Cx} {pins : List (Addr × Obj)} {σ : List (Option V)} {H H' : Hp} {s : Shared} {h' : Heap}

theorem Cx.Ok.nofr (ok : X.Ok) {b : Addr} {o : Obj} (e : X.base.get? b = some o) : b ∉ X.fs := fun hb => by
  have := (ok.funs.mem hb).1
  rw [e] at this; cases this
theorem Inv.bs (I : Inv X pins σ H s) : ∀ b o, X.base.get? b = some o → s.heap.get? b = some o ∧ H b = none := fun b o e =>
  ⟨I.base.keep b o (I.ok.bs b o e).1 (I.ok.bs b o e).2 (I.ok.nofr e) (I.ok.noex b o e), I.base.free b o (I.ok.bs b o e).1 (I.ok.bs b o e).2 (I.ok.noex b o e)⟩
theorem Inv.bk (I : Inv X pins σ H s) : ∀ b o, X.base.get? b = some o → s.heap.get? b = some o := fun b o e => (I.bs b o e).1
theorem Inv.mod (I : Inv X pins σ H s) : Mod X.K X.mg X.base := I.ok.mod
theorem Inv.kIn (I : Inv X pins σ H s) : X.K.In s.heap := I.ok.mod.kin.keeps I.bk
theorem Inv.nolimit (I : Inv X pins σ H s) : s.heap.NoLimit := I.ok.mod.nolimit.keeps I.bk
/-- the frame over the base: for OpenK's rules (K.In X.base is I.mod.kin) -/
theorem Inv.fr (I : Inv X pins σ H s) : ∃ m, Fr X.base X.env.locals s.heap m :=
  let ⟨m, hn, _⟩ := I.loc
  ⟨m, hn, I.bk, Nat.le_trans I.ok.bsz I.ok.above⟩
theorem Inv.lt (I : Inv X pins σ H s) : X.env.locals < s.heap.objs.size := let ⟨_, hn, _⟩ := I.loc; hn.lt
theorem Inv.sz (I : Inv X pins σ H s) : X.s₀.heap.objs.size ≤ s.heap.objs.size := Nat.le_trans I.ok.above (Nat.le_of_lt I.lt)
theorem Inv.nofs (I : Inv X pins σ H s) {a : Addr} (h : s.heap.objs.size ≤ a) : a ∉ X.fs := fun hb => by
  obtain ⟨_, o, ho, _⟩ := I.ok.funs.mem hb
  exact absurd (Nat.lt_of_lt_of_le (Heap.lt_size ho) (Nat.le_trans I.sz h)) (Nat.lt_irrefl _)
theorem Inv.cne (I : Inv X pins σ H s) : ∀ x c, X.env.cells.lookup x = some c → c ≠ X.env.locals := fun x c e z => by
  obtain ⟨v, o, ho, hd⟩ := I.cell x c e
  obtain ⟨m, ⟨o', es, ep, ho', hd', _⟩, _⟩ := I.loc
  rw [z, ho'] at ho; cases ho; rw [hd'] at hd; cases hd
theorem Inv.funs (I : Inv X pins σ H s) : s.heap.FunFrames X.base X.outer := by
  have all : ∀ (l : List Env), (∀ b ∈ frs l, b ∈ X.fs) → X.s₀.heap.FunFrames X.base l → s.heap.FunFrames X.base l := by
    intro l
    induction l with
    | nil => intro _ _; trivial
    | cons env r ih =>
      intro hs hl
      obtain ⟨hk, ⟨L, o, hf, hn, ho, hd⟩, hr⟩ := hl
      have hL : L ∈ X.fs := hs L (by unfold frs; rw [List.filterMap_cons, hf]; exact List.mem_cons_self)
      obtain ⟨sl, e⟩ := I.base.slot L o ho (I.ok.frf L hL) hL fun z => I.ok.exfs L z hL
      exact ⟨hk, ⟨L, _, hf, hn, e, hd⟩, ih (fun b hb => hs b (by unfold frs; rw [List.filterMap_cons, hf]; exact List.mem_cons_of_mem _ hb)) hr⟩
  exact all X.outer (fun _ hb => hb) I.ok.funs

/-- the frames that run, for a call -/
theorem Inv.stack (I : Inv X pins σ H s) : s.heap.FunFrames X.base X.stack := by
  rcases I.ok.stk with e | ⟨e, hf⟩
  · rw [e]; exact I.funs
  · rw [e]
    obtain ⟨m, hn, _⟩ := I.loc
    refine .cons (by rw [I.ok.kind]; decide) hf hn ?_ I.funs
    exact Heap.get?_none_of_le (Nat.le_trans I.ok.bsz I.ok.above)
theorem Inv.stkSub (I : Inv X pins σ H s) : ∀ b ∈ frs X.stack, b ∈ X.env.locals :: X.fs := fun b hb => by
  rcases I.ok.stk with e | ⟨e, hf⟩
  · rw [e] at hb; exact List.mem_cons_of_mem _ hb
  · rw [e] at hb
    unfold frs at hb
    rw [List.filterMap_cons, hf] at hb
    exact hb
theorem Inv.stkFree (I : Inv X pins σ H s) : ∀ b ∈ frs X.stack, H b = none := fun b hb => by
  rcases List.mem_cons.mp (I.stkSub b hb) with e | hb
  · rw [e]; exact I.free
  · obtain ⟨_, o, ho, _⟩ := I.ok.funs.mem hb
    exact I.base.free b o ho (I.ok.frf b hb) fun z => I.ok.exfs b z hb

/-- THE STEP: the untracked objects but the frame and the records at ch are kept (the callers' frames up to slots), the frame's map is kept, the new abstract heap is held -/
theorem Inv.step {g' : Array GenState} {t' : Nat} {d' : Drawn} {ch : List Addr} (I : Inv X pins σ H s)
    (hch : ∀ b ∈ ch, (b ∈ X.ex ∨ X.s₀.heap.objs.size ≤ b) ∧ b ≠ X.env.locals ∧ (∀ x c, X.env.cells.lookup x = some c → c ≠ b) ∧ ∀ p ∈ X.pn ++ pins, p.1 ≠ b)
    (keep : ∀ b o, b ≠ X.env.locals → b ∉ X.fs → b ∉ ch → s.heap.get? b = some o → H b = none → h'.get? b = some o)
    (slot : ∀ b o, b ≠ X.env.locals → b ∈ X.fs → b ∉ ch → s.heap.get? b = some o → H b = none → ∃ sl, h'.get? b = some { o with slots := sl }) (free : ∀ b o, b ∉ ch → s.heap.get? b = some o → H b = none → H' b = none)
    (there : ∀ b o, b ∉ ch → s.heap.get? b = some o → ∃ o', h'.get? b = some o')
    (tups : ∀ b xs, H b = some (.tup xs) → H' b = some (.tup xs)) (frzs : ∀ b o u, H b = some (.frz o u) → H' b = some (.frz o u)) (tbls : ∀ b ps, H b = some (.tbl ps) → ∃ more, H' b = some (.tbl (ps ++ more)))
    (ns : ∀ m, s.heap.Ns X.env.locals m → h'.Ns X.env.locals m) (hok : HOk X.prog X.w H' h') (hg : AllBare g') :
    Inv X pins σ H' { s with heap := h', gens := g', drawn := d', toks := t' } := by
  have neL : ∀ b o, X.s₀.heap.get? b = some o → b ≠ X.env.locals := fun b o e => Nat.ne_of_lt (Nat.lt_of_lt_of_le (Heap.lt_size e) I.ok.above)
  have neC : ∀ b o, X.s₀.heap.get? b = some o → b ∉ X.ex → b ∉ ch := fun b o e hx hb => by
    rcases (hch b hb).1 with z | z
    · exact hx z
    · exact absurd (Nat.lt_of_lt_of_le (Heap.lt_size e) z) (Nat.lt_irrefl _)
  have cellK : ∀ x c, X.env.cells.lookup x = some c → ∀ v, s.heap.IsCell c v → h'.IsCell c v := fun x c e v ⟨o, ho, hd⟩ => by
    have nch : c ∉ ch := fun z => (hch c z).2.2.1 x c e rfl
    by_cases hc : c ∈ X.fs
    · obtain ⟨sl, q⟩ := slot c o (I.cne x c e) hc nch ho (I.freeC x c e)
      exact ⟨_, q, hd⟩
    · exact ⟨o, keep c o (I.cne x c e) hc nch ho (I.freeC x c e), hd⟩
  refine ⟨I.ok, I.os, hg, ⟨fun b o e n hb hx => ?_, fun b o e n hb hx => ?_, fun b o e n hx => ?_, fun b o e hx => ?_, fun b xs e => tups b xs (I.base.tups b xs e), fun b o xs e => frzs b o xs (I.base.frzs b o xs e), fun b ps e => ?_⟩, ?_, fun x c e => ?_, ?_, fun x c e => ?_, fun p hp => ?_, hok, I.len, I.hdk.same frzs⟩
  · exact keep b o (neL b o e) hb (neC b o e hx) (I.base.keep b o e n hb hx) (I.base.free b o e n hx)
  · obtain ⟨sl, e1⟩ := I.base.slot b o e n hb hx
    obtain ⟨sl', e2⟩ := slot b _ (neL b o e) hb (neC b o e hx) e1 (I.base.free b o e n hx)
    exact ⟨sl', e2⟩
  · obtain ⟨o', e1⟩ := I.base.there b o e hx
    exact free b o' (neC b o e hx) e1 (I.base.free b o e n hx)
  · obtain ⟨o', e1⟩ := I.base.there b o e hx
    exact there b o' (neC b o e hx) e1
  · obtain ⟨m1, e1⟩ := I.base.tbls b ps e
    obtain ⟨m2, e2⟩ := tbls b _ e1
    exact ⟨m1 ++ m2, by rw [e2, Array.append_assoc]⟩
  · obtain ⟨m, hn, hl⟩ := I.loc
    refine ⟨m, ns m hn, fun i x v e1 e2 e3 => ?_⟩
    obtain ⟨u, r, l⟩ := hl i x v e1 e2 e3
    refine ⟨u, r, ?_⟩
    rcases l with l | ⟨k, c, e, z⟩
    · exact .inl l
    · exact .inr ⟨k, c, e, cellK x c e _ z⟩
  · obtain ⟨v, z⟩ := I.cell x c e
    exact ⟨v, cellK x c e v z⟩
  · obtain ⟨m, ⟨o, _, _, ho, _⟩, _⟩ := I.loc
    exact free _ o (fun z => (hch _ z).2.1 rfl) ho I.free
  · obtain ⟨v, o, ho, hd⟩ := I.cell x c e
    exact free c o (fun z => (hch c z).2.2.1 x c e rfl) ho (I.freeC x c e)
  · obtain ⟨e, n, ne, nf, d⟩ := I.pin p hp
    have nch : p.1 ∉ ch := fun z => (hch p.1 z).2.2.2 p hp rfl
    exact ⟨keep p.1 p.2 ne nf nch e n, free p.1 p.2 nch e n, ne, nf, d⟩
/-- .. where the frame's own object is kept too -/
theorem Inv.un {t' : Nat} (I : Inv X pins σ H s) (u : Un X.fs [] H H' s.heap h') (hok : HOk X.prog X.w H' h') : Inv X pins σ H' { s with heap := h', toks := t' } := by
  obtain ⟨m, ⟨o, es, ep, ho, r⟩, _⟩ := id I.loc
  obtain ⟨sl, hL⟩ := u.any ho I.free (by simp)
  exact I.step (g' := s.gens) (d' := s.drawn) (ch := []) (fun _ z => nomatch z) (fun b o _ hb _ e n => u.keep b o e n hb (by simp)) (fun b o _ hb _ e n => u.slot b o e n hb (by simp)) (fun b o _ e n => u.free b o e n (by simp)) (fun b o _ e => u.there b o e (by simp)) u.tups u.frzs u.tbls (fun m' hm => by
    obtain ⟨o', es', ep', ho', r'⟩ := hm
    rw [ho] at ho'; cases ho'
    exact ⟨_, es', ep', hL, r'⟩) hok I.bare
/-- behind a call (or a comprehension's block): the slots of this frame may have changed too, the records at ch may have turned -/
theorem Inv.call {g' : Array GenState} {t' : Nat} {d' : Drawn} {ch : List Addr} (I : Inv X pins σ H s) (u : Un (frs X.stack) ch H H' s.heap h') (hok : HOk X.prog X.w H' h') (hg : AllBare g')
    (hch : ∀ b ∈ ch, (b ∈ X.ex ∨ X.s₀.heap.objs.size ≤ b) ∧ b ≠ X.env.locals ∧ (∀ x c, X.env.cells.lookup x = some c → c ≠ b) ∧ ∀ p ∈ X.pn ++ pins, p.1 ≠ b) :
    Inv X pins σ H' { s with heap := h', gens := g', drawn := d', toks := t' } := by
  obtain ⟨m, ⟨o, es, ep, ho, r⟩, _⟩ := id I.loc
  obtain ⟨sl, hL⟩ := u.any ho I.free fun z => (hch _ z).2.1 rfl
  exact I.step (ch := ch) hch (fun b o hL hb hc e n => u.keep b o e n (fun z => (List.mem_cons.mp (I.stkSub b z)).elim hL hb) hc) (fun b o _ _ hc e n => u.any e n hc) (fun b o hc e n => u.free b o e n hc) (fun b o hc e => u.there b o e hc) u.tups u.frzs u.tbls (fun m' hm => by
    obtain ⟨o', es', ep', ho', r'⟩ := hm
    rw [ho] at ho'; cases ho'
    exact ⟨_, es', ep', hL, r'⟩) hok hg
/-- an untracked record of ours (an iterator) has turned -/
theorem Inv.turned {t' : Nat} {it : Addr} (I : Inv X pins σ H s) (k : ∀ b o, b ≠ it → s.heap.get? b = some o → h'.get? b = some o) (hn : H it = none) (hL : it ≠ X.env.locals)
    (h1 : it ∈ X.ex ∨ X.s₀.heap.objs.size ≤ it) (h2 : ∀ x c, X.env.cells.lookup x = some c → c ≠ it) (h3 : ∀ p ∈ X.pn ++ pins, p.1 ≠ it) : Inv X pins σ H { s with heap := h', toks := t' } := by
  have nit : ∀ b u, H b = some u → b ≠ it := fun b u e z => by rw [z, hn] at e; cases e
  refine I.step (g' := s.gens) (d' := s.drawn) (ch := [it]) (fun b hb => ?_) (fun b o _ _ hc e _ => k b o (fun z => hc (by simp [z])) e) (fun b o _ _ hc e _ => ⟨o.slots, k b o (fun z => hc (by simp [z])) e⟩) (fun _ _ _ _ n => n)
    (fun b o hc e => ⟨o, k b o (fun z => hc (by simp [z])) e⟩) (fun _ _ e => e) (fun _ _ _ e => e) (fun b ps e => ⟨#[], by rw [e]; simp⟩) (fun m hm => ?_) (fun b u e => ?_) I.bare
  · have e : b = it := by simpa using hb
    subst e
    exact ⟨h1, hL, h2, h3⟩
  · obtain ⟨o, es, ep, ho, r⟩ := hm
    exact ⟨o, es, ep, k _ o (Ne.symm hL) ho, r⟩
  · refine (I.hok b u e).stay (fun c v hc q => k c v ?_ q) (fun _ q => q) fun _ _ q => q
    rcases hc with z | z
    · rw [z]; exact nit b u e
    · exact nit c _ z
theorem Inv.tok (I : Inv X pins σ H s) (t : Nat) : Inv X pins σ H { s with toks := t } := I.un (h' := s.heap) (t' := t) Un.refl I.hok
/-- all objects kept -/
theorem Inv.kept {t' : Nat} (I : Inv X pins σ H s) (k : ∀ b u, s.heap.get? b = some u → h'.get? b = some u) : Inv X pins σ H { s with heap := h', toks := t' } := I.un (Un.kept k) (I.hok.kept k)
/-- a new object laid and tracked -/
theorem Inv.laid {a : Addr} {o : HO} {t' : Nat} (I : Inv X pins σ H s) (k : ∀ b u, s.heap.get? b = some u → h'.get? b = some u) (hp : s.heap.objs.size ≤ a) (new : ObjOk X.prog X.w (upd H a o) h' a o) :
    Inv X pins σ (upd H a o) { s with heap := h', toks := t' } := I.un (Un.laid k hp (I.hok.fresh hp)) (I.hok.laid k hp new)
/-- an object written -/
theorem Inv.write {x e : Addr} {o : HO} {t' : Nat} (I : Inv X pins σ H s) (mu : Mut (H x)) (he : e = x ∨ H e = some (.own x)) (k : ∀ b u, b ≠ e → s.heap.get? b = some u → h'.get? b = some u) (heo : ∃ u, h'.get? e = some u)
    (new : ObjOk X.prog X.w (upd H x o) h' x o) : Inv X pins σ (upd H x o) { s with heap := h', toks := t' } := I.un (Un.write mu he k heo) (I.hok.write mu he k heo new)
/-- forgetting slots, pins -/
theorem Inv.weak {σ' : List (Option V)} (I : Inv X pins σ H s) (hl : σ'.length = σ.length) (w : ∀ (i : Nat) v, σ'[i]? = some (some v) → σ[i]? = some (some v)) : Inv X pins σ' H s :=
  ⟨I.ok, I.os, I.bare, I.base, let ⟨m, hn, hl'⟩ := I.loc; ⟨m, hn, fun i x v e1 e2 e3 => hl' i x v e1 (w i v e2) e3⟩, I.cell, I.free, I.freeC, I.pin, I.hok, hl.trans I.len, I.hdk⟩
theorem Inv.pins_of {pins' : List (Addr × Obj)} (I : Inv X pins σ H s) (h : ∀ p ∈ pins', s.heap.get? p.1 = some p.2 ∧ H p.1 = none ∧ p.1 ≠ X.env.locals ∧ p.1 ∉ X.fs ∧ ∀ v, p.2.data ≠ .cell v) : Inv X pins' σ H s :=
  ⟨I.ok, I.os, I.bare, I.base, I.loc, I.cell, I.free, I.freeC, fun p hp => (List.mem_append.mp hp).elim (fun z => I.pin p (List.mem_append_left _ z)) (h p), I.hok, I.len, I.hdk⟩

theorem nodup_ix {N : List Str} (hN : N.Nodup) {i j : Nat} {x : Str} (a : N[i]? = some x) (b : N[j]? = some x) : i = j := by
  obtain ⟨h1, e1⟩ := List.getElem?_eq_some_iff.mp a
  obtain ⟨h2, e2⟩ := List.getElem?_eq_some_iff.mp b
  exact (List.getElem_inj hN).mp (e1.trans e2.symm)

/-- a name is stored; what changed -/
theorem store_ok2 {M : Model} {A : Around} {E : Value → Shared → Prop} {i : Nat} {x : Str} {v : V} {u : Value} {Q : Unit → Shared → Prop} (I : Inv X pins σ H s) (hN : X.N.Nodup) (hi : X.N[i]? = some x) (hx : Loc X.env.scope x) (r : RelV v u)
    (h : ∀ s', Inv X pins (σ.set i (some v)) H s' → (∃ a, Heap.SameBut a s.heap s'.heap ∧ (a = X.env.locals ∨ X.env.cells.lookup x = some a)) → Q () s') (hf : X.fn x = true ∨ X.env.scope.names.lookup x = some .local := by first | exact .inl rfl | exact .inr rfl | assumption) : wpAny M A (storeName X.env x u) Q E s := by
  obtain ⟨m, hn, hl⟩ := id I.loc
  have hcls : (X.env.scope.kind == .class || (X.env.scope.kind == .module && X.env.locals != X.env.globals)) = false := by rw [I.ok.kind]; rfl
  have hiσ : i < σ.length := by rw [I.len]; exact (List.getElem?_eq_some_iff.mp hi).1
  have cne := I.cne
  have tracked : ∀ {a : Addr} {h' : Heap}, (∃ o, s.heap.get? a = some o ∧ H a = none) → Heap.SameBut a s.heap h' → HOk X.prog X.w H h' := fun {a h'} ha hs b ob e => by
    obtain ⟨_, _, hfree⟩ := ha
    refine (I.hok b ob e).stay (fun c w' hc q => (hs.2 c ?_).trans q) (fun _ q => q) fun _ _ q => q
    rintro rfl
    rcases hc with rfl | hc
    · rw [hfree] at e; cases e
    · rw [hfree] at hc; cases hc
  rcases hx with hk | hk
  · refine wpAny_storeName_local hk hn (fun h' hn' hs => ?_) hcls
    obtain ⟨oL, _, _, hoL, _⟩ := id hn
    refine h _ ⟨I.ok, I.os, I.bare, ⟨fun b o e n hb hx => ?_, fun b o e n hb hx => ?_, I.base.free, fun b o e hx => ?_, I.base.tups, I.base.frzs, I.base.tbls⟩, ⟨_, hn', fun j y v' e1 e2 e3 => ?_⟩, fun y c e => ?_, I.free, I.freeC, fun p hp => ?_, tracked ⟨oL, hoL, I.free⟩ hs, by simpa using I.len, I.hdk⟩ ⟨_, hs, .inl rfl⟩
    · exact (hs.2 b (Nat.ne_of_lt (Nat.lt_of_lt_of_le (Heap.lt_size e) I.ok.above))).trans (I.base.keep b o e n hb hx)
    · obtain ⟨sl, e1⟩ := I.base.slot b o e n hb hx
      exact ⟨sl, (hs.2 b (Nat.ne_of_lt (Nat.lt_of_lt_of_le (Heap.lt_size e) I.ok.above))).trans e1⟩
    · obtain ⟨o', e1⟩ := I.base.there b o e hx
      exact ⟨o', (hs.2 b (Nat.ne_of_lt (Nat.lt_of_lt_of_le (Heap.lt_size e) I.ok.above))).trans e1⟩
    · by_cases hj : j = i
      · subst hj
        rw [hi] at e1; cases e1
        rw [List.getElem?_set_self hiσ] at e2
        cases e2
        exact ⟨u, r, .inl ⟨hk, by simp⟩⟩
      · rw [List.getElem?_set_ne (Ne.symm hj)] at e2
        obtain ⟨u', r', q⟩ := hl j y v' e1 e2 e3
        refine ⟨u', r', ?_⟩
        rcases q with ⟨k, e⟩ | ⟨k, c, e, z⟩
        · refine .inl ⟨k, ?_⟩
          have : y ≠ x := fun e => hj (nodup_ix hN e1 (e ▸ hi))
          simp [this, e]
        · exact .inr ⟨k, c, e, z.sameBut hs (cne y c e)⟩
    · obtain ⟨w', z⟩ := I.cell y c e
      exact ⟨w', z.sameBut hs (cne y c e)⟩
    · obtain ⟨e, n, ne, nf, d⟩ := I.pin p hp
      exact ⟨(hs.2 p.1 ne).trans e, n, ne, nf, d⟩
  · have hfn : X.fn x = true := by
      rcases hf with z | z
      · exact z
      · rw [z] at hk; cases hk
    obtain ⟨c, hc⟩ := I.ok.has x (.inl hk)
    obtain ⟨w', z⟩ := I.cell x c hc
    refine wpAny_storeName_cell I.ok.kind hk hc z (fun h' hc' hs => ?_)
    obtain ⟨oc, hoc, hocd⟩ := id z
    refine h { s with heap := h' } ⟨I.ok, I.os, I.bare, ⟨fun b o e n hb hx => ?_, fun b o e n hb hx => ?_, I.base.free, fun b o e hx => ?_, I.base.tups, I.base.frzs, I.base.tbls⟩, ⟨m, hn.sameBut hs (Ne.symm (cne x c hc)), fun j y v' e1 e2 e3 => ?_⟩, fun y c' e => ?_, I.free, I.freeC, fun p hp => ?_, tracked ⟨oc, hoc, I.freeC x c hc⟩ hs, by simpa using I.len, I.hdk⟩ ⟨c, hs, .inr hc⟩
    · exact (hs.2 b (Nat.ne_of_lt (Nat.lt_of_lt_of_le (Heap.lt_size e) (I.ok.cab x c hfn hc)))).trans (I.base.keep b o e n hb hx)
    · obtain ⟨sl, e1⟩ := I.base.slot b o e n hb hx
      exact ⟨sl, (hs.2 b (Nat.ne_of_lt (Nat.lt_of_lt_of_le (Heap.lt_size e) (I.ok.cab x c hfn hc)))).trans e1⟩
    · obtain ⟨o', e1⟩ := I.base.there b o e hx
      exact ⟨o', (hs.2 b (Nat.ne_of_lt (Nat.lt_of_lt_of_le (Heap.lt_size e) (I.ok.cab x c hfn hc)))).trans e1⟩
    · by_cases hj : j = i
      · subst hj
        rw [hi] at e1; cases e1
        rw [List.getElem?_set_self hiσ] at e2
        cases e2
        exact ⟨u, r, .inr ⟨.inl hk, c, hc, hc'⟩⟩
      · rw [List.getElem?_set_ne (Ne.symm hj)] at e2
        obtain ⟨u', r', q⟩ := hl j y v' e1 e2 e3
        refine ⟨u', r', ?_⟩
        rcases q with q | ⟨k, c', e, z'⟩
        · exact .inl q
        · refine .inr ⟨k, c', e, z'.sameBut hs ?_⟩
          rintro rfl
          exact hj (nodup_ix hN e1 (I.ok.inj _ _ _ e hc ▸ hi))
    · by_cases hcc : c' = c
      · subst hcc; exact ⟨_, hc'⟩
      · obtain ⟨w2, z2⟩ := I.cell y c' e
        exact ⟨w2, z2.sameBut hs hcc⟩
    · obtain ⟨e, n, ne, nf, d⟩ := I.pin p hp
      refine ⟨(hs.2 p.1 ?_).trans e, n, ne, nf, d⟩
      intro q
      rw [q, hoc] at e
      have q' : oc = p.2 := Option.some.inj e
      exact d w' (by rw [← q']; exact hocd)
theorem store_ok {M : Model} {A : Around} {E : Value → Shared → Prop} {i : Nat} {x : Str} {v : V} {u : Value} {Q : Unit → Shared → Prop} (I : Inv X pins σ H s) (hN : X.N.Nodup) (hi : X.N[i]? = some x) (hx : Loc X.env.scope x) (r : RelV v u)
    (h : ∀ s', Inv X pins (σ.set i (some v)) H s' → Q () s') (hf : X.fn x = true ∨ X.env.scope.names.lookup x = some .local := by first | exact .inl rfl | exact .inr rfl | assumption) : wpAny M A (storeName X.env x u) Q E s :=
  store_ok2 I hN hi hx r (fun s' I' _ => h s' I') hf
/-- behind a call or a block, the state as it is -/
theorem Inv.call' {s' : Shared} {ch : List Addr} (I : Inv X pins σ H s) (ho : s'.os = s.os) (u : Un (frs X.stack) ch H H' s.heap s'.heap) (hok : HOk X.prog X.w H' s'.heap) (hg : AllBare s'.gens)
    (hch : ∀ b ∈ ch, (b ∈ X.ex ∨ X.s₀.heap.objs.size ≤ b) ∧ b ≠ X.env.locals ∧ (∀ x c, X.env.cells.lookup x = some c → c ≠ b) ∧ ∀ p ∈ X.pn ++ pins, p.1 ≠ b) : Inv X pins σ H' s' := by
  obtain ⟨h', g', d', t', o'⟩ := s'
  have e : o' = s.os := ho
  subst e
  exact I.call (g' := g') (t' := t') (d' := d') u hok hg hch
end

/-! ### the judgements -/
/-- an exception: its class, its own dict's address (where it has one), the abstract heap behind it -/
abbrev XK := Value → Option Addr → Hp → Prop
abbrev St := List (Option V)
abbrev VK := V → Hp → Prop
/-- an expression's reading; a test's; an argument list's -/
abbrev TE := St → Hp → VK → Prop
abbrev TT := St → Hp → (Bool → Hp → Prop) → Prop
abbrev TA := St → Hp → (List V → Hp → Prop) → Prop
/-- what is wanted behind a statement -/
structure Ends where
  nx : St → Hp → Prop
  rt : VK
  bk : St → Hp → Prop := fun _ _ => False
  ct : St → Hp → Prop := fun _ _ => False
abbrev TS := Ends → St → Hp → Prop

def EP (X : Cx) (pins : List (Addr × Obj)) (σ : St) (Q : VK) (u : Value) (s' : Shared) : Prop := ∃ v H', Inv X pins σ H' s' ∧ RelV v u ∧ Q v H'
def TP (X : Cx) (pins : List (Addr × Obj)) (σ : St) (Q : Bool → Hp → Prop) (b : Bool) (s' : Shared) : Prop := ∃ H', Inv X pins σ H' s' ∧ Q b H'
def AP (X : Cx) (pins : List (Addr × Obj)) (σ : St) (Q : List V → Hp → Prop) (us : List Value) (s' : Shared) : Prop := ∃ vs H', Inv X pins σ H' s' ∧ Vals vs us ∧ Q vs H'
def SP (X : Cx) (pins : List (Addr × Obj)) (D : Ends) (f : Flow) (s' : Shared) : Prop :=
  match f with
  | .next => ∃ σ' H', Inv X pins σ' H' s' ∧ D.nx σ' H'
  | .brk => ∃ σ' H', Inv X pins σ' H' s' ∧ D.bk σ' H'
  | .cont => ∃ σ' H', Inv X pins σ' H' s' ∧ D.ct σ' H'
  | .ret u => ∃ v σ' H', Inv X pins σ' H' s' ∧ RelV v u ∧ D.rt v H'

def PE (X : Cx) (e : Expr) (t : TE) : Prop :=
  ∀ (pins : List (Addr × Obj)) (s : Shared) (σ : St) (H : Hp) (Q : VK), Inv X pins σ H s → t σ H Q → wpAny (model X.prog X.w) X.A (eval e X.env) (EP X pins σ Q) X.xe s
def PT (X : Cx) (e : Expr) (t : TT) : Prop :=
  ∀ (pins : List (Addr × Obj)) (s : Shared) (σ : St) (H : Hp) (Q : Bool → Hp → Prop), Inv X pins σ H s → t σ H Q → wpAny (model X.prog X.w) X.A (isTrue e X.env (eval e X.env)) (TP X pins σ Q) X.xe s
/-- a test whatever its 'whole' is (and, or) -/
def PW (X : Cx) (e : Expr) (t : TT) : Prop :=
  ∀ (whole : Sem Value) (pins : List (Addr × Obj)) (s : Shared) (σ : St) (H : Hp) (Q : Bool → Hp → Prop), Inv X pins σ H s → t σ H Q → wpAny (model X.prog X.w) X.A (isTrue e X.env whole) (TP X pins σ Q) X.xe s
theorem PW.pt {X : Cx} {e : Expr} {t : TT} (h : PW X e t) : PT X e t := h _
/-- an argument list (no star), from the left -/
def PA (X : Cx) (es : List Expr) (t : TA) : Prop :=
  ∀ (pos : Pos) (pins : List (Addr × Obj)) (s : Shared) (σ : St) (H : Hp) (Q : List V → Hp → Prop), Inv X pins σ H s → t σ H Q → wpAny (model X.prog X.w) X.A (spliced (backTo pos (starEach es X.env))) (AP X pins σ Q) X.xe s
def PS (X : Cx) (st : Stmt) (t : TS) : Prop :=
  ∀ (pins : List (Addr × Obj)) (s : Shared) (σ : St) (H : Hp) (D : Ends), Inv X pins σ H s → t D σ H → wpAny (model X.prog X.w) X.A (exec st X.env) (SP X pins D) X.xe s
def PSs (X : Cx) (st : List Stmt) (t : TS) : Prop :=
  ∀ (pins : List (Addr × Obj)) (s : Shared) (σ : St) (H : Hp) (D : Ends), Inv X pins σ H s → t D σ H → wpAny (model X.prog X.w) X.A (execs st X.env) (SP X pins D) X.xe s
/-- weaken the end -/
theorem thn {α : Type} {t : Sem α} {Q Q' : α → Shared → Prop} {M : Model} {A : Around} {E : Value → Shared → Prop} {s : Shared} (h : wpAny M A t Q E s) (hQ : ∀ a s, Q a s → Q' a s) : wpAny M A t Q' E s := wpAny_mono h hQ fun _ _ x => x
end L2

namespace L2
open PySem PySem.Spec PyProof.Rows
section
variable {X : Cx}

/-- two expressions in a row -/
theorem bin {a b : Expr} {ta tb : TE} (ha : PE X a ta) (hb : PE X b tb) {pins : List (Addr × Obj)} {s : Shared} {σ : St} {H : Hp} {R : V → V → Hp → Prop} (I : Inv X pins σ H s) (h : ta σ H fun x H1 => tb σ H1 fun y H2 => R x y H2)
    {α : Type} {Q : α → Shared → Prop} {f : Value → Value → Sem α}
    (hf : ∀ v u s2 x y H2, Inv X pins σ H2 s2 → RelV x v → RelV y u → R x y H2 → wpAny (model X.prog X.w) X.A (f v u) Q X.xe s2) :
    wpAny (model X.prog X.w) X.A (eval a X.env) (fun v s₁ => wpAny (model X.prog X.w) X.A (eval b X.env) (fun u s₂ => wpAny (model X.prog X.w) X.A (f v u) Q X.xe s₂) X.xe s₁) X.xe s := by
  refine thn (ha pins s σ H _ I h) fun v s1 ⟨x, H1, I1, r1, q1⟩ => ?_
  refine thn (hb pins s1 σ H1 _ I1 q1) fun u s2 ⟨y, H2, I2, r2, q2⟩ => ?_
  exact hf v u s2 x y H2 I2 r1 r2 q2

/-! ### names and constants -/
def tVar (i : Nat) : TE := fun σ H Q => ∃ v, σ[i]? = some (some v) ∧ Q v H
def tC (v : V) : TE := fun _ H Q => Q v H
theorem pe_var {i : Nat} {x : Str} {pos : Pos} (hN : X.N[i]? = some x) (hv : Vis X.env.scope x) (hd : (x == ("__debug__" : Str)) = false := by decide) (hcd : (x == ("__classdict__" : Str)) = false := by decide) : PE X (.Name x pos) (tVar i) := by
  intro pins s σ H Q I h
  obtain ⟨v, e, h⟩ := h
  obtain ⟨m, hn, hl⟩ := I.loc
  obtain ⟨u, r, l⟩ := hl i x v hN e hv
  have fin : EP X pins σ Q u s := ⟨v, H, I, r, h⟩
  rcases l with ⟨hk, hm⟩ | ⟨hk, c, hc, hcell⟩
  · exact wpAny_Name (wpAny_loadName_local I.ok.kind hk hn hm fin) hd
  · rcases hk with hk | hk
    · exact wpAny_Name (wpAny_loadName_cell I.ok.kind hk hc hcell fin) hd
    · exact wpAny_Name (wpAny_loadName_free I.ok.kind hk hc hcell fin hcd) hd
theorem pe_int {i j pos} : PE X (.Constant (.int i) j pos) (tC (.int i)) := fun _ _ _ H _ I h => wpAny_Constant_int ⟨.int i, H, I.tok _, ⟨_, rfl⟩, h⟩
theorem pe_bl {b j pos} : PE X (.Constant (.bool b) j pos) (tC (.bl b)) := fun _ _ _ H _ I h => Constant_bool ⟨.bl b, H, I, rfl, h⟩
theorem pe_non {j pos} : PE X (.Constant .none j pos) (tC .non) := fun _ _ _ H _ I h => Constant_none ⟨.non, H, I, rfl, h⟩
theorem pe_str {x j pos} : PE X (.Constant (.str x) j pos) (tC (.str x)) := fun _ _ _ H _ I h => Calls.Constant_str ⟨.str x, H, I.tok _, ⟨_, rfl⟩, h⟩

/-- a global name of the def -/
def Gl (X : Cx) (x : Str) : Prop := X.env.kindOf x = some .globalImplicit
theorem ld_glob {E : Value → Shared → Prop} {pins : List (Addr × Obj)} {s : Shared} {σ : St} {H : Hp} {x : Str} {u : Value} {pos : Pos} {Q : Value → Shared → Prop} (I : Inv X pins σ H s) (hg : Gl X x) (hm : X.mg x = some u) (h : Q u s)
    (hd : (x == ("__debug__" : Str)) = false := by decide) : wpAny (model X.prog X.w) X.A (eval (.Name x pos) X.env) Q E s :=
  Calls.Name_function_global I.ok.kind hg (Calls.loadGlobal_global (by rw [I.ok.glob]; exact I.mod.glob.keeps I.bk) hm h) hd
theorem ld_blt {E : Value → Shared → Prop} {pins : List (Addr × Obj)} {s : Shared} {σ : St} {H : Hp} {x : Str} {u : Value} {pos : Pos} {Q : Value → Shared → Prop} (I : Inv X pins σ H s) (hg : Gl X x) (hm : X.mg x = none) (hv : bootBuiltins x = some u) (h : Q u s)
    (hn : x ≠ "__name__" := by decide) (hd : (x == ("__debug__" : Str)) = false := by decide) : wpAny (model X.prog X.w) X.A (eval (.Name x pos) X.env) Q E s := by
  obtain ⟨mb, h1, h2⟩ := I.mod.blt
  exact Calls.Name_function_global I.ok.kind hg (Calls.loadGlobal_builtin (by rw [I.ok.glob]; exact I.mod.glob.keeps I.bk) hm (by rw [I.ok.blt]; exact h1.keeps I.bk) ((h2 x hn).trans hv) h) hd
/-- a module's constant, a class, a function, as a value -/
theorem pe_glob {x : Str} {v : V} {u : Value} {pos : Pos} (hg : Gl X x) (hm : X.mg x = some u) (r : RelV v u) (hd : (x == ("__debug__" : Str)) = false := by decide) : PE X (.Name x pos) (tC v) :=
  fun _ _ _ H _ I h => ld_glob I hg hm ⟨v, H, I, r, h⟩ hd
theorem pe_bltn {x : Str} {v : V} {u : Value} {pos : Pos} (hg : Gl X x) (hm : X.mg x = none) (hv : bootBuiltins x = some u) (r : RelV v u) (hn : x ≠ "__name__" := by decide) (hd : (x == ("__debug__" : Str)) = false := by decide) : PE X (.Name x pos) (tC v) :=
  fun _ _ _ H _ I h => ld_blt I hg hm hv ⟨v, H, I, r, h⟩ hn hd

/-! ### arithmetic -/
variable {a b : Expr} {ta tb : TE} {pos : Pos}
/-! ### comparisons -/
/-- a comparison as a value, as a test -/
def tB (t : TE) : TT := fun σ H Q => t σ H fun x H1 => ∃ c, x = .bl c ∧ Q c H1
/-! ### and, or, not -/
variable {tA tB' : TT} {rest : List Expr}
def tAnd (t u : TT) : TT := fun σ H Q => t σ H fun c H1 => if c = true then u σ H1 Q else Q false H1
def tOr (t u : TT) : TT := fun σ H Q => t σ H fun c H1 => if c = true then Q true H1 else u σ H1 Q
def tNot (t : TT) : TT := fun σ H Q => t σ H fun c H1 => Q (!c) H1
theorem pw_and1 (ha : PT X a tA) : PW X (.BoolOp .And [a] pos) tA := by
  intro wh pins s σ H Q I h
  refine isTrue_and (thn (ha pins s σ H Q I h) fun c s1 e => ?_)
  cases c with
  | true => exact isTrue_and_nil e
  | false => exact e
theorem pw_or1 (ha : PT X a tA) : PW X (.BoolOp .Or [a] pos) tA := by
  intro wh pins s σ H Q I h
  refine isTrue_or (thn (ha pins s σ H Q I h) fun c s1 e => ?_)
  cases c with
  | false => exact isTrue_or_nil e
  | true => exact e
theorem pw_and (ha : PT X a tA) (hb : PW X (.BoolOp .And (b :: rest) pos) tB') : PW X (.BoolOp .And (a :: b :: rest) pos) (tAnd tA tB') := by
  intro wh pins s σ H Q I h
  refine isTrue_and (thn (ha pins s σ H _ I h) fun c s1 ⟨H1, I1, q1⟩ => ?_)
  cases c with
  | true => exact hb wh pins s1 σ H1 Q I1 q1
  | false => exact ⟨H1, I1, q1⟩
theorem pw_or (ha : PT X a tA) (hb : PW X (.BoolOp .Or (b :: rest) pos) tB') : PW X (.BoolOp .Or (a :: b :: rest) pos) (tOr tA tB') := by
  intro wh pins s σ H Q I h
  refine isTrue_or (thn (ha pins s σ H _ I h) fun c s1 ⟨H1, I1, q1⟩ => ?_)
  cases c with
  | true => exact ⟨H1, I1, q1⟩
  | false => exact hb wh pins s1 σ H1 Q I1 q1
theorem pt_not (ha : PT X a tA) : PT X (.UnaryOp .Not a pos) (tNot tA) := by
  intro pins s σ H Q I h
  exact isTrue_not (ha pins s σ H (fun c H1 => Q (!c) H1) I h)
/-- .. as values (bools) -/
def tAndV (ta tb : TE) : TE := fun σ H Q => ta σ H fun x H1 => ∃ c, x = .bl c ∧ if c = true then tb σ H1 Q else Q (.bl false) H1
def tOrV (ta tb : TE) : TE := fun σ H Q => ta σ H fun x H1 => ∃ c, x = .bl c ∧ if c = true then Q (.bl true) H1 else tb σ H1 Q
def tNotV (ta : TE) : TE := fun σ H Q => ta σ H fun x H1 => ∃ c, x = .bl c ∧ Q (.bl (!c)) H1
theorem pe_one {op} {t : TE} (h : PE X a t) : PE X (.BoolOp op [a] pos) t := fun pins s σ H Q I hw => BoolOp_one (h pins s σ H Q I hw)
theorem pe_and (ha : PE X a ta) (hb : PE X (.BoolOp .And (b :: rest) pos) tb) : PE X (.BoolOp .And (a :: b :: rest) pos) (tAndV ta tb) := by
  intro pins s σ H Q I h
  refine BoolOp_and (thn (ha pins s σ H _ I h) fun v s1 ⟨x, H1, I1, r1, q1⟩ => ?_)
  obtain ⟨c, rfl, q1⟩ := q1
  cases r1
  refine wpAny_truthy_bool ?_
  cases c with
  | true => exact hb pins s1 σ H1 Q I1 q1
  | false => exact ⟨.bl false, H1, I1, rfl, q1⟩
theorem pe_or (ha : PE X a ta) (hb : PE X (.BoolOp .Or (b :: rest) pos) tb) : PE X (.BoolOp .Or (a :: b :: rest) pos) (tOrV ta tb) := by
  intro pins s σ H Q I h
  refine BoolOp_or (thn (ha pins s σ H _ I h) fun v s1 ⟨x, H1, I1, r1, q1⟩ => ?_)
  obtain ⟨c, rfl, q1⟩ := q1
  cases r1
  refine wpAny_truthy_bool ?_
  cases c with
  | false => exact hb pins s1 σ H1 Q I1 q1
  | true => exact ⟨.bl true, H1, I1, rfl, q1⟩
theorem pe_not (ha : PE X a ta) : PE X (.UnaryOp .Not a pos) (tNotV ta) := by
  intro pins s σ H Q I h
  refine UnaryOp_ (thn (ha pins s σ H _ I h) fun v s1 ⟨x, H1, I1, r1, q1⟩ => ?_)
  obtain ⟨c, rfl, q1⟩ := q1
  cases r1
  exact not_of (wpAny_truthy_bool ⟨.bl (!c), H1, I1, rfl, q1⟩)
/-- a if t else b -/
def tIf (t : TT) (ta tb : TE) : TE := fun σ H Q => t σ H fun c H1 => if c = true then ta σ H1 Q else tb σ H1 Q
theorem pe_ifExp {c : Expr} (hc : PT X c tA) (ha : PE X a ta) (hb : PE X b tb) : PE X (.IfExp c a b pos) (tIf tA ta tb) := by
  intro pins s σ H Q I h
  refine wpAny_IfExp (thn (hc pins s σ H _ I h) fun d s1 ⟨H1, I1, q1⟩ => ?_)
  cases d with
  | true => exact ha pins s1 σ H1 Q I1 q1
  | false => exact hb pins s1 σ H1 Q I1 q1
end
end L2

namespace L2
open PySem PySem.Spec PyProof.Rows

/-! ### a list, a tuple that is read: tracked, frozen, or an object of the module -/
def SqL (K : PySem.W.Frag) (H : Hp) (a : Addr) (xs : List V) : Prop :=
  Rd H a (.lst xs) ∨
    ∃ (o : Obj) (its : Array Value) (n : Nat), K.lookup a = some o ∧ o.cls = .type "list" ∧ o.dict = none ∧ o.data = .seq its n ∧ its.size ≤ sizeLine ∧ Vals xs its.toList
def SqT (K : PySem.W.Frag) (H : Hp) (a : Addr) (xs : List V) : Prop :=
  Rd H a (.tup xs) ∨
    ∃ (o : Obj) (its : Array Value) (n : Nat), K.lookup a = some o ∧ o.cls = .type "tuple" ∧ o.data = .seq its n ∧ its.size ≤ sizeLine ∧ Vals xs its.toList
def absV : Value → Option V
  | .none => some .non
  | .bool b => some (.bl b)
  | .int i _ => some (.int i)
  | .str x _ => some (.str x)
  | .bytes b _ => some (.byt b)
  | .float b _ => some (.flt b)
  | .ref a => some (.ref a)
  | .type n => some (.ty n)
  | _ => none
theorem RelV.abs {x : V} {u : Value} (r : RelV x u) : absV u = some x := by
  cases x with
  | non => cases r; rfl
  | bl _ => cases r; rfl
  | int _ => obtain ⟨t, rfl⟩ := r; rfl
  | str _ => obtain ⟨t, rfl⟩ := r; rfl
  | byt _ => obtain ⟨t, rfl⟩ := r; rfl
  | flt _ => obtain ⟨t, rfl⟩ := r; rfl
  | ref _ => cases r; rfl
  | ty _ => cases r; rfl
theorem RelV.inj {x y : V} {u : Value} (r : RelV x u) (q : RelV y u) : x = y := Option.some.inj (r.abs.symm.trans q.abs)
theorem Vals.inj : ∀ {xs ys : List V} {us : List Value}, Vals xs us → Vals ys us → xs = ys
  | _, _, _, .nil, .nil => rfl
  | _, _, _, .cons r t, .cons r' t' => by rw [r.inj r', Vals.inj t t']
section
variable {X : Cx} {pins : List (Addr × Obj)} {σ : St} {H : Hp} {s : Shared} {a : Addr} {xs ys : List V}
theorem SqL.of {K : PySem.W.Frag} (h : H a = some (.lst xs)) : SqL K H a xs := .inl (.inl h)
theorem SqT.of {K : PySem.W.Frag} (h : H a = some (.tup xs)) : SqT K H a xs := .inl (.inl h)
theorem Inv.list (I : Inv X pins σ H s) (h : SqL X.K H a xs) : ∃ its : List Value, Vals xs its ∧ PlainL s.heap a its.toArray ∧ xs.length ≤ sizeLine := by
  rcases h with h | ⟨o, its, n, hk, hc, hd, hs, hz, r⟩
  · obtain ⟨z, its, n, r, e⟩ := h.ok I.hok
    exact ⟨its, r, ⟨_, n, e, rfl, rfl, rfl⟩, z⟩
  · refine ⟨its.toList, r, ⟨o, n, I.kIn a o hk, hc, hd, by simpa using hs⟩, ?_⟩
    have e := r.length
    simp only [Array.length_toList] at e
    omega
theorem Inv.tuple (I : Inv X pins σ H s) (h : SqT X.K H a xs) : ∃ its : List Value, Vals xs its ∧ IsTup s.heap a its.toArray ∧ xs.length ≤ sizeLine := by
  rcases h with h | ⟨o, its, n, hk, hc, hs, hz, r⟩
  · obtain ⟨z, its, r, p⟩ := h.ok I.hok
    exact ⟨its, r, p, z⟩
  · refine ⟨its.toList, r, ⟨o, I.kIn a o hk, hc, n, by simpa using hs⟩, ?_⟩
    have e := r.length
    simp only [Array.length_toList] at e
    omega
theorem Inv.list_inj (I : Inv X pins σ H s) (h : SqL X.K H a xs) (h' : SqL X.K H a ys) : xs = ys := by
  obtain ⟨its, r, ⟨o, n, e, _, _, d⟩, _⟩ := I.list h
  obtain ⟨its', r', ⟨o', n', e', _, _, d'⟩, _⟩ := I.list h'
  rw [e] at e'; cases e'
  rw [d] at d'
  injection d' with d1 _
  have : its = its' := by simpa using congrArg Array.toList d1
  subst this
  exact r.inj r'
end

/-! ### another wish about exceptions -/
abbrev Cx.wish (X : Cx) (E : Value → Shared → Prop) : Cx := { X with xe := E }
/-- no exception leaves -/
abbrev Cx.nox (X : Cx) : Cx := X.wish fun _ _ => False
theorem Cx.Ok.wish {X : Cx} (ok : X.Ok) (E : Value → Shared → Prop) : (X.wish E).Ok :=
  ⟨ok.mod, ok.kind, ok.glob, ok.blt, ok.above, ok.inj, ok.has, ok.cab, ok.hd, ok.frames, ok.stk, ok.exf, ok.bs, ok.bsz, ok.noex, ok.exfs, ok.funs, ok.frf⟩
theorem Cx.Ok.unwish {X : Cx} {E : Value → Shared → Prop} (ok : (X.wish E).Ok) : X.Ok :=
  ⟨ok.mod, ok.kind, ok.glob, ok.blt, ok.above, ok.inj, ok.has, ok.cab, ok.hd, ok.frames, ok.stk, ok.exf, ok.bs, ok.bsz, ok.noex, ok.exfs, ok.funs, ok.frf⟩
section
variable {X : Cx} {pins : List (Addr × Obj)} {σ : St} {H : Hp} {s : Shared} {E : Value → Shared → Prop}
theorem Inv.wish (I : Inv X pins σ H s) (E : Value → Shared → Prop) : Inv (X.wish E) pins σ H s := ⟨I.ok.wish E, I.os, I.bare, I.base, I.loc, I.cell, I.free, I.freeC, I.pin, I.hok, I.len, I.hdk⟩
theorem Inv.unwish (I : Inv (X.wish E) pins σ H s) : Inv X pins σ H s := ⟨I.ok.unwish, I.os, I.bare, I.base, I.loc, I.cell, I.free, I.freeC, I.pin, I.hok, I.len, I.hdk⟩
theorem SP.unwish {D : Ends} {f : Flow} {s' : Shared} (h : SP (X.wish E) pins D f s') : SP X pins D f s' := by
  cases f with
  | next => obtain ⟨σ', H', I, q⟩ := h; exact ⟨σ', H', I.unwish, q⟩
  | brk => obtain ⟨σ', H', I, q⟩ := h; exact ⟨σ', H', I.unwish, q⟩
  | cont => obtain ⟨σ', H', I, q⟩ := h; exact ⟨σ', H', I.unwish, q⟩
  | ret u => obtain ⟨v, σ', H', I, r, q⟩ := h; exact ⟨v, σ', H', I.unwish, r, q⟩
theorem PE.nox {e : Expr} {t : TE} (h : PE X.nox e t) : PE X e t := fun pins s σ H Q I hw =>
  wpAny_mono (h pins s σ H Q (I.wish _) hw) (fun _ _ ⟨v, H', I', r, q⟩ => ⟨v, H', I'.unwish, r, q⟩) fun _ _ z => False.elim z
theorem PT.nox {e : Expr} {t : TT} (h : PT X.nox e t) : PT X e t := fun pins s σ H Q I hw =>
  wpAny_mono (h pins s σ H Q (I.wish _) hw) (fun _ _ ⟨H', I', q⟩ => ⟨H', I'.unwish, q⟩) fun _ _ z => False.elim z
theorem PSs.nox {st : List Stmt} {t : TS} (h : PSs X.nox st t) : PSs X st t := fun pins s σ H D I hw =>
  wpAny_mono (h pins s σ H D (I.wish _) hw) (fun _ _ q => q.unwish) fun _ _ z => False.elim z
end

/-! ### blocks and small statements -/
section
variable {X : Cx} {st : Stmt} {rest : List Stmt} {t u : TS} {e : Expr} {te : TE} {pos : Pos}
def tNext : TS := fun D σ H => D.nx σ H
def tSeq (t u : TS) : TS := fun D σ H => t { D with nx := u D } σ H
theorem pss_nil : PSs X [] tNext := fun _ _ σ H _ I h => wpAny_execs_nil ⟨σ, H, I, h⟩
theorem pss_cons (h1 : PS X st t) (h2 : PSs X rest u) : PSs X (st :: rest) (tSeq t u) := by
  intro pins s σ H D I h
  refine wpAny_execs_cons (thn (h1 pins s σ H { D with nx := u D } I h) fun f s1 q => ?_)
  cases f with
  | next =>
    obtain ⟨σ', H', I', q⟩ := q
    exact h2 pins s1 σ' H' D I' q
  | ret v => exact q
  | brk => exact q
  | cont => exact q
theorem pss_one (h1 : PS X st t) : PSs X [st] t := by
  intro pins s σ H D I h
  refine wpAny_execs_cons (thn (h1 pins s σ H D I h) fun f s1 q => ?_)
  cases f with
  | next => exact wpAny_execs_nil q
  | ret v => exact q
  | brk => exact q
  | cont => exact q
def tBreak : TS := fun D σ H => D.bk σ H
def tCont : TS := fun D σ H => D.ct σ H
/-- in a def's body nothing is shown -/
theorem Inv.quiet {pins : List (Addr × Obj)} {σ : St} {H : Hp} {s : Shared} (I : Inv X pins σ H s) : interactive X.env = false := by simp [interactive, I.ok.kind]
/-- an expression whose value is dropped -/
def tDrop (te : TE) : TS := fun D σ H => te σ H fun _ H1 => D.nx σ H1
theorem ps_expr (he : PE X e te) (hs : swapsWith e none pos.line X.env = pure false := by rfl) : PS X (.Expr e pos) (tDrop te) := by
  intro pins s σ H D I h
  exact wpAny_Expr_any (thn (he pins s σ H _ I h) fun v s1 ⟨x, H1, I1, r1, q1⟩ => ⟨σ, H1, I1, q1⟩) I.quiet hs
def tRet (te : TE) : TS := fun D σ H => te σ H D.rt
theorem ps_ret (he : PE X e te) : PS X (.Return (some e) pos) (tRet te) := by
  intro pins s σ H D I h
  exact wpAny_Return_some (thn (he pins s σ H _ I h) fun v s1 ⟨x, H1, I1, r1, q1⟩ => ⟨x, σ, H1, I1, r1, q1⟩)
def tRetN : TS := fun D _ H => D.rt .non H
def tIfS (c : TT) (t u : TS) : TS := fun D σ H => c σ H fun b H1 => if b = true then t D σ H1 else u D σ H1
theorem ps_if {c : Expr} {a b : List Stmt} {tc : TT} (hc : PT X c tc) (ha : PSs X a t) (hb : PSs X b u) : PS X (.If c a b pos) (tIfS tc t u) := by
  intro pins s σ H D I h
  refine wpAny_If (thn (hc pins s σ H _ I h) fun d s1 ⟨H1, I1, q1⟩ => ?_)
  cases d with
  | true => exact ha pins s1 σ H1 D I1 q1
  | false => exact hb pins s1 σ H1 D I1 q1
end

/-! ### targets -/
abbrev TG := V → St → Hp → (St → Hp → Prop) → Prop
abbrev TGs := List V → St → Hp → (St → Hp → Prop) → Prop
def PG (X : Cx) (target : Expr) (t : TG) : Prop :=
  ∀ (pins : List (Addr × Obj)) (s : Shared) (σ : St) (H : Hp) (v : V) (u : Value) (Q : St → Hp → Prop), Inv X pins σ H s → RelV v u → t v σ H Q →
    wpAny (model X.prog X.w) X.A (assign target X.env u) (fun _ s' => ∃ σ' H', Inv X pins σ' H' s' ∧ Q σ' H') X.xe s
/-- several targets, one after another -/
def PGs (X : Cx) (ts : List Expr) (t : TGs) : Prop :=
  ∀ (pins : List (Addr × Obj)) (s : Shared) (σ : St) (H : Hp) (vs : List V) (us : List Value) (Q : St → Hp → Prop), Inv X pins σ H s → Vals vs us → t vs σ H Q →
    wpAny (model X.prog X.w) X.A (assignInOrder ((assignEach ts X.env).map (·.2)) us) (fun _ s' => ∃ σ' H', Inv X pins σ' H' s' ∧ Q σ' H') X.xe s
/-- o[i] = v, by values -/
abbrev TSet := V → V → V → Hp → (Hp → Prop) → Prop
def PSet (X : Cx) (t : TSet) : Prop :=
  ∀ (pins : List (Addr × Obj)) (s : Shared) (σ : St) (H : Hp) (o i v : V) (ov iv u : Value) (Q : Hp → Prop), Inv X pins σ H s → RelV o ov → RelV i iv → RelV v u → t o i v H Q →
    wpAny (model X.prog X.w) X.A (setItem ov iv u) (fun _ s' => ∃ H', Inv X pins σ H' s' ∧ Q H') X.xe s
/-- a op= b, by values -/
abbrev TIp := V → V → Hp → VK → Prop
section
variable {X : Cx} {pos : Pos}
def gName (i : Nat) : TG := fun v σ H Q => Q (σ.set i (some v)) H
theorem pg_name {i : Nat} {x : Str} (hN : X.N.Nodup) (hi : X.N[i]? = some x) (hx : Loc X.env.scope x) (hf : X.fn x = true ∨ X.env.scope.names.lookup x = some .local := by first | exact .inl rfl | exact .inr rfl | assumption) : PG X (.Name x pos) (gName i) := by
  intro pins s σ H v u Q I r h
  exact wpAny_assign_Name (store_ok I hN hi hx r (fun s' I' => ⟨_, H, I', h⟩) hf)
def gNil : TGs := fun vs σ H Q => vs = [] ∧ Q σ H
def gCons (t : TG) (u : TGs) : TGs := fun vs σ H Q => ∃ v r, vs = v :: r ∧ t v σ H fun σ' H' => u r σ' H' Q
theorem pgs_nil : PGs X [] gNil := by
  intro pins s σ H vs us Q I r h
  obtain ⟨e, h⟩ := h
  subst e
  cases r
  exact assignInOrder_nil ⟨σ, H, I, h⟩
theorem pgs_cons {e : Expr} {es : List Expr} {t : TG} {u : TGs} (h1 : PG X e t) (h2 : PGs X es u)
    (hs : (assignEach (e :: es) X.env).map (·.2) = assign e X.env :: (assignEach es X.env).map (·.2) := by rfl) : PGs X (e :: es) (gCons t u) := by
  intro pins s σ H vs us Q I r h
  obtain ⟨v, vr, e1, h⟩ := h
  subst e1
  cases r with
  | cons r rr =>
    rw [hs]
    refine assignInOrder_cons (thn (h1 pins s σ H _ _ _ I r h) fun _ s1 ⟨σ1, H1, I1, q1⟩ => ?_)
    exact h2 pins s1 σ1 H1 _ _ Q I1 rr q1
/-- (a, b, ..) = a tuple of that length -/
def gTup (K : PySem.W.Frag) (n : Nat) (t : TGs) : TG := fun v σ H Q => ∃ a xs, v = .ref a ∧ SqT K H a xs ∧ xs.length = n ∧ t xs σ H Q
/-- o[i] = .. -/
def gSub (to ti : TE) (t : TSet) : TG := fun v σ H Q => to σ H fun o H1 => ti σ H1 fun i H2 => t o i v H2 fun H3 => Q σ H3
theorem pg_sub {o i : Expr} {to ti : TE} {t : TSet} (ho : PE X o to) (hi : PE X i ti) (hs : PSet X t)
    (ha : ∀ v, assign (.Subscript o i pos) X.env v = (do
      let ov ← holding [v] (eval o X.env)
      let iv ← holding [v, ov] (eval i X.env)
      standAt pos
      holding [v, ov, iv] (setItem ov iv v)
      release [v, ov, iv] []) := by intro _; rfl) : PG X (.Subscript o i pos) (gSub to ti t) := by
  intro pins s σ H v u Q I r h
  rw [ha]
  refine wpAny_bind (wpAny_holding (thn (ho pins s σ H _ I h) fun ov s1 ⟨x, H1, I1, r1, q1⟩ => ?_))
  refine wpAny_bind (wpAny_holding (thn (hi pins s1 σ H1 _ I1 q1) fun iv s2 ⟨y, H2, I2, r2, q2⟩ => ?_))
  refine wpAny_bind (wpAny_standAt (wpAny_bind (wpAny_holding (thn (hs pins s2 σ H2 x y v ov iv u _ I2 r1 r2 r q2) fun _ s3 ⟨H3, I3, q3⟩ => ?_))))
  exact wpAny_release ⟨σ, H3, I3, q3⟩
/-- target = value -/
def tAsg (te : TE) (g : TG) : TS := fun D σ H => te σ H fun x H1 => g x σ H1 D.nx
theorem ps_asg {tg e : Expr} {te : TE} {g : TG} (he : PE X e te) (hg : PG X tg g) (hs : swapsWithSole [tg] e pos.line X.env = pure false := by rfl) (hw : swappedStores [tg] e X.env = pure none := by rfl)
    (h1 : (assignEach [tg] X.env).map (·.2) = [assign tg X.env] := by rfl) : PS X (.Assign [tg] e pos) (tAsg te g) := by
  intro pins s σ H D I h
  refine wpAny_Assign_stores (thn (he pins s σ H _ I h) fun v s1 ⟨x, H1, I1, r1, q1⟩ => ?_) hs hw
  rw [h1]
  exact thn (hg pins s1 σ H1 x v _ I1 r1 q1) fun _ s2 q => q
/-- name = value -/
theorem ps_set {i : Nat} {x : Str} {e : Expr} {te : TE} {pos' : Pos} (hN : X.N.Nodup) (hi : X.N[i]? = some x) (hx : Loc X.env.scope x) (he : PE X e te) (hs : swapsWith e (some (.Name x pos')) pos.line X.env = pure false := by rfl) (hf : X.fn x = true ∨ X.env.scope.names.lookup x = some .local := by first | exact .inl rfl | exact .inr rfl | assumption) :
    PS X (.Assign [.Name x pos'] e pos) (tAsg te (gName i)) := by
  intro pins s σ H D I h
  refine wpAny_Assign_Name (thn (he pins s σ H _ I h) fun v s1 ⟨y, H1, I1, r1, q1⟩ => ?_) hs
  exact store_ok I1 hN hi hx r1 (fun s2 I2 => ⟨_, H1, I2, q1⟩) hf
/-- name op= e -/
def tAug (i : Nat) (te : TE) (ti : TIp) : TS := fun D σ H => ∃ x, σ[i]? = some (some x) ∧ te σ H fun y H1 => ti x y H1 fun z H2 => D.nx (σ.set i (some z)) H2
/-- ints -/
def ipI (f : Int → Int → Int) : TIp := fun x y H Q => ∃ i j, x = .int i ∧ y = .int j ∧ Q (.int (f i j)) H
end

/-! ### while -/
section
variable {X : Cx} {pos : Pos}
end

/-! ### what a loop or a comprehension walks -/
/-- at turn i: it yields x (the heap may grow), or it stops -/
structure It where
  go : Nat → Hp → Prop
  yld : Nat → Hp → V → Hp → Prop
  stop : Nat → Hp → Prop
/-- the iterator's own objects may turn: they are not the frame's, not pinned, younger than the entry (or a comprehension's own) -/
def FpOk (X : Cx) (pins : List (Addr × Obj)) (H : Hp) (b : Addr) : Prop :=
  H b = none ∧ b ≠ X.env.locals ∧ b ∉ X.fs ∧ (b ∈ X.ex ∨ X.s₀.heap.objs.size ≤ b) ∧ (∀ x c, X.env.cells.lookup x = some c → c ≠ b) ∧ ∀ p ∈ X.pn ++ pins, p.1 ≠ b
theorem Inv.fpOk {X : Cx} {pins : List (Addr × Obj)} {σ : St} {H H' : Hp} {s : Shared} {b : Addr} (I : Inv X pins σ H s) (hb : s.heap.objs.size ≤ b) (hn : H' b = none) : FpOk X pins H' b := by
  refine ⟨hn, Nat.ne_of_gt (Nat.lt_of_lt_of_le I.lt hb), I.nofs hb, .inr (Nat.le_trans I.sz hb), fun x c e z => ?_, fun p hp z => ?_⟩
  · obtain ⟨v, q⟩ := I.cell x c e
    exact absurd (Nat.lt_of_lt_of_le q.lt (by rw [z]; exact hb)) (Nat.lt_irrefl _)
  · exact absurd (Nat.lt_of_lt_of_le (Heap.lt_size (I.pin p hp).1) (by rw [z]; exact hb)) (Nat.lt_irrefl _)
structure Turn (c : Bool) (P : Program) (w : World) (K : PySem.W.Frag) (tg : Expr) (J : It) (fp : List Addr) (it : Addr) (tn : Nat → Heap → Prop) : Prop where
  mem : it ∈ fp
  obj : ∀ i h, tn i h → ∀ b ∈ fp, ∃ o, h.get? b = some o ∧ ∀ v, o.data ≠ .cell v
  keep : ∀ i h h', tn i h → (∀ b ∈ fp, ∀ o, h.get? b = some o → h'.get? b = some o) → tn i h'
  item : ∀ (X : Cx), X.prog = P → X.w = w → X.K = K → (c = true → X.calm = true) → ∀ (i : Nat) (pins : List (Addr × Obj)) (s : Shared) (σ : St) (H : Hp) (E : Value → Shared → Prop), Inv X pins σ H s → (∀ b ∈ fp, FpOk X pins H b) → tn i s.heap → J.go i H →
    wpAny (model P w) X.A (pyNext (.ref it)) (fun r s1 => ∃ u, r = some u ∧
      wpAny (model P w) X.A (letOwnedTupleGo tg (.ref it) u) (fun _ s2 => ∃ x H', Inv X pins σ H' s2 ∧ RelV x u ∧ J.yld i H x H' ∧ tn (i + 1) s2.heap ∧ ∀ b ∈ fp, H' b = none) E s1) E s
  done : ∀ (X : Cx), X.prog = P → X.w = w → X.K = K → (c = true → X.calm = true) → ∀ (i : Nat) (pins : List (Addr × Obj)) (s : Shared) (σ : St) (H : Hp) (E : Value → Shared → Prop), Inv X pins σ H s → (∀ b ∈ fp, FpOk X pins H b) → tn i s.heap → J.stop i H →
    wpAny (model P w) X.A (pyNext (.ref it)) (fun r s1 => r = none ∧ Inv X pins σ H s1) E s
  self : ∀ (A : Around) (i : Nat) (s : Shared) (Q : Value → Shared → Prop) (E : Value → Shared → Prop), tn i s.heap → Q (.ref it) s → wpAny (model P w) A (pyIter (.ref it)) Q E s
abbrev TI := St → Hp → (It → Hp → Prop) → Prop
/-- an iterator has come -/
def PIE (c : Bool) (X : Cx) (pins : List (Addr × Obj)) (σ : St) (tg : Expr) (R : It → Hp → Prop) (itv : Value) (s2 : Shared) : Prop :=
  ∃ (it : Addr) (fp : List Addr) (tn : Nat → Heap → Prop) (J : It) (H' : Hp), itv = .ref it ∧ Inv X pins σ H' s2 ∧ Turn c X.prog X.w X.K tg J fp it tn ∧ tn 0 s2.heap ∧ (∀ b ∈ fp, FpOk X pins H' b) ∧ R J H'
def PIc (c : Bool) (X : Cx) (tg iter : Expr) (wi : TI) : Prop :=
  ∀ (pins : List (Addr × Obj)) (s : Shared) (σ : St) (H : Hp) (R : It → Hp → Prop), Inv X pins σ H s → wi σ H R →
    wpAny (model X.prog X.w) X.A (eval iter X.env) (fun v s1 => wpAny (model X.prog X.w) X.A (pyIter v) (PIE c X pins σ tg R) X.xe s1) X.xe s
abbrev PI := PIc true

/-- the step ahead of the store is nothing for an iterator that keeps no tuple -/
theorem go_of {M : Model} {A : Around} {E : Value → Shared → Prop} {s : Shared} {tg : Expr} {it : Addr} {u : Value} {o : Obj} {n : String} {vs : Array Value} {Q : Unit → Shared → Prop} (ho : s.heap.get? it = some o) (hc : o.cls = .type n) (hd : o.data = .fields vs)
    (hn : ["enumerate", "zip", "dict_itemiterator", "dict_reverseitemiterator", "odict_iterator", "itertools.zip_longest", "itertools.pairwise"].contains n = false) (hQ : Q () s) : wpAny M A (letOwnedTupleGo tg (.ref it) u) Q E s := by
  unfold letOwnedTupleGo
  cases tg <;> first
    | exact wpAny_pure hQ
    | (cases u <;> first
        | exact wpAny_pure hQ
        | (refine wpAny_bind (wpAny_load ho ?_)
           rw [hc, hd]
           show wpAny M A (if (["enumerate", "zip", "dict_itemiterator", "dict_reverseitemiterator", "odict_iterator", "itertools.zip_longest", "itertools.pairwise"].contains n && vs[0]? == some (rawInt _)) = true then _ else _) Q E s
           rw [if_neg (by intro h; rw [hn, Bool.false_and] at h; cases h)]
           exact wpAny_pure hQ))

/-- the list at a, as it stands at each turn (a loop may append to it) -/
def Itl (K : PySem.W.Frag) (a : Addr) : It :=
  ⟨fun i H => ∃ xs x, SqL K H a xs ∧ xs[i]? = some x, fun i H x H' => H' = H ∧ ∀ xs, SqL K H a xs → xs[i]? = some x, fun i H => ∃ xs, SqL K H a xs ∧ xs.length ≤ i⟩
def Itt (K : PySem.W.Frag) (a : Addr) : It :=
  ⟨fun i H => ∃ xs x, SqT K H a xs ∧ xs[i]? = some x, fun i H x H' => H' = H ∧ ∀ xs, SqT K H a xs → xs[i]? = some x, fun i H => ∃ xs, SqT K H a xs ∧ xs.length ≤ i⟩
/-- lo, lo + 1, .. (n of them) -/
def Itr (lo : Int) (n : Nat) : It := ⟨fun i _ => i < n, fun i H x H' => H' = H ∧ x = .int (lo + i), fun i _ => n ≤ i⟩
theorem turn_list {P : Program} {w : World} {K : PySem.W.Frag} {tg : Expr} (a it : Addr) : Turn true P w K tg (Itl K a) [it] it (fun i h => h.IsListIter it a i) where
  mem := by simp
  obj := fun i h st b hb => by
    have e : b = it := by simpa using hb
    subst e
    obtain ⟨o, e, c, d⟩ := st
    exact ⟨o, e, fun v z => by rw [d] at z; cases z⟩
  keep := fun i h h' st k => st.at fun o e => k it (by simp) o e
  item := by
    intro X hP hw hK hc i pins s σ H E I hf st hg
    subst hP hw hK
    obtain ⟨xs, x, hq, hx⟩ := hg
    obtain ⟨its, rv, p, hz⟩ := I.list hq
    obtain ⟨u, hu, ru⟩ := rv.get hx
    obtain ⟨f0, f1, f2, f3, f4, f5⟩ := hf it (by simp)
    refine wpAny_pyNext_list_item st p.isList (x := u) (by simpa using hu) fun h' st' sb => ?_
    have I1 : Inv X pins σ H { s with heap := h' } := I.turned (t' := s.toks) (fun b o hb e => (sb.2 b hb).trans e) f0 f1 f3 f4 f5
    obtain ⟨o, e, c, d⟩ := id st'
    exact ⟨u, rfl, go_of (s := { s with heap := h' }) e c d (by decide) ⟨x, H, I1, ru, ⟨rfl, fun ys hy => by rw [I.list_inj hy hq]; exact hx⟩, st', fun b hb => (hf b hb).1⟩⟩
  done := by
    intro X hP hw hK hc i pins s σ H E I hf st hg
    subst hP hw hK
    obtain ⟨xs, hq, hx⟩ := hg
    obtain ⟨its, rv, p, hz⟩ := I.list hq
    obtain ⟨f0, f1, f2, f3, f4, f5⟩ := hf it (by simp)
    have hl := rv.length
    exact wpAny_pyNext_list_end (I.ok.hd (hc rfl)) st p.isList (by simp; omega) fun h' eb => ⟨rfl, I.turned (t' := s.toks) (fun b o hb e => eb b o hb e) f0 f1 f3 f4 f5⟩
  self := fun _ _ _ _ _ st h => wpAny_pyIter_listiter st h
theorem turn_range {P : Program} {w : World} {K : PySem.W.Frag} {tg : Expr} (it : Addr) (lo : Int) (n : Nat) : Turn true P w K tg (Itr lo n) [it] it (fun i h => IsRangeIter h it (lo + (i : Nat) * 1) ((n : Int) - (i : Nat)) 1) where
  mem := by simp
  obj := fun i h st b hb => by
    have e : b = it := by simpa using hb
    subst e
    exact ⟨_, st, fun v z => by
      have z' : Data.fields _ = Data.cell v := z
      cases z'⟩
  keep := fun i h h' st k => k it (by simp) _ st
  item := by
    intro X hP hw hK hc i pins s σ H E I hf st hg
    subst hP hw hK
    obtain ⟨f0, f1, f2, f3, f4, f5⟩ := hf it (by simp)
    have W := Walks.range (prog := X.prog) (w := X.w) (I.ok.hd (hc rfl)) it lo 1 n
    refine W.item i s _ _ hg st fun v h' tk hv st' kk => ?_
    obtain ⟨t, rfl⟩ := hv
    have I1 : Inv X pins σ H { s with heap := h', toks := tk } := I.turned (fun b o hb e => kk b o (by simpa using hb) e) f0 f1 f3 f4 f5
    refine ⟨_, rfl, go_of (s := { s with heap := h', toks := tk }) (n := "range_iterator") st' rfl rfl (by decide) ⟨.int (lo + i), H, I1, ⟨t, ?_⟩, ⟨rfl, rfl⟩, st', fun b hb => (hf b hb).1⟩⟩
    rw [Int.mul_one]
  done := by
    intro X hP hw hK hc i pins s σ H E I hf st hg
    subst hP hw hK
    obtain ⟨f0, f1, f2, f3, f4, f5⟩ := hf it (by simp)
    exact wpAny_pyNext_range_end (I.ok.hd (hc rfl)) st (by have : n ≤ i := hg; omega) fun h' eb => ⟨rfl, I.turned (t' := s.toks) (fun b o hb e => eb b o hb e) f0 f1 f3 f4 f5⟩
  self := fun _ _ _ _ _ st h => wpAny_pyIter_rangeiter st h
end L2

namespace L2
open PySem PySem.Spec PyProof.Rows
section
variable {X : Cx} {tg : Expr}
def iList (K : PySem.W.Frag) (tl : TE) : TI := fun σ H R => tl σ H fun x H1 => ∃ a, x = .ref a ∧ (∃ xs, SqL K H1 a xs) ∧ R (Itl K a) H1
def iTup (K : PySem.W.Frag) (tl : TE) : TI := fun σ H R => tl σ H fun x H1 => ∃ a, x = .ref a ∧ (∃ xs, SqT K H1 a xs) ∧ R (Itt K a) H1
theorem pi_list {l : Expr} {tl : TE} (hl : PE X l tl) : PI X tg l (iList X.K tl) := by
  intro pins s σ H R I h
  refine thn (hl pins s σ H _ I h) fun v s1 ⟨x, H1, I1, r1, q1⟩ => ?_
  obtain ⟨a, e, ⟨xs, hq⟩, q⟩ := q1
  subst e
  cases r1
  obtain ⟨its, rv, p, hz⟩ := I1.list hq
  refine wpAny_pyIter_list p.isList ?_
  refine ⟨s1.heap.objs.size, [s1.heap.objs.size], _, _, H1, rfl, I1.kept (t' := s1.toks) fun b o e => Heap.get?_push_of_some _ e, turn_list a _, ⟨_, Heap.get?_push_size _ rfl, rfl, rfl⟩, fun b hb => ?_, q⟩
  have e : b = s1.heap.objs.size := by simpa using hb
  subst e
  exact I1.fpOk (Nat.le_refl _) (I1.hok.fresh (Nat.le_refl _))
/-- a range object just made, walked -/
theorem range_it {pins : List (Addr × Obj)} {σ : St} {H : Hp} {s : Shared} {R : It → Hp → Prop} {E : Value → Shared → Prop} {lo hi : Int} {t u v : Tok} {tk : Nat} (I : Inv X pins σ H s) (h1 : -(2 ^ 62) ≤ lo) (h2 : lo < 2 ^ 62) (h3 : -(2 ^ 62) ≤ hi) (h4 : hi < 2 ^ 62)
    (q : R (Itr lo (hi - lo).toNat) H) : wpAny (model X.prog X.w) X.A (pyIter (.ref s.heap.objs.size)) (PIE true X pins σ tg R) E { s with heap := s.heap.push { cls := .type "range", data := .fields #[.int lo t, .int hi u, .int 1 v] }, toks := tk } := by
  refine wpAny_pyIter_range (IsRange.new ..) (small_one h1 h2 h3 h4) ?_
  have I1 : Inv X pins σ H { s with heap := s.heap.push { cls := .type "range", data := .fields #[.int lo t, .int hi u, .int 1 v] }, toks := tk } := I.kept fun b o e => Heap.get?_push_of_some _ e
  refine ⟨(s.heap.push { cls := .type "range", data := .fields #[.int lo t, .int hi u, .int 1 v] }).objs.size, [(s.heap.push { cls := .type "range", data := .fields #[.int lo t, .int hi u, .int 1 v] }).objs.size], _, _, H, rfl,
    I1.kept (t' := tk) fun b o e => Heap.get?_push_of_some _ e, turn_range _ lo (hi - lo).toNat, ?_, fun b hb => ?_, q⟩
  · have e1 : lo + ((0 : Nat) : Int) * 1 = lo := by simp
    have e2 : (((hi - lo).toNat : Nat) : Int) - ((0 : Nat) : Int) = Builtin.Range.rangeSize lo hi 1 := by rw [rangeSize_one]; split <;> omega
    show IsRangeIter _ _ (lo + ((0 : Nat) : Int) * 1) ((((hi - lo).toNat : Nat) : Int) - ((0 : Nat) : Int)) 1
    rw [e1, e2]
    exact Heap.get?_push_size _ rfl
  · have e : b = (s.heap.push { cls := .type "range", data := .fields #[.int lo t, .int hi u, .int 1 v] }).objs.size := by simpa using hb
    subst e
    exact I1.fpOk (Nat.le_refl _) (I1.hok.fresh (Nat.le_refl _))
def iRng1 (ta : TA) : TI := fun σ H R => ta σ H fun vs H1 => ∃ j : Int, vs = [.int j] ∧ -(2 ^ 62) ≤ j ∧ j < 2 ^ 62 ∧ R (Itr 0 j.toNat) H1
def iRng2 (ta : TA) : TI := fun σ H R => ta σ H fun vs H1 => ∃ i j : Int, vs = [.int i, .int j] ∧ (-(2 ^ 62) ≤ i ∧ i < 2 ^ 62 ∧ -(2 ^ 62) ≤ j ∧ j < 2 ^ 62) ∧ R (Itr i (j - i).toNat) H1
theorem pi_range1 {a : Expr} {ta : TA} {p pos : Pos} (hg : Gl X "range") (hm : X.mg "range" = none) (ha : PA X [a] ta) (hs : starEach [a] X.env = [(false, eval a X.env)] := by rfl) : PI X tg (.Call (.Name "range" p) [a] [] pos) (iRng1 ta) := by
  intro pins s σ H R I h
  refine Call_ (ld_blt I hg hm boot_range (PyProof.Rows.callWith_type1 (thn (ha pos pins s σ H _ I h) fun us s1 ⟨vs, H1, I1, r1, q1⟩ => ?_) hs rfl))
  obtain ⟨j, e, q1, q2, q⟩ := q1
  subst e
  cases r1 with
  | cons r rr =>
    cases rr
    obtain ⟨t, rfl⟩ := r
    exact call_range_1 (range_it I1 (by omega) (by omega) q1 q2 (by simpa using q))
/-! ### for -/
/-- W: the invariant by the turn and a measure; N: what the body is to reach -/
def tFor (wi : TI) (g : TG) (tb : TS) : TS := fun D σ H => wi σ H fun J H1 => ∃ W : Nat → Nat → St → Hp → Prop, (∃ m, W 0 m σ H1) ∧ ∀ i m σ H, W i m σ H →
  (J.stop i H ∧ D.nx σ H) ∨ (J.go i H ∧ ∃ N : St → Hp → Prop, (∀ σ' H', N σ' H' → ∃ m', m' < m ∧ W (i + 1) m' σ' H') ∧ ∀ x H', J.yld i H x H' → g x σ H' fun σ2 H2 => tb { D with nx := N, ct := N, bk := D.nx } σ2 H2)
/-- the records at fp as they stand -/
def pinsAt (fp : List Addr) (h : Heap) : List (Addr × Obj) := fp.filterMap fun b => (h.get? b).map fun o => (b, o)
theorem mem_pinsAt {fp : List Addr} {h : Heap} {b : Addr} {o : Obj} (hb : b ∈ fp) (e : h.get? b = some o) : (b, o) ∈ pinsAt fp h := List.mem_filterMap.mpr ⟨b, hb, by rw [e]; rfl⟩
theorem of_pinsAt {fp : List Addr} {h : Heap} {p : Addr × Obj} (hp : p ∈ pinsAt fp h) : p.1 ∈ fp ∧ h.get? p.1 = some p.2 := by
  obtain ⟨b, hb, e⟩ := List.mem_filterMap.mp hp
  cases q : h.get? b with
  | none => rw [q] at e; cases e
  | some o =>
    rw [q] at e
    have e' : (b, o) = p := Option.some.inj e
    subst e'
    exact ⟨hb, q⟩
theorem Inv.pinned {pins : List (Addr × Obj)} {σ : St} {H : Hp} {s : Shared} {fp : List Addr} (I : Inv X pins σ H s) (hf : ∀ b ∈ fp, FpOk X pins H b) (ho : ∀ b ∈ fp, ∃ o, s.heap.get? b = some o ∧ ∀ v, o.data ≠ .cell v) : Inv X (pins ++ pinsAt fp s.heap) σ H s :=
  I.pins_of fun p hp => (List.mem_append.mp hp).elim (fun z => I.pin p (List.mem_append_right _ z)) fun z => by
    obtain ⟨hb, e⟩ := of_pinsAt z
    obtain ⟨f0, f1, f2, _⟩ := hf p.1 hb
    obtain ⟨o, e', d⟩ := ho p.1 hb
    rw [e] at e'; cases e'
    exact ⟨e, f0, f1, f2, d⟩
theorem Inv.unpinned {pins pl : List (Addr × Obj)} {σ : St} {H : Hp} {s : Shared} (I : Inv X (pins ++ pl) σ H s) : Inv X pins σ H s := I.pins_of fun p hp => I.pin p (List.mem_append_right _ (List.mem_append_left _ hp))
theorem ps_for {c : Bool} {iter : Expr} {body : List Stmt} {wi : TI} {g : TG} {tb : TS} {pos : Pos} (hp : PassesOwn (model X.prog X.w) X.A X.env X.xe) (hc : c = true → X.calm = true) (hi : PIc c X tg iter wi) (hg : PG X tg g) (hb : PSs X body tb)
    (hs : ∀ x, foldedSetIterable iter X.env x = pure x := by intro _; rfl) : PS X (.For tg iter body [] pos) (tFor wi g tb) := by
  intro pins s σ H D I h
  refine wpAny_For (thn (hi pins s σ H _ I h) fun v s1 h1 => thn h1 fun itv s2 h2 => ?_) hs
  obtain ⟨it, fp, tn, J, H2, e, I2, T, st2, f2, W, ⟨m0, w0⟩, turn⟩ := h2
  subst e
  -- what stays true of the iterator's objects through the loop
  have stat : ∀ {H' : Hp}, (∀ b ∈ fp, H' b = none) → ∀ b ∈ fp, FpOk X pins H' b := fun hn b hb => ⟨hn b hb, (f2 b hb).2⟩
  refine codeAny_forLoop_any (fun n s' => ∃ i σ' H', Inv X pins σ' H' s' ∧ tn i s'.heap ∧ (∀ b ∈ fp, H' b = none) ∧ W i n σ' H') ?_ m0 ⟨0, σ, H2, I2, st2, fun b hb => (f2 b hb).1, w0⟩
  rintro n s3 ⟨i, σ3, H3, I3, st3, fr3, w3⟩
  rcases turn i n σ3 H3 w3 with ⟨stop, qn⟩ | ⟨go, N, hN, step⟩
  · refine wpAny_passesOwn hp (thn (T.done X rfl rfl rfl hc i pins s3 σ3 H3 X.xe I3 (stat fr3) st3 stop) fun r s4 ⟨hr, I4⟩ => ?_)
    subst hr
    exact wpAny_execs_nil ⟨σ3, H3, I4, qn⟩
  · refine wpAny_passesOwn hp (thn (T.item X rfl rfl rfl hc i pins s3 σ3 H3 X.xe I3 (stat fr3) st3 go) fun r s4 ⟨u, hr, h4⟩ => ?_)
    subst hr
    refine wpAny_passesOwn hp (thn h4 fun _ s5 ⟨x, H5, I5, r5, y5, st5, fr5⟩ => ?_)
    have I5' := I5.pinned (stat fr5) (T.obj _ _ st5)
    refine wpAny_passesOwn hp (thn (hg _ s5 σ3 H5 x u _ I5' r5 (step x H5 y5)) fun _ s6 ⟨σ6, H6, I6, q6⟩ => ?_)
    refine wpAny_passesOwn hp (thn (hb _ s6 σ6 H6 _ I6 q6) fun f s7 q7 => ?_)
    have again : ∀ {σ7 : St} {H7 : Hp}, Inv X (pins ++ pinsAt fp s5.heap) σ7 H7 s7 → N σ7 H7 → ∃ m, m < n ∧ ∃ i σ' H', Inv X pins σ' H' s7 ∧ tn i s7.heap ∧ (∀ b ∈ fp, H' b = none) ∧ W i m σ' H' := fun {σ7 H7} I7 n7 => by
      obtain ⟨m', hm, w7⟩ := hN σ7 H7 n7
      refine ⟨m', hm, i + 1, σ7, H7, I7.unpinned, T.keep _ _ _ st5 fun b hb o e => (I7.pin (b, o) (List.mem_append_right _ (List.mem_append_right _ (mem_pinsAt hb e)))).1, fun b hb => ?_, w7⟩
      obtain ⟨o, e, d⟩ := T.obj _ _ st5 b hb
      exact (I7.pin (b, o) (List.mem_append_right _ (List.mem_append_right _ (mem_pinsAt hb e)))).2.1
    cases f with
    | next => obtain ⟨σ7, H7, I7, n7⟩ := q7; exact again I7 n7
    | cont => obtain ⟨σ7, H7, I7, n7⟩ := q7; exact again I7 n7
    | brk => obtain ⟨σ7, H7, I7, q7⟩ := q7; exact ⟨σ7, H7, I7.unpinned, q7⟩
    | ret v => obtain ⟨x7, σ7, H7, I7, r7, q7⟩ := q7; exact ⟨x7, σ7, H7, I7.unpinned, r7, q7⟩
end

/-! ### the forms one uses -/
/-- over a list that the body leaves as it is -/
theorem for_list {K : PySem.W.Frag} {a : Addr} {xs : List V} {g : TG} {tb : TS} {D : Ends} {σ : St} {H : Hp} (Pv : Nat → St → Hp → Prop) (h0 : Pv 0 σ H) (hl : ∀ i σ H, i ≤ xs.length → Pv i σ H → SqL K H a xs)
    (hs : ∀ i x σ H, xs[i]? = some x → Pv i σ H → g x σ H fun σ2 H2 => tb { D with nx := Pv (i + 1), ct := Pv (i + 1), bk := D.nx } σ2 H2) (hd : ∀ σ H, Pv xs.length σ H → D.nx σ H) :
    ∃ W : Nat → Nat → St → Hp → Prop, (∃ m, W 0 m σ H) ∧ ∀ i m σ H, W i m σ H →
      ((Itl K a).stop i H ∧ D.nx σ H) ∨ ((Itl K a).go i H ∧ ∃ N : St → Hp → Prop, (∀ σ' H', N σ' H' → ∃ m', m' < m ∧ W (i + 1) m' σ' H') ∧ ∀ x H', (Itl K a).yld i H x H' → g x σ H' fun σ2 H2 => tb { D with nx := N, ct := N, bk := D.nx } σ2 H2) := by
  refine ⟨fun i m σ H => m = xs.length - i ∧ i ≤ xs.length ∧ Pv i σ H, ⟨xs.length, by simp, Nat.zero_le _, h0⟩, ?_⟩
  rintro i m σ H ⟨rfl, hi, p⟩
  have q := hl i σ H hi p
  by_cases hlt : i < xs.length
  · refine .inr ⟨⟨xs, xs[i], q, by simp [hlt]⟩, Pv (i + 1), fun σ' H' p' => ⟨xs.length - (i + 1), by omega, rfl, hlt, p'⟩, fun x H' y => ?_⟩
    obtain ⟨e, y⟩ := y
    subst e
    exact hs i x σ _ (y xs q) p
  · have e : i = xs.length := by omega
    subst e
    exact .inl ⟨⟨xs, q, Nat.le_refl _⟩, hd σ H p⟩
theorem for_tup {K : PySem.W.Frag} {a : Addr} {xs : List V} {g : TG} {tb : TS} {D : Ends} {σ : St} {H : Hp} (Pv : Nat → St → Hp → Prop) (h0 : Pv 0 σ H) (hl : ∀ i σ H, i ≤ xs.length → Pv i σ H → SqT K H a xs)
    (hs : ∀ i x σ H, xs[i]? = some x → Pv i σ H → g x σ H fun σ2 H2 => tb { D with nx := Pv (i + 1), ct := Pv (i + 1), bk := D.nx } σ2 H2) (hd : ∀ σ H, Pv xs.length σ H → D.nx σ H) :
    ∃ W : Nat → Nat → St → Hp → Prop, (∃ m, W 0 m σ H) ∧ ∀ i m σ H, W i m σ H →
      ((Itt K a).stop i H ∧ D.nx σ H) ∨ ((Itt K a).go i H ∧ ∃ N : St → Hp → Prop, (∀ σ' H', N σ' H' → ∃ m', m' < m ∧ W (i + 1) m' σ' H') ∧ ∀ x H', (Itt K a).yld i H x H' → g x σ H' fun σ2 H2 => tb { D with nx := N, ct := N, bk := D.nx } σ2 H2) := by
  refine ⟨fun i m σ H => m = xs.length - i ∧ i ≤ xs.length ∧ Pv i σ H, ⟨xs.length, by simp, Nat.zero_le _, h0⟩, ?_⟩
  rintro i m σ H ⟨rfl, hi, p⟩
  have q := hl i σ H hi p
  by_cases hlt : i < xs.length
  · refine .inr ⟨⟨xs, xs[i], q, by simp [hlt]⟩, Pv (i + 1), fun σ' H' p' => ⟨xs.length - (i + 1), by omega, rfl, hlt, p'⟩, fun x H' y => ?_⟩
    obtain ⟨e, y⟩ := y
    subst e
    exact hs i x σ _ (y xs q) p
  · have e : i = xs.length := by omega
    subst e
    exact .inl ⟨⟨xs, q, Nat.le_refl _⟩, hd σ H p⟩
theorem for_range {lo : Int} {n : Nat} {g : TG} {tb : TS} {D : Ends} {σ : St} {H : Hp} (Pv : Nat → St → Hp → Prop) (h0 : Pv 0 σ H)
    (hs : ∀ i σ H, i < n → Pv i σ H → g (.int (lo + i)) σ H fun σ2 H2 => tb { D with nx := Pv (i + 1), ct := Pv (i + 1), bk := D.nx } σ2 H2) (hd : ∀ σ H, Pv n σ H → D.nx σ H) :
    ∃ W : Nat → Nat → St → Hp → Prop, (∃ m, W 0 m σ H) ∧ ∀ i m σ H, W i m σ H →
      ((Itr lo n).stop i H ∧ D.nx σ H) ∨ ((Itr lo n).go i H ∧ ∃ N : St → Hp → Prop, (∀ σ' H', N σ' H' → ∃ m', m' < m ∧ W (i + 1) m' σ' H') ∧ ∀ x H', (Itr lo n).yld i H x H' → g x σ H' fun σ2 H2 => tb { D with nx := N, ct := N, bk := D.nx } σ2 H2) := by
  refine ⟨fun i m σ H => m = n - i ∧ i ≤ n ∧ Pv i σ H, ⟨n, by simp, Nat.zero_le _, h0⟩, ?_⟩
  rintro i m σ H ⟨rfl, hi, p⟩
  by_cases hlt : i < n
  · refine .inr ⟨hlt, Pv (i + 1), fun σ' H' p' => ⟨n - (i + 1), by omega, rfl, hlt, p'⟩, fun x H' y => ?_⟩
    obtain ⟨e, y⟩ := y
    subst e y
    exact hs i σ _ hlt p
  · have e : i = n := by omega
    subst e
    exact .inl ⟨Nat.le_refl _, hd σ H p⟩
end L2

namespace L2
open PySem PySem.Spec PyProof.Rows

abbrev R2 := V → V → Hp → VK → Prop
/-- a two-place operation on values: f is binaryOp op, inplaceOp op or compareOp op -/
def OpR (X : Cx) (f : Value → Value → Sem Value) (r : R2) : Prop :=
  ∀ (pins : List (Addr × Obj)) (s : Shared) (σ : St) (H : Hp) (x y : V) (v u : Value) (Q : VK), Inv X pins σ H s → RelV x v → RelV y u → r x y H Q →
    wpAny (model X.prog X.w) X.A (f v u) (EP X pins σ Q) X.xe s
/-- a call of a value that is known (a builtin, a type) with values -/
def CallR (X : Cx) (f : Value) (r : List V → Hp → VK → Prop) : Prop :=
  ∀ (pins : List (Addr × Obj)) (s : Shared) (σ : St) (H : Hp) (xs : List V) (us : List Value) (Q : VK), Inv X pins σ H s → Vals xs us → r xs H Q →
    wpAny (model X.prog X.w) X.A (call f us) (EP X pins σ Q) X.xe s
/-- a value's truth -/
def TruR (X : Cx) (r : V → Hp → (Bool → Hp → Prop) → Prop) : Prop :=
  ∀ (pins : List (Addr × Obj)) (s : Shared) (σ : St) (H : Hp) (x : V) (v : Value) (Q : Bool → Hp → Prop), Inv X pins σ H s → RelV x v → r x H Q →
    wpAny (model X.prog X.w) X.A (truthy v) (TP X pins σ Q) X.xe s

def tOp (r : R2) (ta tb : TE) : TE := fun σ H Q => ta σ H fun x H1 => tb σ H1 fun y H2 => r x y H2 Q
def tUn (r : V → Hp → VK → Prop) (ta : TE) : TE := fun σ H Q => ta σ H fun x H1 => r x H1 Q
/-- ints in, under C, and a value out -/
def rI (C : Int → Int → Prop) (g : Int → Int → V) : R2 := fun x y H Q => ∃ i j, x = .int i ∧ y = .int j ∧ C i j ∧ Q (g i j) H
def rI0 (g : Int → Int → V) : R2 := fun x y H Q => ∃ i j, x = .int i ∧ y = .int j ∧ Q (g i j) H
def rU (g : Int → V) : V → Hp → VK → Prop := fun x H Q => ∃ i, x = .int i ∧ Q (g i) H

section
variable {X : Cx} {a b c : Expr} {ta tb tc : TE} {pos : Pos}

theorem binT (ha : PE X a ta) (hb : PE X b tb) {pins : List (Addr × Obj)} {s : Shared} {σ : St} {H : Hp} {R : V → V → Hp → Prop} (I : Inv X pins σ H s)
    (h : ta σ H fun x H1 => tb σ H1 fun y H2 => R x y H2) {Q : Value → Shared → Prop} {f : Value → Value → Sem Value}
    (hf : ∀ v u s2 x y H2, Inv X pins σ H2 s2 → RelV x v → RelV y u → R x y H2 → wpAny (model X.prog X.w) X.A (f v u) Q X.xe s2) :
    wpAny (model X.prog X.w) X.A (eval a X.env) (fun v s₁ => wpAny (model X.prog X.w) X.A (eval b X.env) (fun u s₂ => wpAny (model X.prog X.w) X.A (f v u) Q X.xe s₂) X.xe s₁) X.xe s := by
  refine thn (ha pins s σ H _ I h) fun v s1 ⟨x, H1, I1, r1, q1⟩ => ?_
  refine thn (hb pins s1 σ H1 _ I1 q1) fun u s2 ⟨y, H2, I2, r2, q2⟩ => ?_
  exact hf v u s2 x y H2 I2 r1 r2 q2

theorem pe_op {op : Operator} {r : R2} (ho : OpR X (binaryOp op) r) (ha : PE X a ta) (hb : PE X b tb) : PE X (.BinOp a op b pos) (tOp r ta tb) := by
  intro pins s σ H Q I h
  exact wpAny_BinOp (binT ha hb I h fun v u s2 x y H2 I2 rx ry q => ho pins s2 σ H2 x y v u Q I2 rx ry q)
/-! ### ints -/
theorem opI {f : Value → Value → Sem Value} {C : Int → Int → Prop} {g : Int → Int → Int}
    (rule : ∀ (i j : Int) (t u : Tok) (s : Shared) (Q : Value → Shared → Prop) (E : Value → Shared → Prop), C i j → Q (.int (g i j) s.toks) { s with toks := s.toks + 1 } → wpAny (model X.prog X.w) X.A (f (.int i t) (.int j u)) Q E s) :
    OpR X f (rI C fun i j => .int (g i j)) := by
  intro pins s σ H x y v u Q I rx ry h
  obtain ⟨i, j, rfl, rfl, hc, q⟩ := h
  obtain ⟨t, rfl⟩ := rx
  obtain ⟨t', rfl⟩ := ry
  exact rule i j t t' s _ _ hc ⟨.int (g i j), H, I.tok _, ⟨_, rfl⟩, q⟩
theorem opI0 {f : Value → Value → Sem Value} {g : Int → Int → Int}
    (rule : ∀ (i j : Int) (t u : Tok) (s : Shared) (Q : Value → Shared → Prop) (E : Value → Shared → Prop), Q (.int (g i j) s.toks) { s with toks := s.toks + 1 } → wpAny (model X.prog X.w) X.A (f (.int i t) (.int j u)) Q E s) :
    OpR X f (rI0 fun i j => .int (g i j)) := by
  intro pins s σ H x y v u Q I rx ry h
  obtain ⟨i, j, rfl, rfl, q⟩ := h
  obtain ⟨t, rfl⟩ := rx
  obtain ⟨t', rfl⟩ := ry
  exact rule i j t t' s _ _ ⟨.int (g i j), H, I.tok _, ⟨_, rfl⟩, q⟩
theorem opB0 {f : Value → Value → Sem Value} {g : Int → Int → Bool}
    (rule : ∀ (i j : Int) (t u : Tok) (s : Shared) (Q : Value → Shared → Prop) (E : Value → Shared → Prop), Q (.bool (g i j)) s → wpAny (model X.prog X.w) X.A (f (.int i t) (.int j u)) Q E s) :
    OpR X f (rI0 fun i j => .bl (g i j)) := by
  intro pins s σ H x y v u Q I rx ry h
  obtain ⟨i, j, rfl, rfl, q⟩ := h
  obtain ⟨t, rfl⟩ := rx
  obtain ⟨t', rfl⟩ := ry
  exact rule i j t t' s _ _ ⟨.bl (g i j), H, I, rfl, q⟩

def CDiv (i j : Int) : Prop := 0 < j ∧ j < 1073741824
def CPow (i j : Int) : Prop := 0 ≤ j ∧ j ≤ 1000000 ∧ i.natAbs < 2 ^ 64
def CMul (i j : Int) : Prop := (-(2 ^ 64) < i ∧ i < 2 ^ 64) ∨ (-(2 ^ 64) < j ∧ j < 2 ^ 64)
theorem CMul.ok {i j : Int} (h : CMul i j) : IntMulOk i j := by
  rcases h with ⟨h1, h2⟩ | ⟨h1, h2⟩
  · exact .of_left (intBits_le_64 h1 h2)
  · exact .of_right (intBits_le_64 h1 h2)
theorem op_add : OpR X (binaryOp .Add) (rI0 fun i j => .int (i + j)) := opI0 fun _ _ _ _ _ _ _ q => add_int q
theorem op_sub : OpR X (binaryOp .Sub) (rI0 fun i j => .int (i - j)) := opI0 fun _ _ _ _ _ _ _ q => sub_int q
theorem op_mul : OpR X (binaryOp .Mult) (rI CMul fun i j => .int (i * j)) := opI fun _ _ _ _ _ _ _ hc q => mul_int q hc.ok
/-- // by a positive divisor -/
theorem op_fdiv : OpR X (binaryOp .FloorDiv) (rI CDiv fun i j => .int (i / j)) := opI fun i j _ _ _ _ _ hc q => by
  have h1 : (0 : Int) < j := hc.1
  have h2 : j < 1073741824 := hc.2
  exact floordiv_int (by omega) (by rw [Int.fdiv_eq_ediv_of_nonneg i (by omega)]; exact q) (.inl (PyProof.noPylong_small (by omega)))
/-- % by a positive divisor of any size -/
theorem op_mod : OpR X (binaryOp .Mod) (rI (fun _ j => 0 < j) fun i j => .int (i % j)) := opI fun i j _ _ _ _ _ hc q => by
  have h1 : (0 : Int) < j := hc
  exact mod_int' (by omega) (by rw [Int.fmod_eq_emod_of_nonneg i (by omega)]; exact q)
theorem op_pow : OpR X (binaryOp .Pow) (rI CPow fun i j => .int (i ^ j.toNat)) := opI fun _ _ _ _ _ _ _ hc q => pow_int_small hc.1 hc.2.1 hc.2.2 q
/-! ### bools among ints: n += (a < b) -/
end

/-! ### comparisons -/
/-- the scalars that == tells apart as data does -/
def scal : V → V → Bool
  | .non, .non => true | .non, .int _ => true | .int _, .non => true | .non, .bl _ => true | .bl _, .non => true | .non, .str _ => true | .str _, .non => true
  | .int _, .int _ => true | .bl _, .bl _ => true | .str _, .str _ => true | .byt _, .byt _ => true
  | .int _, .str _ => true | .str _, .int _ => true | .bl _, .str _ => true | .str _, .bl _ => true
  | _, _ => false
def rEq : R2 := fun x y H Q => scal x y = true ∧ Q (.bl (decide (x = y))) H
def rNe : R2 := fun x y H Q => scal x y = true ∧ Q (.bl (!decide (x = y))) H

theorem dec_int {i j : Int} : decide (V.int i = V.int j) = (i == j) := by
  rw [Bool.eq_iff_iff]
  simp
theorem dec_bl {i j : Bool} : decide (V.bl i = V.bl j) = (i == j) := by
  rw [Bool.eq_iff_iff]
  simp
theorem dec_str {i j : Str} : decide (V.str i = V.str j) = (i == j) := by
  rw [Bool.eq_iff_iff]
  simp
theorem dec_byt {i j : Array UInt8} : decide (V.byt i = V.byt j) = (i.toList == j.toList) := by
  rw [Bool.eq_iff_iff]
  cases i
  cases j
  simp

section
variable {X : Cx} {a b c : Expr} {ta tb tc : TE} {pos : Pos}
theorem fin_bl {pins : List (Addr × Obj)} {σ : St} {H : Hp} {s : Shared} {Q : VK} {k k' : Bool} (I : Inv X pins σ H s) (q : Q (.bl k) H) (e : k = k') : EP X pins σ Q (.bool k') s := by
  subst e
  exact ⟨.bl k, H, I, rfl, q⟩
theorem op_eq : OpR X (compareOp .Eq) rEq := by
  intro pins s σ H x y v u Q I rx ry h
  obtain ⟨hs, q⟩ := h
  cases x with
  | non =>
    cases rx
    cases y with
    | non => cases ry; exact PySem.EqNone.eq_none_none (fin_bl I q (by simp))
    | bl j => cases ry; exact PySem.EqNone.eq_none_bool (fin_bl I q (by simp))
    | int j => obtain ⟨t', rfl⟩ := ry; exact PySem.EqNone.eq_none_int (fin_bl I q (by simp))
    | str j => obtain ⟨t', rfl⟩ := ry; exact PySem.EqNone.eq_none_str (fin_bl I q (by simp))
    | _ => exact absurd (show false = true from hs) Bool.false_ne_true
  | bl i =>
    cases rx
    cases y with
    | non => cases ry; exact PySem.EqNone.eq_bool_none (fin_bl I q (by simp))
    | bl j => cases ry; exact eq_bool (fin_bl I q dec_bl)
    | str j => obtain ⟨t', rfl⟩ := ry; exact PySem.EqMixed.eq_bool_str (fin_bl I q (by simp))
    | _ => exact absurd (show false = true from hs) Bool.false_ne_true
  | int i =>
    obtain ⟨t, rfl⟩ := rx
    cases y with
    | non => cases ry; exact PySem.EqNone.eq_int_none (fin_bl I q (by simp))
    | int j => obtain ⟨t', rfl⟩ := ry; exact eq_int (fin_bl I q dec_int)
    | str j => obtain ⟨t', rfl⟩ := ry; exact PySem.EqMixed.eq_int_str (fin_bl I q (by simp))
    | _ => exact absurd (show false = true from hs) Bool.false_ne_true
  | str i =>
    obtain ⟨t, rfl⟩ := rx
    cases y with
    | non => cases ry; exact PySem.EqNone.eq_str_none (fin_bl I q (by simp))
    | bl j => cases ry; exact PySem.EqMixed.eq_str_bool (fin_bl I q (by simp))
    | int j => obtain ⟨t', rfl⟩ := ry; exact PySem.EqMixed.eq_str_int (fin_bl I q (by simp))
    | str j => obtain ⟨t', rfl⟩ := ry; exact eq_str (fin_bl I q dec_str)
    | _ => exact absurd (show false = true from hs) Bool.false_ne_true
  | byt i =>
    obtain ⟨t, rfl⟩ := rx
    cases y with
    | byt j => obtain ⟨t', rfl⟩ := ry; exact PySem.W.eq_bytes (fin_bl I q dec_byt)
    | _ => exact absurd (show false = true from hs) Bool.false_ne_true
  | _ => cases y <;> exact absurd (show false = true from hs) Bool.false_ne_true
theorem op_ne : OpR X (compareOp .NotEq) rNe := by
  intro pins s σ H x y v u Q I rx ry h
  obtain ⟨hs, q⟩ := h
  cases x with
  | non =>
    cases rx
    cases y with
    | non => cases ry; exact PySem.EqNone.ne_none_none (fin_bl I q (by simp))
    | bl j => cases ry; exact PySem.EqNone.ne_none_bool (fin_bl I q (by simp))
    | int j => obtain ⟨t', rfl⟩ := ry; exact PySem.EqNone.ne_none_int (fin_bl I q (by simp))
    | str j => obtain ⟨t', rfl⟩ := ry; exact PySem.EqNone.ne_none_str (fin_bl I q (by simp))
    | _ => exact absurd (show false = true from hs) Bool.false_ne_true
  | bl i =>
    cases rx
    cases y with
    | non => cases ry; exact PySem.EqNone.ne_bool_none (fin_bl I q (by simp))
    | bl j => cases ry; exact ne_bool (fin_bl I q (congrArg not dec_bl))
    | str j => obtain ⟨t', rfl⟩ := ry; exact PySem.EqMixed.ne_bool_str (fin_bl I q (by simp))
    | _ => exact absurd (show false = true from hs) Bool.false_ne_true
  | int i =>
    obtain ⟨t, rfl⟩ := rx
    cases y with
    | non => cases ry; exact PySem.EqNone.ne_int_none (fin_bl I q (by simp))
    | int j => obtain ⟨t', rfl⟩ := ry; exact ne_int (fin_bl I q (congrArg not dec_int))
    | str j => obtain ⟨t', rfl⟩ := ry; exact PySem.EqMixed.ne_int_str (fin_bl I q (by simp))
    | _ => exact absurd (show false = true from hs) Bool.false_ne_true
  | str i =>
    obtain ⟨t, rfl⟩ := rx
    cases y with
    | non => cases ry; exact PySem.EqNone.ne_str_none (fin_bl I q (by simp))
    | bl j => cases ry; exact PySem.EqMixed.ne_str_bool (fin_bl I q (by simp))
    | int j => obtain ⟨t', rfl⟩ := ry; exact PySem.EqMixed.ne_str_int (fin_bl I q (by simp))
    | str j => obtain ⟨t', rfl⟩ := ry; exact ne_str (fin_bl I q (congrArg not dec_str))
    | _ => exact absurd (show false = true from hs) Bool.false_ne_true
  | byt i =>
    obtain ⟨t, rfl⟩ := rx
    cases y with
    | byt j => obtain ⟨t', rfl⟩ := ry; exact PySem.W.ne_bytes (fin_bl I q (congrArg not dec_byt))
    | _ => exact absurd (show false = true from hs) Bool.false_ne_true
  | _ => cases y <;> exact absurd (show false = true from hs) Bool.false_ne_true

theorem op_lt : OpR X (compareOp .Lt) (rI0 fun i j => .bl (decide (i < j))) := opB0 fun _ _ _ _ _ _ _ q => lt_int q
theorem op_le : OpR X (compareOp .LtE) (rI0 fun i j => .bl (decide (i ≤ j))) := opB0 fun _ _ _ _ _ _ _ q => le_int q
theorem op_gt : OpR X (compareOp .Gt) (rI0 fun i j => .bl (decide (j < i))) := opB0 fun _ _ _ _ _ _ _ q => gt_int q
/-- the one string within the other -/
theorem op_in_str : OpR X (compareOp .In) (fun x y H Q => ∃ i j, x = .str i ∧ y = .str j ∧ Q (.bl (!(Builtin.Str.occurrences j i 0 j.length 1).isEmpty)) H) := by
  intro pins s σ H x y v u Q I rx ry h
  obtain ⟨i, j, rfl, rfl, q⟩ := h
  obtain ⟨t, rfl⟩ := rx
  obtain ⟨t', rfl⟩ := ry
  exact in_str (fin_bl I q rfl)

theorem op_notN : OpR X (compareOp .IsNot) (fun x y H Q => y = .non ∧ Q (.bl (!decide (x = .non))) H) := by
  intro pins s σ H x y v u Q I rx ry h
  obtain ⟨rfl, q⟩ := h
  cases ry
  refine isnot_none_gen (fin_bl I q ?_)
  cases x <;> first
    | (cases rx; rfl)
    | (obtain ⟨t, rfl⟩ := rx; rfl)

/-- two rules for one operation: by cases -/
theorem OpR.or {f : Value → Value → Sem Value} {r r' : R2} (h : OpR X f r) (h' : OpR X f r') : OpR X f (fun x y H Q => r x y H Q ∨ r' x y H Q) := by
  intro pins s σ H x y v u Q I rx ry q
  rcases q with q | q
  · exact h pins s σ H x y v u Q I rx ry q
  · exact h' pins s σ H x y v u Q I rx ry q

theorem nomark (b : Expr) {op : CmpOp} (h : op ≠ .In := by decide) (h2 : op ≠ .NotIn := by decide) : behindInMarks op b = false := by
  have e1 : (op == CmpOp.In) = false := by cases op <;> first | rfl | exact absurd rfl h
  have e2 : (op == CmpOp.NotIn) = false := by cases op <;> first | rfl | exact absurd rfl h2
  cases b <;> simp [behindInMarks, e1, e2]
/-- a comparison as a value; hm: nomark b, or (for in, not in) by with_unfolding_all rfl -/
theorem pe_cmpR {op : CmpOp} {r : R2} (ho : OpR X (compareOp op) r) (ha : PE X a ta) (hb : PE X b tb) (hm : behindInMarks op b = false) : PE X (.Compare a [op] [b] pos) (tOp r ta tb) := by
  intro pins s σ H Q I h
  exact wpAny_Compare1 (binT ha hb I h fun v u s2 x y H2 I2 rx ry q => ho pins s2 σ H2 x y v u Q I2 rx ry q) hm
/-- a reading of a value as a test -/
def tTest (t : TE) : TT := fun σ H Q => t σ H fun x H' => ∃ k, x = .bl k ∧ Q k H'
theorem pt_cmpR {op : CmpOp} {r : R2} (ho : OpR X (compareOp op) r) (ha : PE X a ta) (hb : PE X b tb) (hm : behindInMarks op b = false) : PT X (.Compare a [op] [b] pos) (tTest (tOp r ta tb)) := by
  intro pins s σ H Q I h
  refine wpAny_isTrue_Compare1 (thn (ha pins s σ H _ I h) fun v s1 ⟨x, H1, I1, r1, q1⟩ => thn (hb pins s1 σ H1 _ I1 q1) fun u s2 ⟨y, H2, I2, r2, q2⟩ =>
    thn (ho pins s2 σ H2 x y v u _ I2 r1 r2 q2) fun c s3 ⟨z, H3, I3, r3, k, e, q3⟩ => ?_) hm
  subst e
  cases r3
  exact wpAny_truthy_bool ⟨H3, I3, q3⟩
/-- a op1 b op2 c -/
def tChain (r r' : R2) (ta tb tc : TE) : TE := fun σ H Q => ta σ H fun x H1 => tb σ H1 fun y H2 => r x y H2 fun z H3 => ∃ k, z = .bl k ∧
  (if k = true then tc σ H3 fun w' H4 => r' y w' H4 Q else Q (.bl false) H3)
theorem pe_chain {op op' : CmpOp} {r r' : R2} (ho : OpR X (compareOp op) r) (ho' : OpR X (compareOp op') r') (ha : PE X a ta) (hb : PE X b tb) (hc : PE X c tc)
    (hm : lastMarks [op, op'] [b, c] = false := by with_unfolding_all rfl) : PE X (.Compare a [op, op'] [b, c] pos) (tChain r r' ta tb tc) := by
  intro pins s σ H Q I h
  refine Compare_chain (thn (ha pins s σ H _ I h) fun v s1 ⟨x, H1, I1, r1, q1⟩ => chain_link (thn (hb pins s1 σ H1 _ I1 q1) fun u s2 ⟨y, H2, I2, r2, q2⟩ =>
    thn (ho pins s2 σ H2 x y v u _ I2 r1 r2 q2) fun d s3 ⟨z, H3, I3, r3, k, e, q3⟩ => ?_)) hm
  subst e
  cases r3
  refine wpAny_truthy_bool ?_
  cases k with
  | false => exact ite_ff ⟨.bl false, H3, I3, rfl, q3⟩
  | true => exact ite_tt (chain_last (thn (hc pins s3 σ H3 _ I3 q3) fun w' s4 ⟨z', H4, I4, r4, q4⟩ => ho' pins s4 σ H4 y z' u w' Q I4 r2 r4 q4))
/-! ### truth -/
/-- a value's truth by the abstract heap -/
def TruV (K : PySem.W.Frag) (x : V) (H : Hp) (k : Bool) : Prop :=
  match x with
  | .non => k = false
  | .bl b => k = b
  | .int i => k = (i != 0)
  | .str y => y.length ≤ sizeLine ∧ k = ((y.length : Int) != 0)
  | .byt y => y.size ≤ sizeLine ∧ k = ((y.size : Int) != 0)
  | .ref p => (∃ xs, SqL K H p xs ∧ k = !xs.isEmpty) ∨ (∃ xs, SqT K H p xs ∧ k = !xs.isEmpty) ∨ ∃ kvs, H p = some (.dK kvs) ∧ k = !kvs.isEmpty
  | _ => False
theorem isEmpty_kv {κ : Type} {kvs : List (κ × V)} {vs : List (κ × Value)} (r : KV kvs vs) : (!vs.isEmpty) = !kvs.isEmpty := by
  cases r <;> rfl
theorem isEmpty_of {xs : List V} {its : List Value} (r : Vals xs its) : (!its.toArray.isEmpty) = !xs.isEmpty := by
  cases r <;> simp
theorem line63 : (sizeLine : Nat) < 2 ^ 63 := by rw [sizeLine_eq]; decide
theorem tru_ok : TruR X (fun x H Q => ∃ k, TruV X.K x H k ∧ Q k H) := by
  intro pins s σ H x v Q I rx h
  obtain ⟨k, e, q⟩ := h
  have hl := line63
  have hs : sizeLine = 16777216 := sizeLine_eq
  cases x with
  | non =>
    cases rx
    have e' : k = false := e
    subst e'
    exact truthy_none ⟨H, I, q⟩
  | bl b =>
    cases rx
    have e' : k = b := e
    subst e'
    exact wpAny_truthy_bool ⟨H, I, q⟩
  | int i =>
    obtain ⟨t, rfl⟩ := rx
    have e' : k = (i != 0) := e
    subst e'
    exact PySem.P.truthy_int ⟨H, I, q⟩
  | str y =>
    obtain ⟨t, rfl⟩ := rx
    obtain ⟨hy, e'⟩ : y.length ≤ sizeLine ∧ k = ((y.length : Int) != 0) := e
    subst e'
    exact PySem.P.truthy_str (by omega) ⟨H, I.tok _, q⟩
  | byt y =>
    obtain ⟨t, rfl⟩ := rx
    obtain ⟨hy, e'⟩ : y.size ≤ sizeLine ∧ k = ((y.size : Int) != 0) := e
    subst e'
    exact PySem.W.truthy_bytes (by omega) ⟨H, I.tok _, q⟩
  | ref p =>
    cases rx
    have e' : (∃ xs, SqL X.K H p xs ∧ k = !xs.isEmpty) ∨ (∃ xs, SqT X.K H p xs ∧ k = !xs.isEmpty) ∨ ∃ kvs, H p = some (.dK kvs) ∧ k = !kvs.isEmpty := e
    rcases e' with ⟨xs, hx, e'⟩ | ⟨xs, hx, e'⟩ | ⟨kvs, hx, e'⟩
    · subst e'
      obtain ⟨its, r, pl, hz⟩ := I.list hx
      have hlen := r.length
      exact wpAny_truthy_list pl.isList (by simp only [List.size_toArray]; omega) ⟨H, I.tok _, by rw [isEmpty_of r]; exact q⟩
    · subst e'
      obtain ⟨its, r, pl, hz⟩ := I.tuple hx
      have hlen := r.length
      exact truthy_tuple pl (by simp only [List.size_toArray]; omega) ⟨H, I.tok _, by rw [isEmpty_of r]; exact q⟩
    · subst e'
      obtain ⟨hz, hS, vs, r, m⟩ : kvs.length ≤ sizeLine ∧ (p == sysModules) = false ∧ ∃ vs, KV kvs vs ∧ s.heap.DictOf (mixKind X.prog X.w) p vs := I.hok p _ hx
      have hlen : kvs.length = vs.length := Paired.length r
      exact wpAny_truthy_dict hS m (by omega) ⟨H, I.tok _, by rw [isEmpty_kv r]; exact q⟩
  | _ => exact (show False from e).elim
/-- any expression whose test is its value's truth (a name, a call, a subscript, a field ..: he by fun _ => rfl) -/
theorem pt_truth (ha : PE X a ta) (he : ∀ whole, isTrue a X.env whole = (do let v ← whole; standAt a.pos; holding [v] (truthy v))) :
    PT X a (fun σ H Q => ta σ H fun x H' => ∃ k, TruV X.K x H' k ∧ Q k H') := by
  intro pins s σ H Q I h
  exact isTrue_plain (thn (ha pins s σ H _ I h) fun v s1 ⟨x, H1, I1, r1, q1⟩ => tru_ok pins s1 σ H1 x v Q I1 r1 q1) (he _)

/-! ### strs and bytes -/
theorem op_add_str : OpR X (binaryOp .Add) (fun x y H Q => ∃ i j, x = .str i ∧ y = .str j ∧ i.length + j.length ≤ sizeLine ∧ Q (.str (i ++ j)) H) := by
  intro pins s σ H x y v u Q I rx ry h
  obtain ⟨i, j, rfl, rfl, hz, q⟩ := h
  obtain ⟨t, rfl⟩ := rx
  obtain ⟨t', rfl⟩ := ry
  exact add_str (fun t' tk => ⟨.str (i ++ j), H, I.tok _, ⟨_, rfl⟩, q⟩) hz
/-! ### scalar builtins, by CallR -/
theorem vals1 {x : V} {us : List Value} (r : Vals [x] us) : ∃ u, us = [u] ∧ RelV x u := by
  cases r with
  | cons r1 r2 => cases r2; exact ⟨_, rfl, r1⟩
theorem vals2 {x y : V} {us : List Value} (r : Vals [x, y] us) : ∃ u w', us = [u, w'] ∧ RelV x u ∧ RelV y w' := by
  cases r with
  | cons r1 r2 =>
    cases r2 with
    | cons r3 r4 => cases r4; exact ⟨_, _, rfl, r1, r3⟩
theorem call_max2 (hc : X.calm = true) : CallR X (.builtin "max") (fun xs H Q => ∃ i j, xs = [.int i, .int j] ∧ Q (.int (if j > i then j else i)) H) := by
  intro pins s σ H xs us Q I r h
  obtain ⟨i, j, rfl, q⟩ := h
  obtain ⟨u, w', rfl, ⟨t, rfl⟩, ⟨t', rfl⟩⟩ := vals2 r
  refine max_two_ints (I.ok.hd hc) fun h' tk k => ⟨_, H, I.kept k, ?_, q⟩
  by_cases hj : j > i
  · rw [if_pos hj, if_pos hj]; exact ⟨_, rfl⟩
  · rw [if_neg hj, if_neg hj]; exact ⟨_, rfl⟩
theorem call_min2 (hc : X.calm = true) : CallR X (.builtin "min") (fun xs H Q => ∃ i j, xs = [.int i, .int j] ∧ Q (.int (if j < i then j else i)) H) := by
  intro pins s σ H xs us Q I r h
  obtain ⟨i, j, rfl, q⟩ := h
  obtain ⟨u, w', rfl, ⟨t, rfl⟩, ⟨t', rfl⟩⟩ := vals2 r
  refine min_two_ints (I.ok.hd hc) fun h' tk k => ⟨_, H, I.kept k, ?_, q⟩
  by_cases hj : j < i
  · rw [if_pos hj, if_pos hj]; exact ⟨_, rfl⟩
  · rw [if_neg hj, if_neg hj]; exact ⟨_, rfl⟩
theorem call_int1 : CallR X (.type "int") (fun xs H Q => (∃ i, xs = [.int i] ∧ Q (.int i) H) ∨ ∃ k, xs = [.bl k] ∧ Q (.int (if k then 1 else 0)) H) := by
  intro pins s σ H xs us Q I r h
  rcases h with ⟨i, rfl, q⟩ | ⟨k, rfl, q⟩
  · obtain ⟨u, rfl, t, rfl⟩ := vals1 r
    exact call_int_int ⟨.int i, H, I, ⟨_, rfl⟩, q⟩
  · obtain ⟨u, rfl, r1⟩ := vals1 r
    cases r1
    exact call_int_bool ⟨.int (if k then 1 else 0), H, I.tok _, ⟨_, rfl⟩, q⟩
theorem call_str_int : CallR X (.type "str") (fun xs H Q => ∃ i, xs = [.int i] ∧ i.natAbs.log2 < 1920 ∧ Q (.str (toString i)) H) := by
  intro pins s σ H xs us Q I r h
  obtain ⟨i, rfl, hz, q⟩ := h
  obtain ⟨u, rfl, t, rfl⟩ := vals1 r
  exact PySem.P.str_of_int hz ⟨.str _, H, I.tok _, ⟨_, rfl⟩, q⟩
end
end L2

namespace L2
open PySem PySem.Spec PyProof.Rows

/-! ### an instance, its attributes a map -/
structure ObjM (h : Heap) (x dx C : Addr) (mA : Str → Option Value) : Prop where
  obj : h.get? x = some (PySem.W.instObj C dx)
  ns : h.Ns1 dx mA
  ne : dx ≠ x

theorem lookIn_ns {h : Heap} {dx : Addr} {mA : Str → Option Value} (n : h.Ns1 dx mA) : ∃ od, h.get? dx = some od ∧ ∀ name, PySem.W.lookIn name od = some (mA name) := by
  obtain ⟨o, es, ep, ho, hd, hk, _, hm⟩ := n
  refine ⟨o, ho, fun name => ?_⟩
  have e := hm name
  unfold nsFind findBy at e
  rw [← Array.find?_toList] at e
  unfold PySem.W.lookIn
  rw [hd]
  dsimp only
  split
  · rename_i y q
    rw [q] at e
    exact congrArg some e
  · rename_i q
    rw [q] at e
    have a : es.toList.any (·.refKey) = false := by
      rw [List.any_eq_false]
      intro y hy
      obtain ⟨z, t, hkey⟩ := hk y (Array.mem_toList_iff.mp hy)
      simp [DictEntry.refKey, hkey]
    have a' : ¬ es.toList.any (·.refKey) = true := by rw [a]; exact Bool.false_ne_true
    rw [if_neg a']
    exact congrArg some e

theorem ObjM.look {h : Heap} {x dx C : Addr} {mA : Str → Option Value} (I : ObjM h x dx C mA) : ∃ od, PySem.W.InstAt h x (PySem.W.instObj C dx) C (some od) ∧ ∀ name, PySem.W.lookIn name od = some (mA name) :=
  let ⟨od, ho, hl⟩ := lookIn_ns I.ns
  ⟨od, ⟨I.obj, rfl, rfl, ho⟩, hl⟩

section
variable {prog : Program} {w : World} {A : Around} {E : Value → Shared → Prop} {s : Shared} {K : PySem.W.Frag} {x dx C f : Addr} {mA : Str → Option Value} {name : Str} {v : Value}

theorem get_map {expr : Bool} {Q : Value → Shared → Prop} (X : K.In s.heap) (I : ObjM s.heap x dx C mA) (hg : PySem.W.plainGet K C name = true) (hh : PySem.W.hasDictIn K C = true)
    (ha : PySem.W.findIn K (.ref C) name = some none) (hv : mA name = some v) (hv' : PySem.W.handedIn v = true) (h : Q v { s with toks := s.toks + 1 }) :
    wpAny (model prog w) A (getAttr (.ref x) name expr) Q E s := by
  obtain ⟨od, J, hl⟩ := I.look
  exact PySem.W.get_value X J (PySem.W.plainGet_of hg).1 (PySem.W.findObj_own hh ha rfl (by rw [hl, hv])) hv' h

theorem get_meth {pl : Sem Bool} {Q : Value × List Value → Shared → Prop} (X : K.In s.heap) (I : ObjM s.heap x dx C mA) (hg : PySem.W.plainGet K C name = true)
    (hf : PySem.W.findIn K (.ref C) name = some (some (.ref f))) (ht : PySem.W.isFn K (.ref f) = true) (hv : mA name = none) (h : Q (.ref f, [.ref x]) s) :
    wpAny (model prog w) A (getMethod (.ref x) name pl) Q E s := by
  obtain ⟨od, J, hl⟩ := I.look
  exact PySem.W.method_fn X J (PySem.W.plainGet_of hg).1 (PySem.W.plainGet_of hg).2 hf (beq_iff_eq.mp ht) (by show (PySem.W.lookIn name od).map (·.isSome) = some false; rw [hl, hv]; rfl) h

theorem set_map {ns : List Str} {Q : Unit → Shared → Prop} (X : K.In s.heap) (I : ObjM s.heap x dx C mA)
    (hs : PySem.W.findIn K (.ref C) "__setattr__" = some (some (.builtin "object.__setattr__"))) (hp : PySem.W.plainOver K C = true) (ht : PySem.W.takerIn K C name = some none) (hh : PySem.W.hasDictIn K C = true)
    (hw : PySem.Within mA ns) (hsz : ns.length ≤ sizeLine)
    (h : ∀ h', ObjM h' x dx C (fun y => if y = name then some v else mA y) → Heap.SameBut dx s.heap h' → Q () { s with heap := h', toks := s.toks + 2 }) :
    wpAny (model prog w) A (setAttr (.ref x) name v) Q E s := by
  obtain ⟨od, J, hl⟩ := I.look
  refine PySem.W.set_plain X J hs (PySem.W.osa_open (s := { s with toks := s.toks + 1 }) (r := none) X J hp ht fun b => ?_)
  obtain ⟨cd, hc, hd'⟩ := PySem.W.any_some hh
  have hx : s.heap.get? x = some ⟨.ref C, some dx, .plain, #[]⟩ := I.obj
  refine wpAny_bind (wpAny_pure (wpAny_bind (wpAny_bind (wpAny_loadPart hx (wpAny_bind (PySem.W.Looks.here (s := { s with toks := s.toks + 1 }) (PySem.W.looks_clsIn X hc) ?_))))))
  rw [hd']
  refine wpAny_pure (a := some dx) (wpAny_bind (wpAny_pure (wpAny_bind ?_)))
  refine wpAny_nsSet1 (s := { s with toks := s.toks + 1 }) I.ns fun h' hn2 hs2 => ?_
  obtain ⟨oD, esD, epD, hoD, hdD, hcD⟩ := hn2.count (PySem.Within.cons name v hw)
  refine wpAny_bind (wpAny_lookBehind hoD (by rw [hdD]; exact pastItsLine_dict (Nat.le_trans hcD (by rw [List.length_cons]; omega))) ?_)
  exact wpAny_pure (h _ ⟨(hs2.2 _ (Ne.symm I.ne)).trans I.obj, hn2, I.ne⟩ hs2)

/-- C(..): the dict at the heap's end, the instance behind it; then its __init__ -/
theorem make_map {R : Result → Shared → Prop} {vs : List Value} {kw : List (Str × Value)} (X : K.In s.heap) (hm : PySem.W.makesIn K C = true)
    (hi : PySem.W.findIn K (.ref C) "__init__" = some (some (.ref f))) (hf : PySem.W.typeIn K (.ref f) = some (.type "function"))
    (h : codeAny (model prog w) (A.under (.builtin "type.__call__" ⟨.ref C :: vs, kw⟩)) (.call (.ref f) ⟨.ref (s.heap.objs.size + 1) :: vs, kw⟩) (PySem.W.InitBack (s.heap.objs.size + 1) R)
      { s with heap := (s.heap.push PySem.W.emptyDict).push (PySem.W.instObj C s.heap.objs.size) }) :
    codeAny (model prog w) A (.call (.ref C) ⟨vs, kw⟩) R s := by
  obtain ⟨hh, g, d, t, os⟩ := s
  exact PySem.W.make_core (PySem.W.makes_of X hm) (PySem.W.looks_findIn X hi) (fun self => PySem.W.bind_fn X self hf) (.inl rfl) h
end

/-! ### the attributes as a list of pairs -/
def putF (f : Str) (v : V) : List (Str × V) → List (Str × V)
  | [] => [(f, v)]
  | (g, x) :: r => if g = f then (g, v) :: r else (g, x) :: putF f v r
theorem lookup_putF (f g : Str) (v : V) : ∀ fs : List (Str × V), (putF f v fs).lookup g = if g = f then some v else fs.lookup g
  | [] => by
    show List.lookup g [(f, v)] = _
    by_cases h : g = f
    · have hb : (g == f) = true := beq_iff_eq.mpr h
      simp only [List.lookup, hb, if_pos h]
    · have hb : (g == f) = false := beq_eq_false_iff_ne.mpr h
      simp only [List.lookup, hb, if_neg h]
  | (k, x) :: r => by
    have ih := lookup_putF f g v r
    rw [show putF f v ((k, x) :: r) = (if k = f then (k, v) :: r else (k, x) :: putF f v r) from rfl]
    by_cases hk : k = f
    · rw [if_pos hk]
      by_cases h : g = k
      · have hb : (g == k) = true := beq_iff_eq.mpr h
        simp only [List.lookup, hb, if_pos (h.trans hk)]
      · have hb : (g == k) = false := beq_eq_false_iff_ne.mpr h
        simp only [List.lookup, hb, if_neg (fun e : g = f => h (e.trans hk.symm))]
    · rw [if_neg hk]
      by_cases h : g = k
      · have hb : (g == k) = true := beq_iff_eq.mpr h
        simp only [List.lookup, hb, if_neg (fun e : g = f => hk (h.symm.trans e))]
      · have hb : (g == k) = false := beq_eq_false_iff_ne.mpr h
        simp only [List.lookup, hb]
        exact ih
theorem keys_putF (f : Str) (v : V) : ∀ fs : List (Str × V), f ∈ (putF f v fs).map (·.1) ∧ ∀ g, g ∈ fs.map (·.1) → g ∈ (putF f v fs).map (·.1)
  | [] => ⟨by simp [putF], fun g h => by simp at h⟩
  | (k, x) :: r => by
    obtain ⟨i1, i2⟩ := keys_putF f v r
    rw [show putF f v ((k, x) :: r) = (if k = f then (k, v) :: r else (k, x) :: putF f v r) from rfl]
    by_cases hk : k = f
    · rw [if_pos hk]
      subst hk
      exact ⟨by simp, fun g h => by simpa using h⟩
    · rw [if_neg hk]
      refine ⟨?_, fun g h => ?_⟩
      · rw [List.map_cons]
        exact List.mem_cons_of_mem _ i1
      · rw [List.map_cons] at h ⊢
        rcases List.mem_cons.mp h with e | e
        · exact List.mem_cons.mpr (.inl e)
        · exact List.mem_cons_of_mem _ (i2 g e)
theorem length_putF (f : Str) (v : V) : ∀ fs : List (Str × V), (putF f v fs).length ≤ fs.length + 1
  | [] => by simp [putF]
  | (k, x) :: r => by
    have ih := length_putF f v r
    rw [show putF f v ((k, x) :: r) = (if k = f then (k, v) :: r else (k, x) :: putF f v r) from rfl]
    by_cases hk : k = f
    · rw [if_pos hk, List.length_cons, List.length_cons]; omega
    · rw [if_neg hk, List.length_cons, List.length_cons]; omega

theorem RelO.some_of {v : V} {o : Option Value} (r : RelO (some v) o) : ∃ u, o = some u ∧ RelV v u := by
  cases o with
  | none => exact (show False from r).elim
  | some u => exact ⟨u, rfl, r⟩
theorem RelO.none_of {o : Option Value} (r : RelO none o) : o = none := by
  cases o with
  | none => rfl
  | some u => exact (show False from r).elim
theorem handed_of {v : V} {u : Value} (r : RelV v u) : PySem.W.handedIn u = true := by
  cases v with
  | non => cases (show u = Value.none from r); rfl
  | bl b => cases (show u = Value.bool b from r); rfl
  | int i => obtain ⟨t, e⟩ := (show ∃ t, u = Value.int i t from r); cases e; rfl
  | str x => obtain ⟨t, e⟩ := (show ∃ t, u = Value.str x t from r); cases e; rfl
  | byt b => obtain ⟨t, e⟩ := (show ∃ t, u = Value.bytes b t from r); cases e; rfl
  | flt b => obtain ⟨t, e⟩ := (show ∃ t, u = Value.float b t from r); cases e; rfl
  | ref a => cases (show u = Value.ref a from r); rfl
  | ty n => cases (show u = Value.type n from r); rfl

section
variable {P : Program} {w : World} {H H' : Hp} {h h' : Heap} {a C dx : Addr} {fs fs' : List (Str × V)}
theorem ins_get (hok : HOk P w H h) (e : H a = some (.ins C dx fs)) : ∃ mA, ObjM h a dx C mA ∧ (∀ f, RelO (fs.lookup f) (mA f)) ∧ PySem.Within mA (fs.map (·.1)) ∧ fs.length ≤ 1000 ∧ H dx = some (.own a) := by
  obtain ⟨d, z, ne, ob, mA, n, r, q⟩ := (show ObjOk P w H h a (.ins C dx fs) from hok a _ e)
  exact ⟨mA, ⟨ob, n, ne⟩, r, q, z, d⟩
end

/-! ### what of the text a class must have -/
structure Cls (K : PySem.W.Frag) (C : Addr) : Prop where
  pg : PySem.W.plainGet K C Str.empty = true
  hd : PySem.W.hasDictIn K C = true
  po : PySem.W.plainOver K C = true
  sa : PySem.W.findIn K (.ref C) "__setattr__" = some (some (.builtin "object.__setattr__"))
theorem Cls.get {K : PySem.W.Frag} {C : Addr} (c : Cls K C) (f : Str) : PySem.W.plainGet K C f = true := c.pg
/-- no class of it has the name -/
def NoAttr (K : PySem.W.Frag) (C : Addr) (f : Str) : Prop := PySem.W.findIn K (.ref C) f = some none
theorem NoAttr.taker {K : PySem.W.Frag} {C : Addr} {f : Str} (n : NoAttr K C f) : PySem.W.takerIn K C f = some none := by
  unfold PySem.W.takerIn
  rw [show PySem.W.findIn K (.ref C) f = some none from n]
  rfl
/-- a method: a plain def of the class or of one above it -/
structure Meth (K : PySem.W.Frag) (C : Addr) (m : Str) (f : Addr) : Prop where
  at_ : PySem.W.findIn K (.ref C) m = some (some (.ref f))
  fn : PySem.W.isFn K (.ref f) = true
  kp : PySem.W.keepIn K (.ref f) = true

section
variable {X : Cx} {pins : List (Addr × Obj)} {σ : St} {H : Hp} {s : Shared} {a C dx : Addr} {fs : List (Str × V)} {f : Str} {v : V} {A : Around} {E : Value → Shared → Prop}

theorem getattr_ok {b : Bool} {Q : Value → Shared → Prop} (I : Inv X pins σ H s) (e : H a = some (.ins C dx fs)) (c : Cls X.K C) (n : NoAttr X.K C f) (l : fs.lookup f = some v)
    (h : ∀ u s', Inv X pins σ H s' → RelV v u → Q u s') : wpAny (model X.prog X.w) A (getAttr (.ref a) f b) Q E s := by
  obtain ⟨mA, O, r, _, _, _⟩ := ins_get I.hok e
  obtain ⟨u, hu, ru⟩ := RelO.some_of (v := v) (o := mA f) (by rw [← l]; exact r f)
  exact get_map I.kIn O (c.get f) c.hd n hu (handed_of ru) (h u _ (I.tok _) ru)

theorem getmeth_ok {m : Str} {g : Addr} {pl : Sem Bool} {Q : Value × List Value → Shared → Prop} (I : Inv X pins σ H s) (e : H a = some (.ins C dx fs)) (c : Cls X.K C) (k : Meth X.K C m g) (l : fs.lookup m = none)
    (h : Q (.ref g, [.ref a]) s) : wpAny (model X.prog X.w) A (getMethod (.ref a) m pl) Q E s := by
  obtain ⟨mA, O, r, _, _, _⟩ := ins_get I.hok e
  have hn : mA m = none := RelO.none_of (by rw [← l]; exact r m)
  exact get_meth I.kIn O (c.get m) k.at_ k.fn hn h

theorem setattr_ok {y : V} {u : Value} {Q : Unit → Shared → Prop} (I : Inv X pins σ H s) (e : H a = some (.ins C dx fs)) (c : Cls X.K C) (n : NoAttr X.K C f) (hl : fs.length < 1000) (ry : RelV y u)
    (h : ∀ s', Inv X pins σ (upd H a (.ins C dx (putF f y fs))) s' → Q () s') : wpAny (model X.prog X.w) A (setAttr (.ref a) f u) Q E s := by
  obtain ⟨mA, O, r, wi, _, ho⟩ := ins_get I.hok e
  have hz : (fs.map (·.1)).length ≤ sizeLine := by rw [List.length_map, sizeLine_eq]; omega
  refine set_map I.kIn O c.sa c.po n.taker c.hd wi hz fun h' O' sb => h _ ?_
  have hd : ∃ o, h'.get? dx = some o := let ⟨o, _, _, e', _⟩ := O'.ns; ⟨o, e'⟩
  refine I.write (x := a) (e := dx) (by rw [e]; exact True.intro) (.inr ho) (fun b q hb z => (sb.2 b hb).trans z) hd ?_
  refine ⟨by rw [upd_ne O.ne]; exact ho, ?_, O.ne, O'.obj, _, O'.ns, fun g => ?_, fun g hg => ?_⟩
  · have := length_putF f y fs; omega
  · show RelO ((putF f y fs).lookup g) (if g = f then some u else mA g)
    rw [lookup_putF]
    by_cases q : g = f
    · rw [if_pos q, if_pos q]; exact ry
    · rw [if_neg q, if_neg q]; exact r g
  · by_cases q : g = f
    · rw [q]; exact (keys_putF f y fs).1
    · refine (keys_putF f y fs).2 g (wi g fun z => hg ?_)
      show (if g = f then some u else mA g) = none
      rw [if_neg q]; exact z

/-- a new instance, tracked, without attributes -/
theorem Inv.made (I : Inv X pins σ H s) : Inv X pins σ (upd (upd H s.heap.objs.size (.own (s.heap.objs.size + 1))) (s.heap.objs.size + 1) (.ins C s.heap.objs.size []))
    { s with heap := (s.heap.push PySem.W.emptyDict).push (PySem.W.instObj C s.heap.objs.size) } := by
  have e1 : (s.heap.push PySem.W.emptyDict).get? s.heap.objs.size = some PySem.W.emptyDict := Heap.get?_push_size s.heap rfl
  have e2 : ((s.heap.push PySem.W.emptyDict).push (PySem.W.instObj C s.heap.objs.size)).get? (s.heap.objs.size + 1) = some (PySem.W.instObj C s.heap.objs.size) := by
    have := Heap.get?_push_size (s.heap.push PySem.W.emptyDict) (o := PySem.W.instObj C s.heap.objs.size) rfl
    rwa [Heap.size_push] at this
  have e3 : (s.heap.push PySem.W.emptyDict).Ns s.heap.objs.size (fun _ => none) := ⟨PySem.W.emptyDict, #[], _, e1, rfl, (fun e he => absurd he (by simp)), fun _ => rfl⟩
  have I1 := I.laid (a := s.heap.objs.size) (o := .own (s.heap.objs.size + 1)) (h' := s.heap.push PySem.W.emptyDict) (t' := s.toks) (fun b u q => Heap.get?_push_of_some _ q) (Nat.le_refl _) ⟨_, e1⟩
  refine I1.laid (a := s.heap.objs.size + 1) (o := .ins C s.heap.objs.size []) (t' := s.toks) (fun b u q => Heap.get?_push_of_some _ q) (Nat.le_of_eq (Heap.size_push _ _)) ?_
  have ne : s.heap.objs.size ≠ s.heap.objs.size + 1 := Nat.ne_of_lt (Nat.lt_succ_self _)
  refine ⟨by rw [upd_ne ne, upd_same], Nat.zero_le _, ne, e2, fun _ => none, (Heap.Ns1.of_empty e3).at fun o q => Heap.get?_push_of_some _ q, fun _ => True.intro, fun y hy => absurd rfl hy⟩

/-- e.f where nothing but the object is asked: through attributeBase (super) and the last hold -/
theorem attr_of {prog : Program} {w : World} {env : Env} {e : Expr} {f : Str} {pos : Pos} {s : Shared} {Q : Value → Shared → Prop} (hb : attributeBase e f env (eval e env) = eval e env)
    (h : wpAny (model prog w) A (eval e env) (fun o s₁ => wpAny (model prog w) A (getAttr o f true) Q E s₁) E s) : wpAny (model prog w) A (eval (.Attribute e f pos) env) Q E s :=
  Attribute_any_ h (by rw [arm_eval_Attribute, hb])
end

/-! ### readings and rules -/
/-- an augmented operator on two values -/
def InOp (X : Cx) (op : Operator) (rd : V → V → Hp → VK → Prop) : Prop :=
  ∀ (pins : List (Addr × Obj)) (s : Shared) (σ : St) (H : Hp) (x y : V) (u v : Value) (Q : VK), Inv X pins σ H s → RelV x u → RelV y v → rd x y H Q → wpAny (model X.prog X.w) X.A (inplaceOp op u v) (EP X pins σ Q) X.xe s
section
variable {X : Cx} {o e value : Expr} {f : Str} {pos pos' tpos : Pos} {ta tv : TE}
def rAdd : V → V → Hp → VK → Prop := fun x y H Q => ∃ i j, x = .int i ∧ y = .int j ∧ Q (.int (i + j)) H
def rSub : V → V → Hp → VK → Prop := fun x y H Q => ∃ i j, x = .int i ∧ y = .int j ∧ Q (.int (i - j)) H
theorem in_add : InOp X .Add rAdd := by
  rintro pins s σ H x y u v Q I rx ry ⟨i, j, rfl, rfl, q⟩
  obtain ⟨t, rfl⟩ := (show ∃ t, u = Value.int i t from rx)
  obtain ⟨t', rfl⟩ := (show ∃ t', v = Value.int j t' from ry)
  exact PyProof.Rows.iadd_int ⟨.int (i + j), H, I.tok _, ⟨_, rfl⟩, q⟩
/-- what is between an instance and its method: the tree of a method call -/
theorem methcall_of {pl : Sem Bool} {m : Str} {apos : Pos} {args : List Expr} {pins : List (Addr × Obj)} {s : Shared} {σ : St} {H : Hp} {Q : Value → Shared → Prop} {te : TE} (he : PE X e te) (I : Inv X pins σ H s)
    (h : te σ H fun x H1 => ∃ a C dx fs g, x = .ref a ∧ H1 a = some (.ins C dx fs) ∧ Cls X.K C ∧ Meth X.K C m g ∧ fs.lookup m = none ∧
      ∀ s1, Inv X pins σ H1 s1 → wpAny (model X.prog X.w) X.A (callWith pos (.ref g) [.ref a] (backTo pos (starEach args X.env)) (backToKw pos (keywordEach [] X.env))) Q X.xe s1)
    (ht : eval (.Call (.Attribute e m apos) args [] pos) X.env = (do
      let ov ← eval e X.env
      standAt apos.atName
      let (f, first) ← holding [ov] (getMethod ov m pl)
      callWith pos f first (backTo pos (starEach args X.env)) (backToKw pos (keywordEach [] X.env)))) :
    wpAny (model X.prog X.w) X.A (eval (.Call (.Attribute e m apos) args [] pos) X.env) Q X.xe s := by
  refine PySem.W.methodCall_KW (pl := pl) (thn (he pins s σ H _ I h) fun u s1 ⟨x, H1, I1, rx, a, C, dx, fs, g, ex, ea, c, k, l, q⟩ => ?_) ht
  subst ex
  obtain rfl : u = Value.ref a := rx
  exact getmeth_ok I1 ea c k l (q s1 I1)
end

/-! ### isinstance -/
section
variable {X : Cx} {pins : List (Addr × Obj)} {σ : St} {H : Hp} {s : Shared} {A : Around} {E : Value → Shared → Prop} {Q : Value → Shared → Prop} {c : Value} {b : Bool}
/-- the type of a value, as the fragment's deciders take it; for an instance its class -/
inductive TyOf (K : PySem.W.Frag) (H : Hp) : V → Value → Prop where
  | non : TyOf K H .non (.type "NoneType")
  | bl (x : Bool) : TyOf K H (.bl x) (.type "bool")
  | int (i : Int) : TyOf K H (.int i) (.type "int")
  | str (x : Str) : TyOf K H (.str x) (.type "str")
  | flt (x : UInt64) : TyOf K H (.flt x) (.type "float")
  | lst {a : Addr} {xs : List V} (e : H a = some (.lst xs)) : TyOf K H (.ref a) (.type "list")
  | frz {a : Addr} {o : Obj} {xs : List V} (e : H a = some (.frz o (.lst xs))) : TyOf K H (.ref a) (.type "list")
  | tup {a : Addr} {xs : List V} (e : H a = some (.tup xs)) : TyOf K H (.ref a) (.type "tuple")
  | dK {a : Addr} {kvs : List (Key × V)} (e : H a = some (.dK kvs)) : TyOf K H (.ref a) (.type "dict")
  | dT {a : Addr} {kvs : List (List Key × V)} (e : H a = some (.dT kvs)) : TyOf K H (.ref a) (.type "dict")
  | ins {a C dx : Addr} {fs : List (Str × V)} (e : H a = some (.ins C dx fs)) (cl : Cls K C) (ha : PySem.W.findIn K (.ref C) "__class__" = some (some (.builtin "object.__class__")))
      (hn : PySem.W.specialIn K (.builtin "object.__class__") "__get__" = some (some (.builtin "getset_descriptor.__get__"))) (htk : PySem.W.takesIn K (.builtin "object.__class__") = some true)
      (hm : PySem.W.mroIn K C (.type "object") = some true) : TyOf K H (.ref a) (.ref C)
/-- isinstance(x, c) for one class c, a built-in or an own one: kitOne's answer -/
theorem isinst_ok {x : V} {u t : Value} (I : Inv X pins σ H s) (rx : RelV x u) (ty : TyOf X.K H x t) (e : PySem.W.kitOne X.K t c = some b) (h : ∀ tk, Q (.bool b) { s with toks := tk }) :
    wpAny (model X.prog X.w) A (call (.builtin "isinstance") [u, c]) Q E s := by
  cases ty with
  | non => cases (show u = Value.none from rx); exact PySem.W.kia_one PySem.W.kitx_none I.kIn True.intro e (fun z => nomatch z) h
  | bl y => cases (show u = Value.bool y from rx); exact PySem.W.kia_one PySem.W.kitx_bool I.kIn True.intro e (fun z => nomatch z) h
  | int i => obtain ⟨t, q⟩ := (show ∃ t, u = Value.int i t from rx); cases q; exact PySem.W.kia_one PySem.W.kitx_int I.kIn True.intro e (fun z => nomatch z) h
  | str y => obtain ⟨t, q⟩ := (show ∃ t, u = Value.str y t from rx); cases q; exact PySem.W.kia_one PySem.W.kitx_str I.kIn True.intro e (fun z => nomatch z) h
  | flt y => obtain ⟨t, q⟩ := (show ∃ t, u = Value.float y t from rx); cases q; exact PySem.W.kia_one PySem.W.kitx_float I.kIn True.intro e (fun z => nomatch z) h
  | @lst a xs ea =>
    cases (show u = Value.ref a from rx)
    obtain ⟨_, _, n, _, h1⟩ := (show ObjOk X.prog X.w H s.heap a (.lst xs) from I.hok a _ ea)
    exact PySem.W.kia_one PySem.W.kitx_list I.kIn ⟨_, h1, rfl⟩ e (fun z => nomatch z) h
  | @frz a ob xs ea =>
    cases (show u = Value.ref a from rx)
    obtain ⟨_, _, _, n, _, h1⟩ := (show ObjOk X.prog X.w H s.heap a (.frz ob (.lst xs)) from I.hok a _ ea)
    exact PySem.W.kia_one PySem.W.kitx_list I.kIn ⟨_, h1, rfl⟩ e (fun z => nomatch z) h
  | @tup a xs ea =>
    cases (show u = Value.ref a from rx)
    obtain ⟨_, _, _, p⟩ := (show ObjOk X.prog X.w H s.heap a (.tup xs) from I.hok a _ ea)
    obtain ⟨o, h1, h2, _⟩ := p
    exact PySem.W.kia_one PySem.W.kitx_tuple I.kIn ⟨o, h1, h2⟩ e (fun z => nomatch z) h
  | @dK a kvs ea =>
    cases (show u = Value.ref a from rx)
    obtain ⟨_, _, vs, _, p⟩ := (show ObjOk X.prog X.w H s.heap a (.dK kvs) from I.hok a _ ea)
    obtain ⟨o, es, ep, h1, h2, _⟩ := p
    exact PySem.W.kia_one PySem.W.kitx_dict I.kIn ⟨o, h1, h2.1⟩ e (fun z => nomatch z) h
  | @dT a kvs ea =>
    cases (show u = Value.ref a from rx)
    obtain ⟨_, _, xs, _, o, es, ep, h1, h2, _⟩ := (show ObjOk X.prog X.w H s.heap a (.dT kvs) from I.hok a _ ea)
    exact PySem.W.kia_one PySem.W.kitx_dict I.kIn ⟨o, h1, h2.1⟩ e (fun z => nomatch z) h
  | @ins a C dx fs ea cl ha hn htk hm =>
    cases (show u = Value.ref a from rx)
    obtain ⟨mA, O, _⟩ := ins_get I.hok ea
    obtain ⟨od, J, _⟩ := O.look
    exact PySem.W.kia_one (PySem.W.kitx_own (cl.get _) cl.hd ha hn htk hm) I.kIn J e (fun z => nomatch z) h
end
end L2

namespace L2
open PySem PySem.Spec PyProof.Rows

/-! ### room -/
structure Room (c : Bool) (k : Nat) (A : Around) : Prop where
  hd : c = true → A.handled = none
  dp : A.depth + 3 * k + 5 < recursionLimit
  un : A.units + 16 * k + 200 < cLine
  gd : A.guards = some []
theorem Room.mono {c : Bool} {j k : Nat} {A : Around} (r : Room c k A) (h : j ≤ k) : Room c j A := ⟨r.hd, by have := r.dp; omega, by have := r.un; omega, r.gd⟩
theorem Room.weak {c : Bool} {k : Nat} {A : Around} (r : Room c k A) : Room false k A := ⟨fun h => (nomatch h), r.dp, r.un, r.gd⟩
theorem Room.deeper {c : Bool} {k : Nat} {A : Around} (r : Room c (k + 1) A) (env : Env) : Room c k (A.deeper env) :=
  ⟨r.hd, by have := r.dp; show A.depth + 1 + 3 * k + 5 < _; omega, by have := r.un; show A.units + 3 + 16 * k + 200 < _; omega, by first | exact r.gd | simpa [Around.deeper, Around.under, Code.isGuard] using r.gd⟩
theorem Room.in1 {c : Bool} {k : Nat} {A : Around} (r : Room c (k + 1) A) : Room c k A.in1 :=
  ⟨r.hd, by have := r.dp; show A.depth + 3 * k + 5 < _; omega, by have := r.un; show A.units + 1 + 16 * k + 200 < _; omega, r.gd⟩
theorem make_depth {A : Around} {C : Addr} {us : List Value} {kw : List (Str × Value)} : (A.under (.builtin "type.__call__" ⟨.ref C :: us, kw⟩)).depth = A.depth + 1 := by
  first | rfl | simp [Around.under, Code.weight, Code.isCreation, Code.isGuard, Code.isCaller, Code.frames, Code.isFrame, guardIds]
theorem make_units {A : Around} {C : Addr} {us : List Value} {kw : List (Str × Value)} : (A.under (.builtin "type.__call__" ⟨.ref C :: us, kw⟩)).units = A.units + 1 := by
  first | rfl | simp [Around.under, Code.cUnits, Code.frames, Code.isFrame]
theorem Room.make {c : Bool} {k : Nat} {A : Around} (r : Room c (k + 1) A) (C : Addr) (us : List Value) (kw : List (Str × Value)) : Room c k (A.under (.builtin "type.__call__" ⟨.ref C :: us, kw⟩)) :=
  ⟨r.hd, by have := r.dp; rw [make_depth]; omega, by have := r.un; rw [make_units]; omega, by first | exact r.gd | simpa [Around.under, Code.isGuard, guardIds] using r.gd⟩
theorem Room.depth {c : Bool} {k : Nat} {A : Around} (r : Room c k A) : A.depth < recursionLimit := by have := r.dp; omega
theorem Room.units {c : Bool} {k : Nat} {A : Around} (r : Room c k A) : A.units + 64 < cLine := by have := r.un; omega
/-! ### argument lists and displays -/
def tNil : TA := fun _ H Q => Q [] H
def tCons (ta : TE) (tr : TA) : TA := fun σ H Q => ta σ H fun x H1 => tr σ H1 fun xs H2 => Q (x :: xs) H2
section
variable {X : Cx} {e : Expr} {es : List Expr} {te : TE} {t : TA} {pos : Pos}
theorem pa_nil : PA X [] tNil := fun _ _ _ _ H Q I h => Calls.spliced_nil ⟨[], H, I, .nil, h⟩
theorem pa_cons (ha : PE X e te) (hr : PA X es t) (hs : starEach (e :: es) X.env = (false, eval e X.env) :: starEach es X.env := by rfl) : PA X (e :: es) (tCons te t) := by
  intro pos pins s σ H Q I h
  rw [hs]
  show wpAny _ _ (spliced ((false, eval e X.env) :: backTo pos (starEach es X.env))) _ _ s
  refine Calls.spliced_cons (thn (ha pins s σ H _ I h) fun u s1 ⟨x, H1, I1, r1, q1⟩ => ?_)
  exact thn (hr pos pins s1 σ H1 _ I1 q1) fun us s2 ⟨xs, H2, I2, r2, q2⟩ => ⟨x :: xs, H2, I2, .cons r1 r2, q2⟩

/-- a tuple, a list of written items -/
def tTup (t : TA) : TE := fun σ H Q => t σ H fun xs H1 => xs.length ≤ sizeLine ∧ ∀ p, H1 p = none → Q (.ref p) (upd H1 p (.tup xs))
theorem pe_tup {x1} (h : PA X es t) : PE X (.Tuple es x1 pos) (tTup t) := by
  intro pins s σ H Q I hq
  refine wpAny_Tuple_spliced (thn (h pos pins s σ H _ I hq) fun us s1 ⟨xs, H1, I1, r, z, q⟩ => ⟨by rw [← r.length]; exact z, ?_⟩)
  have hf : H1 s1.heap.objs.size = none := I1.hok.fresh (Nat.le_refl _)
  refine ⟨.ref s1.heap.objs.size, upd H1 s1.heap.objs.size (.tup xs), I1.laid (t' := s1.toks) (fun b u e => Heap.get?_push_of_some _ e) (Nat.le_refl _) ?_, rfl, q _ hf⟩
  exact ⟨z, us, r, ⟨_, Heap.get?_push_size _ rfl, rfl, _, rfl⟩⟩
end

/-! ### what a def promises -/
/-- a def's promise: the bound arguments in the parameters' order, the heap, the wanted end, the wanted exception -/
abbrev Sp := List V → Hp → VK → XK → Prop
/-- how an exception lies behind a call (file 08 gives it): the callers' frames, abstract heap and state ahead of the call, the wish, the exception, the state -/
abbrev CXT := List Env → Hp → Shared → XK → Value → Shared → Prop

/-- the state at a call -/
structure Env0 (P : Program) (w : World) (K : PySem.W.Frag) (mg : Str → Option Value) (base : Heap) (A : Around) (outer : List Env) (s : Shared) (H : Hp) : Prop where
  frames : A.frames = some outer
  hdk : HdOk A H
  mod : Mod K mg base
  bs : ∀ b o, base.get? b = some o → s.heap.get? b = some o ∧ H b = none
  bsz : base.objs.size ≤ s.heap.objs.size
  funs : s.heap.FunFrames base outer
  frf : ∀ b ∈ frs outer, H b = none
  hok : HOk P w H s.heap
  bare : AllBare s.gens
/-- a call's end -/
def CE (outer : List Env) (P : Program) (w : World) (H : Hp) (s : Shared) (Q : VK) (u : Value) (s' : Shared) : Prop :=
  ∃ v H', s'.os = s.os ∧ AllBare s'.gens ∧ Un (frs outer) [] H H' s.heap s'.heap ∧ HOk P w H' s'.heap ∧ RelV v u ∧ Q v H'
def CR (CX : CXT) (outer : List Env) (P : Program) (w : World) (H : Hp) (s : Shared) (Q : VK) (E : XK) (r : Result) (s' : Shared) : Prop :=
  match r with
  | .ok (.ret u) => CE outer P w H s Q u s'
  | .ok _ => False
  | .error e => CX outer H s E e s'
structure FnOk (P : Program) (w : World) (K : PySem.W.Frag) (mg : Str → Option Value) (base : Heap) (CX : CXT) (c : Bool) (k : Nat) (f : Addr) (fd : FuncData) (ps : List Str) (sp : Sp) : Prop where
  len : ∀ vs H Q E, sp vs H Q E → vs.length = ps.length
  run : ∀ (A : Around) (outer : List Env) (s : Shared) (H : Hp) (args : Args) (us : List Value) (vs : List V) (Q : VK) (E : XK), Room c k A → Env0 P w K mg base A outer s H → BindsTo s fd args (ps.zip us) → Vals vs us → sp vs H Q E →
    codeAny (model P w) A (.call (.ref f) args) (CR CX outer P w H s Q E) s
theorem FnOk.mono {P : Program} {w : World} {K : PySem.W.Frag} {mg : Str → Option Value} {base : Heap} {CX : CXT} {c : Bool} {j k : Nat} {f : Addr} {fd : FuncData} {ps : List Str} {sp : Sp} (F : FnOk P w K mg base CX c j f fd ps sp) (h : j ≤ k) :
    FnOk P w K mg base CX c k f fd ps sp := ⟨F.len, fun A outer s H args us vs Q E hr => F.run A outer s H args us vs Q E (hr.mono h)⟩
theorem FnOk.calm {P : Program} {w : World} {K : PySem.W.Frag} {mg : Str → Option Value} {base : Heap} {CX : CXT} {c : Bool} {k : Nat} {f : Addr} {fd : FuncData} {ps : List Str} {sp : Sp} (F : FnOk P w K mg base CX false k f fd ps sp) :
    FnOk P w K mg base CX c k f fd ps sp := ⟨F.len, fun A outer s H args us vs Q E hr => F.run A outer s H args us vs Q E hr.weak⟩
/-- a weaker promise -/
theorem FnOk.imp {P : Program} {w : World} {K : PySem.W.Frag} {mg : Str → Option Value} {base : Heap} {CX : CXT} {c : Bool} {k : Nat} {f : Addr} {fd : FuncData} {ps : List Str} {sp sp' : Sp} (F : FnOk P w K mg base CX c k f fd ps sp)
    (h : ∀ vs H Q E, sp' vs H Q E → sp vs H Q E) : FnOk P w K mg base CX c k f fd ps sp' :=
  ⟨fun vs H Q E q => F.len vs H Q E (h _ _ _ _ q), fun A outer s H args us vs Q E hr he hb hv hs => F.run A outer s H args us vs Q E hr he hb hv (h _ _ _ _ hs)⟩

theorem Env0.make {P : Program} {w : World} {K : PySem.W.Frag} {mg : Str → Option Value} {base : Heap} {A : Around} {outer : List Env} {s : Shared} {H : Hp} (e : Env0 P w K mg base A outer s H) (C : Addr) (us : List Value) (kw : List (Str × Value)) :
    Env0 P w K mg base (A.under (.builtin "type.__call__" ⟨.ref C :: us, kw⟩)) outer s H := ⟨by first | exact e.frames | (simpa [Around.under, Code.envs, Code.isFrame, pushEnvs] using e.frames), e.hdk, e.mod, e.bs, e.bsz, e.funs, e.frf, e.hok, e.bare⟩
theorem Env0.in1 {P : Program} {w : World} {K : PySem.W.Frag} {mg : Str → Option Value} {base : Heap} {A : Around} {outer : List Env} {s : Shared} {H : Hp} (e : Env0 P w K mg base A outer s H) :
    Env0 P w K mg base A.in1 outer s H := ⟨e.frames, e.hdk, e.mod, e.bs, e.bsz, e.funs, e.frf, e.hok, e.bare⟩

section
variable {X : Cx} {pins : List (Addr × Obj)} {σ : St} {H : Hp} {s s' : Shared}
/-- from a body: what a callee wants -/
theorem Inv.env0 (I : Inv X pins σ H s) : Env0 X.prog X.w X.K X.mg X.base X.A X.stack s H :=
  ⟨I.ok.frames, I.hdk, I.ok.mod, I.bs, Nat.le_trans I.ok.bsz I.sz, I.stack, I.stkFree, I.hok, I.bare⟩
/-- behind a call -/
theorem Inv.after {Q : VK} {u : Value} (I : Inv X pins σ H s) (h : CE X.stack X.prog X.w H s Q u s') : EP X pins σ Q u s' := by
  obtain ⟨v, H', os, bare, un, hok, r, q⟩ := h
  obtain ⟨hh, g, d, t, os'⟩ := s'
  obtain rfl : os' = s.os := os
  exact ⟨v, H', I.call (h' := hh) (g' := g) (d' := d) (t' := t) (ch := []) un hok bare (fun b z => absurd z (by simp)), r, q⟩
end

/-! ### calls -/
/-- f(..): the written arguments, then the defaults dvs; E: what is wanted of an exception -/
def tCall (sp : Sp) (dvs : List V) (E : XK) (t : TA) : TE := fun σ H Q => t σ H fun vs H1 => sp (vs ++ dvs) H1 Q E
/-- o.m(..) of an instance of the class at C -/
def tMeth (C : Addr) (m : Str) (sp : Sp) (dvs : List V) (E : XK) (ta : TE) (t : TA) : TE := fun σ H Q => ta σ H fun x H1 => ∃ a dx fs, x = .ref a ∧ H1 a = some (.ins C dx fs) ∧ fs.lookup m = none ∧
  t σ H1 fun vs H2 => sp (x :: (vs ++ dvs)) H2 Q E
/-- C(..): a new instance and its dict, then __init__ -/
def tMake (C : Addr) (sp : Sp) (dvs : List V) (E : XK) (t : TA) : TE := fun σ H Q => t σ H fun vs H1 => ∀ x dx, H1 x = none → H1 dx = none → dx ≠ x →
  sp (.ref x :: (vs ++ dvs)) (upd (upd H1 dx (.own x)) x (.ins C dx [])) (fun v H2 => v = .non ∧ Q (.ref x) H2) E

/-- how the parameters are bound: us the positional arguments, kw the keywords' values by name, ds the defaults that fill up -/
def Binds (K : PySem.W.Frag) (fd : FuncData) (ps : List Str) (ds : List Value) : Prop :=
  ∀ (s : Shared) (us : List Value), K.In s.heap → (us ++ ds).length = ps.length → BindsTo s fd ⟨us, []⟩ (ps.zip (us ++ ds))
/-- every parameter is given -/
theorem Binds.all {K : PySem.W.Frag} {fd : FuncData} {ps : List Str} (h : ∀ us : List Value, us.length = ps.length → bindArgs fd ⟨us, []⟩ = pure (ps.zip us)) : Binds K fd ps [] := fun s us _ hl => by
  rw [List.append_nil] at hl ⊢
  exact .of_eq (h us hl)

/-- an exception of a callee reaches what this body wants of exceptions -/
def Passes (CX : CXT) (X : Cx) (E : XK) : Prop := ∀ (pins : List (Addr × Obj)) (σ : St) (H : Hp) (s : Shared) (e : Value) (s' : Shared), Inv X pins σ H s → CX X.stack H s E e s' → X.xe e s'

section
variable {X : Cx} {CX : CXT} {cm : Bool} {k : Nat} {f C : Addr} {fd : FuncData} {ps : List Str} {sp : Sp} {dvs : List V} {ds : List Value} {E : XK} {x m : Str} {p pos apos : Pos} {e o : Expr} {es : List Expr} {ta : TE} {t : TA}

/-- the callee runs -/
theorem run_fn {pins : List (Addr × Obj)} {σ : St} {H : Hp} {s : Shared} {Q : VK} {us : List Value} {vs : List V} (F : FnOk X.prog X.w X.K X.mg X.base CX cm k f fd ps sp) (hr : Room cm k X.A) (hb : Binds X.K fd ps ds) (hd : Vals dvs ds) (hx : Passes CX X E)
    (I : Inv X pins σ H s) (r : Vals vs us) (h : sp (vs ++ dvs) H Q E) : wpAny (model X.prog X.w) X.A (call (.ref f) us) (EP X pins σ Q) X.xe s := by
  have r2 : Vals (vs ++ dvs) (us ++ ds) := r.append hd
  have hl : (us ++ ds).length = ps.length := by rw [← r2.length]; exact F.len _ _ _ _ h
  refine wpAny_call (codeAny_mono (F.run X.A X.stack s H ⟨us, []⟩ (us ++ ds) (vs ++ dvs) Q E hr I.env0 (hb s us I.kIn hl) r2 h) fun r s' hq => ?_)
  cases r with
  | error e => exact hx pins σ H s e s' I hq
  | ok fl =>
    cases fl with
    | ret u => exact I.after hq
    | next => exact False.elim hq
    | brk => exact False.elim hq
    | cont => exact False.elim hq

theorem pe_call (F : FnOk X.prog X.w X.K X.mg X.base CX cm k f fd ps sp) (hr : Room cm k X.A) (hg : Gl X x) (hm : X.mg x = some (.ref f)) (hk : PySem.W.keepIn X.K (.ref f) = true) (hb : Binds X.K fd ps ds) (hd : Vals dvs ds) (hx : Passes CX X E)
    (ha : PA X (e :: es) t) (hdb : (x == ("__debug__" : Str)) = false := by decide) (he : starEach (e :: es) X.env = (false, eval e X.env) :: starEach es X.env := by rfl) (hpl : (backTo pos (starEach es X.env)).any (·.1) = false := by rfl) :
    PE X (.Call (.Name x p) (e :: es) [] pos) (tCall sp dvs E t) := by
  intro pins s σ H Q I h
  refine wpAny_Call_Name_kw (ld_glob I hg hm ?_ hdb)
  refine PySem.W.callWith_K (h₀ := X.base) I.ok.mod.kin hk (thn (ha pos pins s σ H _ I h) fun us s1 ⟨vs, H1, I1, r, q⟩ => ⟨I1.kIn, ?_⟩) he hpl
  exact run_fn F hr hb hd hx I1 r q
/-- o.m(e, ..) -/
theorem pe_meth {pl : Sem Bool} (he : PE X o ta) (c : Cls X.K C) (hm : Meth X.K C m f) (F : FnOk X.prog X.w X.K X.mg X.base CX cm k f fd ps sp) (hr : Room cm k X.A) (hb : Binds X.K fd ps ds) (hd : Vals dvs ds) (hx : Passes CX X E) (ha : PA X (e :: es) t)
    (hst : starEach (e :: es) X.env = (false, eval e X.env) :: starEach es X.env := by rfl) (hpl : (backTo pos (starEach es X.env)).any (·.1) = false := by rfl)
    (ht : eval (.Call (.Attribute o m apos) (e :: es) [] pos) X.env = (do
      let ov ← eval o X.env
      standAt apos.atName
      let (f, first) ← holding [ov] (getMethod ov m pl)
      callWith pos f first (backTo pos (starEach (e :: es) X.env)) (backToKw pos (keywordEach [] X.env))) := by rfl) :
    PE X (.Call (.Attribute o m apos) (e :: es) [] pos) (tMeth C m sp dvs E ta t) := by
  intro pins s σ H Q I h
  refine PySem.W.methodCall_KW (pl := pl) (thn (he pins s σ H _ I h) fun u s1 ⟨x, H1, I1, rx, a, dx, fs, ex, ea, l, q⟩ => ?_) ht
  subst ex
  obtain rfl : u = Value.ref a := rx
  refine getmeth_ok I1 ea c hm l ?_
  refine PySem.W.callWith_K (first := [.ref a]) (h₀ := X.base) I.ok.mod.kin hm.kp (thn (ha pos pins s1 σ H1 _ I1 q) fun us s2 ⟨vs, H2, I2, r, q2⟩ => ⟨I2.kIn, ?_⟩) hst hpl
  exact run_fn (us := .ref a :: us) (vs := .ref a :: vs) F hr hb hd hx I2 (.cons rfl r) q2
/-- o.m() -/
theorem pe_meth0 {pl : Sem Bool} (he : PE X o ta) (c : Cls X.K C) (hm : Meth X.K C m f) (F : FnOk X.prog X.w X.K X.mg X.base CX cm k f fd ps sp) (hr : Room cm k X.A) (hb : Binds X.K fd ps ds) (hd : Vals dvs ds) (hx : Passes CX X E)
    (ht : eval (.Call (.Attribute o m apos) [] [] pos) X.env = (do
      let ov ← eval o X.env
      standAt apos.atName
      let (f, first) ← holding [ov] (getMethod ov m pl)
      callWith pos f first (backTo pos (starEach [] X.env)) (backToKw pos (keywordEach [] X.env))) := by rfl) :
    PE X (.Call (.Attribute o m apos) [] [] pos) (tMeth C m sp dvs E ta tNil) := by
  intro pins s σ H Q I h
  refine PySem.W.methodCall_KW (pl := pl) (thn (he pins s σ H _ I h) fun u s1 ⟨x, H1, I1, rx, a, dx, fs, ex, ea, l, q⟩ => ?_) ht
  subst ex
  obtain rfl : u = Value.ref a := rx
  refine getmeth_ok I1 ea c hm l ?_
  exact PySem.W.callWith_K0 (first := [.ref a]) I1.kIn hm.kp (run_fn (us := [.ref a]) (vs := [.ref a]) F hr hb hd hx I1 (.cons rfl .nil) q)

/-- what a class must have to be made -/
structure Mk (K : PySem.W.Frag) (C f : Addr) : Prop where
  makes : PySem.W.makesIn K C = true
  init : PySem.W.findIn K (.ref C) "__init__" = some (some (.ref f))
  fn : PySem.W.isFn K (.ref f) = true
  kp : PySem.W.keepIn K (.ref C) = true

theorem run_make {pins : List (Addr × Obj)} {σ : St} {H : Hp} {s : Shared} {Q : VK} {us : List Value} {vs : List V} (M : Mk X.K C f) (F : FnOk X.prog X.w X.K X.mg X.base CX cm k f fd ps sp) (hr : Room cm (k + 1) X.A) (hb : Binds X.K fd ps ds) (hd : Vals dvs ds)
    (hx : Passes CX X E) (I : Inv X pins σ H s) (r : Vals vs us)
    (h : ∀ x dx, H x = none → H dx = none → dx ≠ x → sp (.ref x :: (vs ++ dvs)) (upd (upd H dx (.own x)) x (.ins C dx [])) (fun v H2 => v = .non ∧ Q (.ref x) H2) E) :
    wpAny (model X.prog X.w) X.A (call (.ref C) us) (EP X pins σ Q) X.xe s := by
  have hq := h (s.heap.objs.size + 1) s.heap.objs.size (I.hok.fresh (Nat.le_succ _)) (I.hok.fresh (Nat.le_refl _)) (Nat.ne_of_lt (Nat.lt_succ_self _))
  have I2 := Inv.made (C := C) I
  have r2 : Vals (V.ref (s.heap.objs.size + 1) :: (vs ++ dvs)) (Value.ref (s.heap.objs.size + 1) :: (us ++ ds)) := .cons rfl (r.append hd)
  have hl : (Value.ref (s.heap.objs.size + 1) :: us ++ ds).length = ps.length := by
    have e := r2.length
    rw [F.len _ _ _ _ hq] at e
    exact e.symm
  refine wpAny_call (make_map (f := f) I.kIn M.makes M.init (beq_iff_eq.mp M.fn) (codeAny_mono (F.run _ X.stack _ _ ⟨Value.ref (s.heap.objs.size + 1) :: us, []⟩ (Value.ref (s.heap.objs.size + 1) :: (us ++ ds)) _ _ E (hr.make C us [])
    (I2.env0.make C us []) (hb _ (Value.ref (s.heap.objs.size + 1) :: us) I2.kIn hl) r2 hq) fun r s' hq' => ?_))
  cases r with
  | error e => exact hx pins σ _ _ e s' I2 hq'
  | ok fl =>
    cases fl with
    | ret u =>
      obtain ⟨v, H', I3, rv, ev, q3⟩ := I2.after hq'
      subst ev
      exact ⟨rv, ⟨V.ref (s.heap.objs.size + 1), H', I3, rfl, q3⟩⟩
    | next => exact False.elim hq'
    | brk => exact False.elim hq'
    | cont => exact False.elim hq'
theorem pe_make (M : Mk X.K C f) (F : FnOk X.prog X.w X.K X.mg X.base CX cm k f fd ps sp) (hr : Room cm (k + 1) X.A) (hg : Gl X x) (hm : X.mg x = some (.ref C)) (hb : Binds X.K fd ps ds) (hd : Vals dvs ds) (hx : Passes CX X E)
    (ha : PA X (e :: es) t) (hdb : (x == ("__debug__" : Str)) = false := by decide) (he : starEach (e :: es) X.env = (false, eval e X.env) :: starEach es X.env := by rfl) (hpl : (backTo pos (starEach es X.env)).any (·.1) = false := by rfl) :
    PE X (.Call (.Name x p) (e :: es) [] pos) (tMake C sp dvs E t) := by
  intro pins s σ H Q I h
  refine wpAny_Call_Name_kw (ld_glob I hg hm ?_ hdb)
  refine PySem.W.callWith_K (h₀ := X.base) I.ok.mod.kin M.kp (thn (ha pos pins s σ H _ I h) fun us s1 ⟨vs, H1, I1, r, q⟩ => ⟨I1.kIn, ?_⟩) he hpl
  exact run_make M F hr hb hd hx I1 r q
theorem pe_make0 (M : Mk X.K C f) (F : FnOk X.prog X.w X.K X.mg X.base CX cm k f fd ps sp) (hr : Room cm (k + 1) X.A) (hg : Gl X x) (hm : X.mg x = some (.ref C)) (hb : Binds X.K fd ps ds) (hd : Vals dvs ds) (hx : Passes CX X E)
    (hdb : (x == ("__debug__" : Str)) = false := by decide) : PE X (.Call (.Name x p) [] [] pos) (tMake C sp dvs E tNil) := by
  intro pins s σ H Q I h
  refine wpAny_Call_Name_kw (ld_glob I hg hm ?_ hdb)
  exact PySem.W.callWith_K0 I.kIn M.kp (run_make (us := []) M F hr hb hd hx I .nil h)
end

/-! ### keywords -/
section
variable {X : Cx} {CX : CXT} {cm : Bool} {k : Nat} {f C : Addr} {fd : FuncData} {ps ks : List Str} {sp : Sp} {E : XK} {x m : Str} {p pos apos kpos : Pos} {e o : Expr} {es : List Expr} {kws : List Keyword} {te ta : TE} {t tk : TA} {nm : Option Str}
variable {g : List Value → List Value → List Value} {gV : List V → List V → List V}
end

/-! ### a def's body keeps its promise -/
/-- names: the parameters first -/
structure FnScope (N P : List Str) (sc : Scope) : Prop where
  kind : sc.kind = .function
  co : sc.isCoroutine = false
  gen : sc.isGenerator = false
  nd : N.Nodup
  pre : N.take P.length = P
  par : ∀ x ∈ P, sc.names.lookup x = some .local ∨ sc.names.lookup x = some .cell
  nofree : ∀ y ∈ sc.names, y.2 ≠ .free

theorem bindL_out {kindOf : Str → Option NameKind} {x : Str} : ∀ {binds : List (Str × Value)} {m : Str → Option Value}, (∀ v, (x, v) ∉ binds) → bindL kindOf binds m x = m x
  | [], _, _ => rfl
  | (n, v) :: r, m, h => by
    unfold bindL
    rw [bindL_out fun w hw => h w (List.mem_cons_of_mem _ hw)]
    split
    · have : x ≠ n := by rintro rfl; exact h v List.mem_cons_self
      simp [this]
    · rfl
theorem bindC_out {kindOf : Str → Option NameKind} {x : Str} : ∀ {binds : List (Str × Value)} {m : Str → Option Value}, (∀ v, (x, v) ∉ binds) → bindC kindOf binds m x = m x
  | [], _, _ => rfl
  | (n, v) :: r, m, h => by
    unfold bindC
    rw [bindC_out fun w hw => h w (List.mem_cons_of_mem _ hw)]
    split
    · rfl
    · have : x ≠ n := by rintro rfl; exact h v List.mem_cons_self
      simp [this]
theorem bindL_get {kindOf : Str → Option NameKind} {x : Str} {v : Value} : ∀ {P : List Str} {vs : List Value} {i : Nat} {m : Str → Option Value}, P.Nodup → P[i]? = some x → vs[i]? = some v → kindOf x = some .local →
    bindL kindOf (P.zip vs) m x = some v
  | [], _, _, _, _, h, _, _ => by simp at h
  | _ :: _, [], _, _, _, _, h, _ => by simp at h
  | p :: P, w :: vs, 0, m, nd, h1, h2, hk => by
    simp at h1 h2; subst h1; subst h2
    show bindL kindOf ((p, w) :: P.zip vs) m p = _
    unfold bindL
    rw [bindL_out fun v hv => (List.nodup_cons.mp nd).1 (List.of_mem_zip hv).1, if_pos hk]
    simp
  | p :: P, w :: vs, i + 1, m, nd, h1, h2, hk => by
    show bindL kindOf ((p, w) :: P.zip vs) m x = _
    unfold bindL
    exact bindL_get (i := i) (List.nodup_cons.mp nd).2 (by simpa using h1) (by simpa using h2) hk
theorem bindC_get {kindOf : Str → Option NameKind} {x : Str} {v : Value} : ∀ {P : List Str} {vs : List Value} {i : Nat} {m : Str → Option Value}, P.Nodup → P[i]? = some x → vs[i]? = some v → kindOf x ≠ some .local →
    bindC kindOf (P.zip vs) m x = some v
  | [], _, _, _, _, h, _, _ => by simp at h
  | _ :: _, [], _, _, _, _, h, _ => by simp at h
  | p :: P, w :: vs, 0, m, nd, h1, h2, hk => by
    simp at h1 h2; subst h1; subst h2
    show bindC kindOf ((p, w) :: P.zip vs) m p = _
    unfold bindC
    rw [bindC_out fun v hv => (List.nodup_cons.mp nd).1 (List.of_mem_zip hv).1, if_neg hk]
    simp
  | p :: P, w :: vs, i + 1, m, nd, h1, h2, hk => by
    show bindC kindOf ((p, w) :: P.zip vs) m x = _
    unfold bindC
    exact bindC_get (i := i) (List.nodup_cons.mp nd).2 (by simpa using h1) (by simpa using h2) hk

/-- the names' values at the entry -/
def start (N : List Str) (vs : List V) : St := vs.map some ++ List.replicate (N.length - vs.length) none

/-- the context of a def's body, at its entry; an exception leaves the frame, then lies as CX says -/
def cxOf (CX : CXT) (cm : Bool) (P : Program) (w : World) (K : PySem.W.Frag) (mg : Str → Option Value) (base : Heap) (N : List Str) (qual : Str) (scope : Scope) (f : Addr) (cd : Value) (A : Around) (outer : List Env) (s : Shared) (H : Hp) (E : XK) : Cx where
  prog := P
  w := w
  K := K
  mg := mg
  base := base
  A := A.deeper (envOfC qual scope s.heap.objs.size f cd)
  N := N
  s₀ := s
  H₀ := H
  env := envOfC qual scope s.heap.objs.size f cd
  outer := outer
  stack := envOfC qual scope s.heap.objs.size f cd :: outer
  ex := []
  calm := cm
  fn := fun _ => true
  pn := []
  xe := fun e s' => wpAny (model P w) (A.deeper (envOfC qual scope s.heap.objs.size f cd)) (leaving (envOfC qual scope s.heap.objs.size f cd) e) (fun _ s'' => CX outer H s E e s'') (fun e' s'' => CX outer H s E e' s'') s'

theorem cell_has {sc : Scope} {n : Nat} {x : Str} (h : sc.names.lookup x = some .cell) : ∃ c, (cellsFrom n sc.names []).lookup x = some c := by
  have q := PySem.W.cellsFrom_some sc.names n [] (.inl h)
  exact Option.isSome_iff_exists.mp q

theorem inv_start {CX : CXT} {cm : Bool} {P : Program} {w : World} {K : PySem.W.Frag} {mg : Str → Option Value} {base : Heap} {N ps : List Str} {qual : Str} {scope : Scope} {f : Addr} {cd : Value} {A : Around} {outer : List Env} {s s1 : Shared} {H : Hp} {E : XK} {us : List Value} {vs : List V}
    (S : FnScope N ps scope) (hd : cm = true → A.handled = none) (e0 : Env0 P w K mg base A outer s H) (hl : vs.length = ps.length) (r : Vals vs us)
    (x : InCallC s s.heap.objs.size (bindL (envOfC qual scope s.heap.objs.size f cd).kindOf (ps.zip us) fun _ => none) (cellsFrom (s.heap.objs.size + 1) scope.names []) (bindC (envOfC qual scope s.heap.objs.size f cd).kindOf (ps.zip us) fun _ => none) s1) :
    Inv (cxOf CX cm P w K mg base N qual scope f cd A outer s H E) [] (start N vs) H s1 := by
  have hpl : ps.length ≤ N.length := by have := congrArg List.length S.pre; rw [List.length_take] at this; omega
  obtain ⟨h1, tk, rfl, hk⟩ := x.done
  have noA : ∀ b : Addr, b ∉ (cxOf CX cm P w K mg base N qual scope f cd A outer s H E).ex := fun b z => absurd (show b ∈ ([] : List Addr) from z) (by simp)
  refine ⟨⟨e0.mod, S.kind, rfl, rfl, Nat.le_refl _, fun y z c h1 h2 => ?_, fun y hy => ?_, fun y c _ h => ?_, hd, Around.frames_deeper e0.frames, .inr ⟨rfl, rfl⟩, fun b z => absurd z (noA b), e0.bs, e0.bsz, fun b _ _ => noA b, fun b z => absurd z (noA b), e0.funs, e0.frf⟩,
    rfl, e0.bare, Un.kept hk, ⟨_, x.toInCall.ns, fun i y v h1 h2 h3 => ?_⟩, fun y c h => ⟨_, x.cell y c h⟩, e0.hok.fresh (Nat.le_refl _), fun y c h => ?_, fun p hp => absurd (show p ∈ ([] : List (Addr × Obj)) from hp) (by simp), e0.hok.kept hk, ?_, e0.hdk⟩
  · exact name_of_addr x.apart (PySem.mem_of_lookup h1) (PySem.mem_of_lookup h2)
  · have hy : scope.names.lookup y = some .cell ∨ scope.names.lookup y = some .free := hy
    rcases hy with hy | hy
    · exact cell_has hy
    · exact absurd rfl (S.nofree _ (PySem.mem_of_lookup hy))
  · exact Nat.le_of_lt (x.above y c (PySem.mem_of_lookup h))
  · have hi : i < vs.length := by
      unfold start at h2
      by_cases hi : i < vs.length
      · exact hi
      · rw [List.getElem?_append_right (by simpa using hi)] at h2
        rw [List.getElem?_replicate] at h2
        split at h2 <;> cases h2
    have ha : vs[i]? = some v := by
      unfold start at h2
      rw [List.getElem?_append_left (by simpa using hi), List.getElem?_map] at h2
      cases e : vs[i]? with
      | none => rw [e] at h2; cases h2
      | some a => rw [e] at h2; cases h2; rfl
    obtain ⟨u, hu, rv⟩ := r.get ha
    have hp : ps[i]? = some y := by
      rw [← S.pre, List.getElem?_take_of_lt (by omega)]; exact h1
    have ndP : ps.Nodup := by rw [← S.pre]; exact S.nd.sublist (List.take_sublist _ _)
    refine ⟨u, rv, ?_⟩
    rcases S.par y (List.mem_of_getElem? hp) with k | k
    · exact .inl ⟨k, bindL_get ndP hp hu k⟩
    · obtain ⟨c, e⟩ := cell_has (n := s.heap.objs.size + 1) k
      refine .inr ⟨.inl k, c, e, ?_⟩
      have q := x.cell y c e
      rw [bindC_get ndP hp hu (by show scope.names.lookup y ≠ _; rw [k]; decide)] at q
      exact q
  · exact e0.hok.fresh (Nat.le_of_lt (x.above y c (PySem.mem_of_lookup h)))
  · unfold start
    show _ = N.length
    rw [List.length_append, List.length_map, List.length_replicate]
    omega

/-- THE RULE: a def (or a method) of the text, by its body. The body's reading t is chosen for each entry; it is run at the parameters' values -/
theorem fn_of {CX : CXT} {cm : Bool} {P : Program} {w : World} {K : PySem.W.Frag} {mg : Str → Option Value} {base : Heap} {k : Nat} {f : Addr} {name qual : Str} {params : Arguments} {body : List Stmt} {scope : Scope} {dV kV doc pm cdv ct oc : Value} {an od : Option Addr}
    {osl : Array (Option Value)} {N ps : List Str} {sp : Sp} (lk : K.lookup f = some ⟨oc, od, .func (PySem.W.fnOf name qual params body scope dV kV doc pm an cdv ct), osl⟩) (hcd : PySem.W.codeIn K cdv qual = true) (S : FnScope N ps scope)
    (len : ∀ vs H Q E, sp vs H Q E → vs.length = ps.length)
    (hbody : ∀ (A : Around) (outer : List Env) (s : Shared) (H : Hp) (vs : List V) (Q : VK) (E : XK), Room cm k (A.deeper (envOfC qual scope s.heap.objs.size f cdv)) → sp vs H Q E →
      ∃ t, PSs (cxOf CX cm P w K mg base N qual scope f cdv A outer s H E) body t ∧ t { nx := fun _ H' => Q .non H', rt := Q } (start N vs) H) :
    FnOk P w K mg base CX cm (k + 1) f (PySem.W.fnOf name qual params body scope dV kV doc pm an cdv ct) ps sp := by
  refine ⟨len, fun A outer s H args us vs Q E hr e0 hb r hsp => ?_⟩
  have hl := len _ _ _ _ hsp
  have KX : K.In s.heap := e0.mod.kin.keeps fun b o e => (e0.bs b o e).1
  have lim : s.heap.NoLimit := e0.mod.nolimit.keeps fun b o e => (e0.bs b o e).1
  have hkind : ∀ y ∈ ps.zip us, scope.names.lookup y.1 = some .local ∨ (scope.names.lookup y.1 = some .cell ∧ ((cellsFrom (s.heap.objs.size + 1) scope.names []).lookup y.1).isSome = true) := fun ⟨n, v⟩ hy => by
    rcases S.par n (List.of_mem_zip hy).1 with q | q
    · exact .inl q
    · exact .inr ⟨q, PySem.W.cellsFrom_some _ _ _ (.inl q)⟩
  refine codeAny_call_function hr.depth (KX _ _ lk) rfl S.co S.gen rfl (PySem.W.codeRec_of KX hcd) (hb _ _ _ _ ?_)
  refine wpAny_newFunctionEnv_cells S.kind hkind fun env he s1 x => ?_
  subst he
  refine ⟨lim.keeps x.toInCall.keep, codeAny_func ?_⟩
  obtain ⟨t, ht, hq⟩ := hbody A outer s H vs Q E (hr.deeper _) hsp
  have I : Inv (cxOf CX cm P w K mg base N qual scope f cdv A outer s H E) [] (start N vs) H s1 := inv_start S hr.hd e0 hl r x
  refine wpAny_mono (ht [] s1 (start N vs) H _ I hq) (fun fl s' hs => ?_) fun e s' hs => hs
  have fin : ∀ {σ' : St} {H' : Hp} {v : V} {u : Value}, Inv (cxOf CX cm P w K mg base N qual scope f cdv A outer s H E) [] σ' H' s' → RelV v u → Q v H' → CE outer P w H s Q u s' :=
    fun {σ' H' v u} J rv q => ⟨v, H', J.os, J.bare, J.base, J.hok, rv, q⟩
  cases fl with
  | ret u =>
    obtain ⟨v, σ', H', J, rv, q⟩ := hs
    exact fin J rv q
  | next =>
    obtain ⟨σ', H', J, q⟩ := hs
    exact fin (v := V.non) (u := Value.none) J rfl q
  | brk =>
    obtain ⟨_, _, _, q⟩ := hs
    exact False.elim q
  | cont =>
    obtain ⟨_, _, _, q⟩ := hs
    exact False.elim q
end L2

namespace L2
open PySem PySem.Spec PyProof.Rows
section
variable {X : Cx} {x : Str} {p pos : Pos} {e : Expr} {es : List Expr} {t : TA} {id T : String} {r : List V → Hp → VK → Prop}

def tCB (r : List V → Hp → VK → Prop) (t : TA) : TE := fun σ H Q => t σ H fun vs H1 => r vs H1 Q
/-- f(e, ..), f a built-in function -/
theorem pe_callB (hc : CallR X (.builtin id) r) (hg : Gl X x) (hm : X.mg x = none) (hv : bootBuiltins x = some (.builtin id)) (ha : PA X (e :: es) t) (hn : x ≠ "__name__" := by decide) (hdb : (x == ("__debug__" : Str)) = false := by decide)
    (he : starEach (e :: es) X.env = (false, eval e X.env) :: starEach es X.env := by rfl) (hpl : (backTo pos (starEach es X.env)).any (·.1) = false := by rfl) : PE X (.Call (.Name x p) (e :: es) [] pos) (tCB r t) := by
  intro pins s σ H Q I h
  refine wpAny_Call_Name_kw (ld_blt I hg hm hv ?_ hn hdb)
  exact PyProof.Rows.callWith_builtin1 (thn (ha pos pins s σ H _ I h) fun us s1 ⟨vs, H1, I1, r1, q1⟩ => hc pins s1 σ H1 vs us Q I1 r1 q1) he hpl
/-- T(e, ..), T a built-in type -/
theorem pe_callTy (hc : CallR X (.type T) r) (hg : Gl X x) (hm : X.mg x = none) (hv : bootBuiltins x = some (.type T)) (ha : PA X (e :: es) t) (hn : x ≠ "__name__" := by decide) (hdb : (x == ("__debug__" : Str)) = false := by decide)
    (he : starEach (e :: es) X.env = (false, eval e X.env) :: starEach es X.env := by rfl) (hpl : (backTo pos (starEach es X.env)).any (·.1) = false := by rfl) : PE X (.Call (.Name x p) (e :: es) [] pos) (tCB r t) := by
  intro pins s σ H Q I h
  refine wpAny_Call_Name_kw (ld_blt I hg hm hv ?_ hn hdb)
  exact PyProof.Rows.callWith_type1 (thn (ha pos pins s σ H _ I h) fun us s1 ⟨vs, H1, I1, r1, q1⟩ => hc pins s1 σ H1 vs us Q I1 r1 q1) he hpl
end
end L2

namespace HT
open PySem PyProof.Rows

section
open PySem.SeqAt
open PySem.AutoSeq1 (wpAny_loadPart')
open PySem.MeetsSeq PySem.MeetsSeq2 PySem.MeetsSeq3

end

section
variable {prog : Program} {w : World} {A : Around} {E : Value → Shared → Prop} {s : Shared}

/-- t + u, t not empty -/
theorem cat_tup {t b : Addr} {vs ws : List Value} {Q : Value → Shared → Prop} (ht : IsTup s.heap t vs.toArray) (hb : IsTup s.heap b ws.toArray) (hv : vs ≠ [])
    (h1 : ws = [] → Q (.ref t) s) (h2 : ws ≠ [] → Q (.ref s.heap.objs.size) { s with heap := s.heap.push { cls := .type "tuple", data := .seq (vs ++ ws).toArray } })
    (hsz : vs.length + ws.length ≤ sizeLine) : wpAny (model prog w) A (binaryOp .Add (.ref t) (.ref b)) Q E s := by
  obtain ⟨⟨cls, dd, data, sl⟩, ho, hc, n, hd⟩ := id ht
  obtain ⟨⟨cls2, dd2, data2, sl2⟩, ho2, hc2, n2, hd2⟩ := id hb
  simp only at hc hd hc2 hd2
  subst hc hd hc2 hd2
  have e : vs.toArray ++ ws.toArray = (vs ++ ws).toArray := by simp
  by_cases hw : ws = []
  · exact concat_meets ⟨_, ho, rfl⟩ ⟨_, ho2, rfl⟩ noFill_tuple_add seq_tuple_add PySem.F.slot_tuple_add PySem.F.entry_tuple_add (PySem.F.args_tuple_add_2 _ _)
      (tuple_addW1 t b vs.toArray ws.toArray n n2 dd dd2 sl sl2 (by simpa using hv) (by simp [hw])) ⟨ho, ho2, h1 hw⟩
  · refine concat_meets ⟨_, ho, rfl⟩ ⟨_, ho2, rfl⟩ noFill_tuple_add seq_tuple_add PySem.F.slot_tuple_add PySem.F.entry_tuple_add (PySem.F.args_tuple_add_2 _ _)
      (tuple_addW2 t b vs.toArray ws.toArray n n2 dd dd2 sl sl2 (by simpa using hv) (by simpa using hw) (by rw [List.size_toArray, List.size_toArray]; exact hsz)) ⟨ho, ho2, ?_⟩
    rw [e]
    exact h2 hw

/-! ### t[a:b], not the whole -/
/-- a slice's bound as a place among n (d where it is left out) -/
def sIx (n d : Nat) : Option Int → Nat
  | none => d
  | some v => if v < 0 then (v + (n : Int)).toNat else min v.toNat n
theorem sIx_le (n d : Nat) (hd : d ≤ n) (o : Option Int) : sIx n d o ≤ n := by
  cases o with
  | none => exact hd
  | some v =>
    show (if v < 0 then (v + (n : Int)).toNat else min v.toNat n) ≤ n
    by_cases hv : v < 0
    · rw [if_pos hv]; omega
    · rw [if_neg hv]; exact Nat.min_le_right _ _
theorem clip_eq (v : Int) (n d : Nat) : (if v < 0 then max (v + (n : Int)) 0 else min v (n : Int)) = ((sIx n d (some v) : Nat) : Int) := by
  show (if v < 0 then max (v + (n : Int)) 0 else min v (n : Int)) = (((if v < 0 then (v + (n : Int)).toNat else min v.toNat n) : Nat) : Int)
  by_cases hv : v < 0
  · simp only [if_pos hv]; omega
  · simp only [if_neg hv]; omega
theorem adjust_gen (lo hi : Option Int) (n : Nat) : Builtin.Slice.sliceAdjust lo hi 1 (n : Int) = (((sIx n 0 lo : Nat) : Int), ((sIx n n hi : Nat) : Int)) := by
  have h1 : ¬ ((1 : Int) < 0) := by omega
  unfold Builtin.Slice.sliceAdjust
  simp only [h1, if_false]
  refine Prod.ext ?_ ?_
  · cases lo with
    | none => rfl
    | some v => exact clip_eq v n 0
  · cases hi with
    | none => rfl
    | some v => exact clip_eq v n n
theorem places_gen (i j : Nat) : Builtin.Slice.slicePlaces (i : Int) (j : Int) 1 = j - i := by
  unfold Builtin.Slice.slicePlaces
  have h1 : (1 : Int) > 0 := by omega
  simp only [h1, if_true, Int.ediv_one]
  split <;> omega
theorem slicePart_ {v : Value} {o : Option Int} {Q : Option Int → Shared → Prop} (p : IsPart v o) (h : Q o s) : wpAny (model prog w) A (Builtin.Slice.slicePartIndex v) Q E s := by
  cases p with
  | none => exact slicePart_none h
  | int i t => exact slicePart_int h
theorem sliceApplied_gen {sl : Addr} {vl vu : Value} {lo hi : Option Int} {n : Nat} {Q : Int × Int × Nat → Shared → Prop} (hs : s.heap.IsSliceOf sl vl vu .none) (pl : IsPart vl lo) (pu : IsPart vu hi)
    (h : Q (((sIx n 0 lo : Nat) : Int), 1, sIx n n hi - sIx n 0 lo) s) : wpAny (model prog w) A (Builtin.Slice.sliceApplied (.ref sl) (pure (n : Int))) Q E s := by
  obtain ⟨os, hos, hcs, hds⟩ := id hs
  unfold Builtin.Slice.sliceApplied Builtin.Slice.sliceFields
  refine wpAny_bind (wpAny_bind (wpAny_field hos hds (x := vl) rfl (wpAny_bind (wpAny_field hos hds (x := vu) rfl (wpAny_bind (wpAny_field hos hds (x := .none) rfl (wpAny_pure ?_)))))))
  refine wpAny_bind (slicePart_none ?_)
  show wpAny _ _ (if ((1 : Int) == 0) = true then _ else _) _ _ s
  rw [if_neg (by decide)]
  refine wpAny_bind (slicePart_ pl (wpAny_bind (slicePart_ pu (wpAny_bind (wpAny_pure ?_)))))
  show wpAny _ _ (match Builtin.Slice.sliceAdjust lo hi 1 (n : Int) with | (lo, hi) => pure (lo, (1 : Int), Builtin.Slice.slicePlaces lo hi 1)) _ _ s
  rw [adjust_gen lo hi n]
  show wpAny _ _ (pure (((sIx n 0 lo : Nat) : Int), (1 : Int), Builtin.Slice.slicePlaces ((sIx n 0 lo : Nat) : Int) ((sIx n n hi : Nat) : Int) 1)) _ _ s
  rw [places_gen]
  exact wpAny_pure h
theorem pick_gen (xs : Array Value) (i k : Nat) : ((List.range k).filterMap fun (m : Nat) => xs[((i : Int) + (m : Int) * 1).toNat]?).toArray = ((xs.toList.drop i).take k).toArray := by
  have e : (fun (m : Nat) => xs[((i : Int) + (m : Int) * 1).toNat]?) = fun m => xs[i + m]? := by
    funext m
    have : ((i : Int) + (m : Int) * 1).toNat = i + m := by omega
    rw [this]
  rw [e]
  have := pick_run xs i k
  rw [List.filterMap_map] at this
  have e2 : ((fun x => xs[x]?) ∘ fun x => i + x) = fun m => xs[i + m]? := rfl
  rw [e2] at this
  rw [this]

theorem getItem_tuple_cut {t sl : Addr} {items : Array Value} {vl vu : Value} {lo hi : Option Int} {Q : Value → Shared → Prop} (ht : IsTup s.heap t items) (hs : s.heap.IsSliceOf sl vl vu .none) (pl : IsPart vl lo) (pu : IsPart vu hi)
    (hw : ¬ (sIx items.size 0 lo = 0 ∧ sIx items.size items.size hi = items.size))
    (h : Q (.ref s.heap.objs.size) { s with heap := s.heap.push { cls := .type "tuple", data := .seq ((items.toList.drop (sIx items.size 0 lo)).take (sIx items.size items.size hi - sIx items.size 0 lo)).toArray } })
    (hsz : items.size ≤ sizeLine) : wpAny (model prog w) A (getItem (.ref t) (.ref sl)) Q E s := by
  have htake : sizeOk (.seq ((items.toList.drop (sIx items.size 0 lo)).take (sIx items.size items.size hi - sIx items.size 0 lo)).toArray) := by
    show ((items.toList.drop (sIx items.size 0 lo)).take (sIx items.size items.size hi - sIx items.size 0 lo)).toArray.size ≤ sizeLine
    rw [List.size_toArray, List.length_take, List.length_drop, Array.length_toList]
    omega
  have hj : sIx items.size items.size hi ≤ items.size := sIx_le _ _ (Nat.le_refl _) hi
  obtain ⟨os, hos, hcs, hds⟩ := id hs
  have hTs : s.TypeIs (.ref sl) "slice" := ⟨os, hos, hcs⟩
  unfold getItem
  try with_reducible refine wpAny_holding ?_
  first | refine wpAny_bind (wpAny_pure ?_) | skip
  refine wpAny_bind (wpAny_sequenceKey ht.typeIs (by decide) ?_)
  refine wpAny_bind (wpAny_callSpecial?_slot (name := Str.ofString "__getitem__") ht.typeIs PyProof.Rows.slot_tuple_getitem
    (wpAny_call_entry PyProof.Rows.slot_tuple_getitem ht.typeIs entry_tuple_getitem ?_ (args_tuple_getitem _ _)))
  show wpAny _ _ (Builtin.Tuple.tupleItemsOf (.ref t) >>= _) _ _ s
  refine wpAny_bind (tupleItemsOf_ ht ?_)
  refine wpAny_bind (wpAny_typeOf hTs ?_)
  rw [if_pos (by decide)]
  refine wpAny_bind (sliceApplied_gen hs pl pu ?_)
  have hno : ¬ ((((sIx items.size 0 lo : Nat) : Int) == 0 && (1 : Int) == 1 && (sIx items.size items.size hi - sIx items.size 0 lo) == items.size) = true) := by
    intro q
    rw [Bool.and_eq_true, Bool.and_eq_true] at q
    have q1 : ((sIx items.size 0 lo : Nat) : Int) = 0 := eq_of_beq q.1.1
    have q2 : sIx items.size items.size hi - sIx items.size 0 lo = items.size := eq_of_beq q.2
    exact hw ⟨by omega, by omega⟩
  show wpAny _ _ (if (((sIx items.size 0 lo : Nat) : Int) == 0 && (1 : Int) == 1 && (sIx items.size items.size hi - sIx items.size 0 lo) == items.size) = true then _ else _) _ _ s
  rw [if_neg hno, pick_gen]
  first
    | exact wpAny_bind (m := Builtin.Tuple.tupleExact _) (wpAny_newObj_type (wpAny_pure ⟨_, rfl, wpAny_pure h⟩) htake)
    | exact wpAny_bind (m := Builtin.Tuple.tupleExact _) (wpAny_newObj_type (wpAny_bind (wpAny_pure (wpAny_pure ⟨_, rfl, wpAny_pure h⟩))) htake)
    | exact wpAny_bind (wpAny_bind (m := Builtin.Tuple.tupleExact _) (wpAny_newObj_type (wpAny_pure (wpAny_pure ⟨_, rfl, wpAny_pure h⟩)) htake))
    | exact wpAny_bind (wpAny_bind (m := Builtin.Tuple.tupleExact _) (wpAny_newObj_type (wpAny_pure ⟨_, rfl, wpAny_pure h⟩) htake))
end
end HT

namespace L2
open PySem PySem.Spec PyProof.Rows

/-! ### the parts of a slice -/
abbrev TO := St → Hp → (Option Int → Hp → Prop) → Prop
/-- a slice's part (left out, or an int) -/
def PO (X : Cx) (e : Option Expr) (t : TO) : Prop :=
  ∀ (pins : List (Addr × Obj)) (s : Shared) (σ : St) (H : Hp) (Q : Option Int → Hp → Prop), Inv X pins σ H s → t σ H Q →
    wpAny (model X.prog X.w) X.A (evalPart e X.env) (fun u s' => ∃ o H', Inv X pins σ H' s' ∧ IsPart u o ∧ Q o H') X.xe s
def tNoPart : TO := fun _ H Q => Q none H
def tPart (t : TE) : TO := fun σ H Q => t σ H fun x H1 => ∃ i, x = .int i ∧ Q (some i) H1

section
variable {X : Cx} {e : Expr} {te : TE} {lo hi : Option Expr} {tl th : TO} {pos p2 : Pos}

theorem po_none : PO X none tNoPart := by
  intro pins s σ H Q I h
  rw [evalPart_none]
  exact wpAny_pure ⟨none, H, I, .none, h⟩
theorem po_some (h : PE X e te) : PO X (some e) (tPart te) := by
  intro pins s σ H Q I hw
  rw [evalPart_some]
  refine thn (h pins s σ H _ I hw) fun u s1 ⟨x, H1, I1, r1, q1⟩ => ?_
  obtain ⟨i, rfl, q⟩ := q1
  obtain ⟨t, rfl⟩ := r1
  exact ⟨some i, H1, I1, .int i t, q⟩

/-- what a slice of a value is, by values: the slice object stands at sl -/
def SlR (X : Cx) (r : V → Option Int → Option Int → Hp → VK → Prop) : Prop :=
  ∀ (pins : List (Addr × Obj)) (s : Shared) (σ : St) (H : Hp) (x : V) (v vl vu : Value) (lo hi : Option Int) (sl : Addr) (Q : VK), Inv X pins σ H s → RelV x v → s.heap.IsSliceOf sl vl vu .none → IsPart vl lo → IsPart vu hi → r x lo hi H Q →
    ∃ T id, typeLookup (.type T) "__getitem__" = pure (some (.builtin id)) ∧ s.TypeIs v T ∧ wpAny (model X.prog X.w) X.A (getItem v (.ref sl)) (EP X pins σ Q) X.xe s
theorem SlR.or {r r' : V → Option Int → Option Int → Hp → VK → Prop} (h : SlR X r) (h' : SlR X r') : SlR X (fun x lo hi H Q => r x lo hi H Q ∨ r' x lo hi H Q) := by
  intro pins s σ H x v vl vu lo hi sl Q I rx hs pl pu q
  rcases q with q | q
  · exact h pins s σ H x v vl vu lo hi sl Q I rx hs pl pu q
  · exact h' pins s σ H x v vl vu lo hi sl Q I rx hs pl pu q
def tSl (r : V → Option Int → Option Int → Hp → VK → Prop) (te : TE) (tl th : TO) : TE := fun σ H Q => te σ H fun x H1 => tl σ H1 fun l H2 => th σ H2 fun u H3 => r x l u H3 Q
/-- a[lo:hi], any a -/
theorem pe_slice {r : V → Option Int → Option Int → Hp → VK → Prop} (hr : SlR X r) (he : PE X e te) (hl : PO X lo tl) (hu : PO X hi th) : PE X (.Subscript e (.Slice lo hi none p2) pos) (tSl r te tl th) := by
  intro pins s σ H Q I h
  refine Subscript_ (thn (he pins s σ H _ I h) fun v s1 ⟨x, H1, I1, r1, q1⟩ => ?_)
  refine wpAny_Slice (thn (hl pins s1 σ H1 _ I1 q1) fun vl s2 ⟨l, H2, I2, pl, q2⟩ => thn (hu pins s2 σ H2 _ I2 q2) fun vu s3 ⟨u, H3, I3, pu, q3⟩ => ?_)
  rw [evalPart_none]
  refine wpAny_pure ?_
  have I4 : Inv X pins σ H3 { s3 with heap := s3.heap.push { cls := .type "slice", data := .fields #[vl, vu, .none] } } := I3.kept (t' := s3.toks) fun b ob q => Heap.get?_push_of_some _ q
  obtain ⟨T, id, hT, ht, hg⟩ := hr pins { s3 with heap := s3.heap.push { cls := .type "slice", data := .fields #[vl, vu, .none] } } σ H3 x v vl vu l u s3.heap.objs.size Q I4 r1 (Heap.IsSliceOf.new ..) pl pu q3
  show wpAny (model X.prog X.w) X.A (subscriptTail e (.Slice lo hi none p2) v (.ref s3.heap.objs.size)) (EP X pins σ Q) X.xe { s3 with heap := s3.heap.push { cls := .type "slice", data := .fields #[vl, vu, .none] } }
  exact tail_any (ops := [.ref s3.heap.objs.size, v]) ht hT hg (by with_unfolding_all rfl)

/-- the items of xs[lo:hi] -/
def cutV (xs : List V) (lo hi : Option Int) : List V := (xs.drop (HT.sIx xs.length 0 lo)).take (HT.sIx xs.length xs.length hi - HT.sIx xs.length 0 lo)
theorem cutV_length (xs : List V) (lo hi : Option Int) : (cutV xs lo hi).length ≤ xs.length := by
  unfold cutV
  rw [List.length_take, List.length_drop]
  omega
/-- t[lo:hi], not the whole of it (the whole would be t itself) -/
def rSlT (K : PySem.W.Frag) : V → Option Int → Option Int → Hp → VK → Prop := fun x lo hi H Q => ∃ a xs, x = .ref a ∧ SqT K H a xs ∧
  ¬ (HT.sIx xs.length 0 lo = 0 ∧ HT.sIx xs.length xs.length hi = xs.length) ∧ ∀ p, H p = none → Q (.ref p) (upd H p (.tup (cutV xs lo hi)))
theorem sl_tup : SlR X (rSlT X.K) := by
  intro pins s σ H x v vl vu lo hi sl Q I rx hs pl pu h
  obtain ⟨a, xs, rfl, hx, hw, q⟩ := h
  cases rx
  obtain ⟨its, r, ht, hz⟩ := I.tuple hx
  have hlen : its.toArray.size = xs.length := by rw [List.size_toArray]; exact r.length.symm
  refine ⟨"tuple", _, PyProof.Rows.slot_tuple_getitem.lookup, ht.typeIs, ?_⟩
  refine HT.getItem_tuple_cut ht hs pl pu (by rw [hlen]; exact hw) ?_ (by rw [hlen]; exact hz)
  rw [hlen]
  refine ⟨.ref s.heap.objs.size, _, I.laid (t' := s.toks) (o := .tup (cutV xs lo hi)) (fun b ob q => Heap.get?_push_of_some _ q) (Nat.le_refl _) ?_, rfl, q _ (I.hok.fresh (Nat.le_refl _))⟩
  exact ⟨Nat.le_trans (cutV_length xs lo hi) hz, _, (r.drop (HT.sIx xs.length 0 lo)).take (HT.sIx xs.length xs.length hi - HT.sIx xs.length 0 lo), IsTup.new _ _⟩

/-! ### t < u, t + u -/
/-- t + u, t not empty: u empty gives t itself -/
def rCatT (K : PySem.W.Frag) : R2 := fun x y H Q => ∃ a b xs ys, x = .ref a ∧ y = .ref b ∧ SqT K H a xs ∧ SqT K H b ys ∧ xs ≠ [] ∧ xs.length + ys.length ≤ sizeLine ∧
  (ys = [] → Q (.ref a) H) ∧ (ys ≠ [] → ∀ p, H p = none → Q (.ref p) (upd H p (.tup (xs ++ ys))))
theorem Vals.nil_iff {xs : List V} {us : List Value} (r : Vals xs us) : us = [] ↔ xs = [] := by
  cases r with
  | nil => simp
  | cons _ _ => simp
theorem op_catT : OpR X (binaryOp .Add) (rCatT X.K) := by
  intro pins s σ H x y v u Q I rx ry h
  obtain ⟨a, b, xs, ys, rfl, rfl, ha, hb, hx, hz, q1, q2⟩ := h
  cases rx
  cases ry
  obtain ⟨its, r1, p1, _⟩ := I.tuple ha
  obtain ⟨its2, r2, p2, _⟩ := I.tuple hb
  refine HT.cat_tup p1 p2 (fun z => hx (r1.nil_iff.mp z)) (fun z => ⟨.ref a, H, I, rfl, q1 (r2.nil_iff.mp z)⟩) (fun z => ?_) (by rw [← r1.length, ← r2.length]; exact hz)
  refine ⟨.ref s.heap.objs.size, _, I.laid (t' := s.toks) (o := .tup (xs ++ ys)) (fun b ob q => Heap.get?_push_of_some _ q) (Nat.le_refl _) ?_, rfl, q2 (fun w => z (r2.nil_iff.mpr w)) _ (I.hok.fresh (Nat.le_refl _))⟩
  exact ⟨by rw [List.length_append]; exact hz, _, r1.append r2, IsTup.new _ _⟩
end
end L2

namespace L2
open PySem PySem.Spec PyProof.Rows

/-! ### places -/
/-- the place that an index of any sign means -/
def ixN (n : Nat) (i : Int) : Option Nat := if 0 ≤ i then (if i < n then some i.toNat else none) else if -(n : Int) ≤ i then some (i + n).toNat else none
def atI {α : Type} (xs : List α) (i : Int) : Option α := (ixN xs.length i).bind fun j => xs[j]?
theorem ixN_seq {n : Nat} {i : Int} {j : Nat} (h : ixN n i = some j) : seqIndex? i n = some j ∧ j < n ∧ -(n : Int) ≤ i ∧ i < n := by
  unfold ixN at h
  by_cases h0 : 0 ≤ i
  · rw [if_pos h0] at h
    by_cases h1 : i < n
    · rw [if_pos h1] at h
      have e : i.toNat = j := Option.some.inj h
      exact ⟨by rw [seqIndex_of h0 h1, e], by omega, by omega, h1⟩
    · rw [if_neg h1] at h; cases h
  · rw [if_neg h0] at h
    by_cases h1 : -(n : Int) ≤ i
    · rw [if_pos h1] at h
      have e : (i + n).toNat = j := Option.some.inj h
      exact ⟨by rw [seqIndex_neg (by omega) h1, e], by omega, h1, by omega⟩
    · rw [if_neg h1] at h; cases h
theorem atI_get {α : Type} {xs : List α} {i : Int} {v : α} (h : atI xs i = some v) : ∃ j, seqIndex? i xs.length = some j ∧ xs[j]? = some v ∧ j < xs.length ∧ -(xs.length : Int) ≤ i ∧ i < xs.length := by
  unfold atI at h
  cases e : ixN xs.length i with
  | none => rw [e] at h; cases h
  | some j =>
    rw [e] at h
    obtain ⟨h1, h2, h3, h4⟩ := ixN_seq e
    exact ⟨j, h1, h, h2, h3, h4⟩
theorem atI_nat {α : Type} {xs : List α} {j : Nat} {v : α} (h : xs[j]? = some v) : atI xs (j : Int) = some v := by
  have hj : j < xs.length := (List.getElem?_eq_some_iff.mp h).1
  have e : ixN xs.length (j : Int) = some j := by
    unfold ixN
    rw [if_pos (by omega), if_pos (by omega)]; simp
  unfold atI; rw [e]; exact h
/-! ### what may be subscripted -/
/-- what stands as an index of a plain subscript -/
def PlainIx (b : Expr) : Prop := ∀ o i, subscripted b false o i = operate [o, i] (getItem o i)
/-- a subscript by values -/
def IxR (X : Cx) (r : R2) : Prop :=
  ∀ (value slice : Expr) (pins : List (Addr × Obj)) (s : Shared) (σ : St) (H : Hp) (x y : V) (v u : Value) (Q : VK), Inv X pins σ H s → RelV x v → RelV y u → r x y H Q →
    subscripted slice false v u = operate [v, u] (getItem v u) → wpAny (model X.prog X.w) X.A (subscriptTail value slice v u) (EP X pins σ Q) X.xe s
/-- a call of a builtin's method by values: the receiver, the arguments -/
def MtR (X : Cx) (id : String) (r : V → List V → Hp → VK → Prop) : Prop :=
  ∀ (pins : List (Addr × Obj)) (s : Shared) (σ : St) (H : Hp) (x : V) (xs : List V) (v : Value) (us : List Value) (Q : VK), Inv X pins σ H s → RelV x v → Vals xs us → r x xs H Q →
    wpAny (model X.prog X.w) X.A (call (.builtin id) (v :: us)) (EP X pins σ Q) X.xe s
section
variable {X : Cx} {a b : Expr} {ta tb : TE} {pos : Pos}
theorem IxR.or {r r' : R2} (h : IxR X r) (h' : IxR X r') : IxR X (fun x y H Q => r x y H Q ∨ r' x y H Q) := by
  intro value slice pins s σ H x y v u Q I rx ry q hs
  rcases q with q | q
  · exact h value slice pins s σ H x y v u Q I rx ry q hs
  · exact h' value slice pins s σ H x y v u Q I rx ry q hs
theorem MtR.or {id : String} {r r' : V → List V → Hp → VK → Prop} (h : MtR X id r) (h' : MtR X id r') : MtR X id (fun x xs H Q => r x xs H Q ∨ r' x xs H Q) := by
  intro pins s σ H x xs v us Q I rx rs q
  rcases q with q | q
  · exact h pins s σ H x xs v us Q I rx rs q
  · exact h' pins s σ H x xs v us Q I rx rs q
/-- a[b] -/
theorem pe_ix {r : R2} (hr : IxR X r) (ha : PE X a ta) (hb : PE X b tb) (hs : PlainIx b) : PE X (.Subscript a b pos) (tOp r ta tb) := by
  intro pins s σ H Q I h
  exact Subscript_ (binT ha hb I h fun v u s2 x y H2 I2 rx ry q => hr a b pins s2 σ H2 x y v u Q I2 rx ry q (hs _ _))

def rIxL (K : PySem.W.Frag) : R2 := fun x y H Q => ∃ p xs i v, x = .ref p ∧ y = .int i ∧ SqL K H p xs ∧ atI xs i = some v ∧ Q v H
def rIxT (K : PySem.W.Frag) : R2 := fun x y H Q => ∃ p xs i v, x = .ref p ∧ y = .int i ∧ SqT K H p xs ∧ atI xs i = some v ∧ Q v H
def rIxS : R2 := fun x y H Q => ∃ z i c, x = .str z ∧ y = .int i ∧ z.length ≤ sizeLine ∧ atI z.cps.toList i = some c ∧ Q (.str ⟨#[c]⟩) H
theorem ix_list : IxR X (rIxL X.K) := by
  intro value slice pins s σ H x y v u Q I rx ry h hs
  obtain ⟨p, xs, i, z, rfl, rfl, hq, he, q⟩ := h
  cases rx
  obtain ⟨t, rfl⟩ := ry
  obtain ⟨its, r, pl, hz⟩ := I.list hq
  obtain ⟨j, h1, h2, h3, h4, h5⟩ := atI_get he
  obtain ⟨w, ew, rw'⟩ := r.get h2
  have hl := r.length
  have hn := line63
  have fin : EP X pins σ Q w s := ⟨z, H, I, rw', q⟩
  by_cases h0 : 0 ≤ i
  · have hj : i.toNat = j := by
      rw [seqIndex_of h0 h5] at h1
      exact Option.some.inj h1
    exact item_listR pl.isList h0 (by omega) (by rw [hj]; simpa using ew) fin hs
  · have hj : (i + (its.toArray.size : Int)).toNat = j := by
      rw [seqIndex_neg (by omega) h4] at h1
      rw [List.size_toArray, ← hl]
      exact Option.some.inj h1
    exact subscriptTail_builtinR (x := w) pl.isList.typeIs slot_list_getitem.lookup
      (wpAny_getItem_list_neg (Q := fun r s' => r = w ∧ EP X pins σ Q r s') pl.isList (by omega) (by rw [List.size_toArray] <;> omega) (by omega) (by rw [hj]; simpa using ew) ⟨rfl, fin⟩) hs
theorem ix_tup : IxR X (rIxT X.K) := by
  intro value slice pins s σ H x y v u Q I rx ry h hs
  obtain ⟨p, xs, i, z, rfl, rfl, hq, he, q⟩ := h
  cases rx
  obtain ⟨t, rfl⟩ := ry
  obtain ⟨its, r, pl, hz⟩ := I.tuple hq
  obtain ⟨j, h1, h2, h3, h4, h5⟩ := atI_get he
  obtain ⟨w, ew, rw'⟩ := r.get h2
  have hl := r.length
  have hn := line63
  have fin : EP X pins σ Q w s := ⟨z, H, I, rw', q⟩
  exact subscriptTail_builtinR (x := w) pl.typeIs slot_tuple_getitem.lookup
    (getItem_tuple (j := j) (Q := fun r s' => r = w ∧ EP X pins σ Q r s') pl (by omega) (by omega) (by rw [List.size_toArray, ← hl]; exact h1) (by simpa using ew) ⟨rfl, fin⟩) hs
theorem ix_str : IxR X rIxS := by
  intro value slice pins s σ H x y v u Q I rx ry h hs
  obtain ⟨z, i, c, rfl, rfl, hz, he, q⟩ := h
  obtain ⟨t, rfl⟩ := rx
  obtain ⟨t', rfl⟩ := ry
  obtain ⟨j, h1, h2, h3, h4, h5⟩ := atI_get he
  have hl : z.cps.toList.length = z.length := by simp [Str.length]
  rw [hl] at h1 h4 h5
  have hn := line63
  exact tail_any (typeIs_str s z t) slot_str_getitem.lookup (getItem_str (c := c) (by
    have e1 : decide (i < -(2 ^ 63 : Int)) = false := decide_eq_false (by omega)
    have e2 : decide (i ≥ 2 ^ 63) = false := decide_eq_false (by omega)
    rw [e1, e2, Bool.or_false]) (by rw [h1]; simpa using h2) ⟨.str ⟨#[c]⟩, H, I.tok _, ⟨_, rfl⟩, q⟩) hs
/-- list, tuple or str -/
def rIx (K : PySem.W.Frag) : R2 := fun x y H Q => rIxL K x y H Q ∨ rIxT K x y H Q ∨ rIxS x y H Q
theorem ix_seq : IxR X (rIx X.K) := ix_list.or (ix_tup.or ix_str)

/-! ### xs[i] = v, any sign -/
/-- the list's object behind a store -/
theorem mapSeq_set (its : List Value) (n j : Nat) (u : Value) : Obj.mapSeq (·.setIfInBounds j u) { cls := .type "list", data := .seq its.toArray n } = { cls := .type "list", data := .seq (its.set j u).toArray n } := by
  simp [Obj.mapSeq]
theorem Inv.lst {pins : List (Addr × Obj)} {σ : St} {H : Hp} {s : Shared} {p : Addr} {xs : List V} (I : Inv X pins σ H s) (h : H p = some (.lst xs)) :
    ∃ (its : List Value) (n : Nat), Vals xs its ∧ s.heap.get? p = some { cls := .type "list", data := .seq its.toArray n } ∧ xs.length ≤ sizeLine := by
  obtain ⟨z, its, n, r, e⟩ := I.hok p _ h
  exact ⟨its, n, r, e, z⟩
/-- the list at p is written by an update of its object -/
theorem Inv.lstUpd {pins : List (Addr × Obj)} {σ : St} {H : Hp} {s : Shared} {p : Addr} {xs ys : List V} {its its' : List Value} {n n' : Nat} {f : Obj → Obj} (I : Inv X pins σ H s) (h : H p = some (.lst xs))
    (ho : s.heap.get? p = some { cls := .type "list", data := .seq its.toArray n }) (hf : f { cls := .type "list", data := .seq its.toArray n } = { cls := .type "list", data := .seq its'.toArray n' }) (r : Vals ys its') (hz : ys.length ≤ sizeLine) (t : Nat) :
    Inv X pins σ (upd H p (.lst ys)) { s with heap := s.heap.update p f, toks := t } := by
  have e : (s.heap.update p f).get? p = some { cls := .type "list", data := .seq its'.toArray n' } := by
    rw [Heap.get?_update_self f ho (by rw [hf] <;> rfl), hf]
  refine I.write (x := p) (e := p) (by rw [h]; trivial) (.inl rfl) (fun b u hb q => (Heap.get?_update_other _ _ (Ne.symm hb)).trans q) ⟨_, e⟩ ?_
  exact ⟨hz, its', n', r, e⟩
def rSetL : V → V → V → Hp → (Hp → Prop) → Prop := fun o i v H Q => ∃ p xs k j, o = .ref p ∧ i = .int k ∧ H p = some (.lst xs) ∧ ixN xs.length k = some j ∧ Q (upd H p (.lst (xs.set j v)))
theorem set_list : PSet X rSetL := by
  intro pins s σ H o i v ov iv u Q I ro ri rv h
  obtain ⟨p, xs, k, j, rfl, rfl, hp, hj, q⟩ := h
  cases ro
  obtain ⟨t, rfl⟩ := ri
  obtain ⟨its, n, r, ho, hz⟩ := I.lst hp
  obtain ⟨h1, h2, h3, h4⟩ := ixN_seq hj
  have hl := r.length
  have hn := line63
  have I' : Inv X pins σ (upd H p (.lst (xs.set j v))) { s with heap := s.heap.update p (Obj.mapSeq (·.setIfInBounds j u)) } :=
    I.lstUpd hp ho (mapSeq_set its n j u) (r.set rv j) (by rw [List.length_set]; exact hz) s.toks
  by_cases h0 : 0 ≤ k
  · have hk : k.toNat = j := by
      rw [seqIndex_of h0 h4] at h1
      exact Option.some.inj h1
    exact PySem.W.ki_setAt ho h0 (by omega) (by rw [List.size_toArray, ← hl]; exact h4) (by rw [hk]; exact ⟨_, I', q⟩)
  · have hk : (k + (its.toArray.size : Int)).toNat = j := by
      rw [seqIndex_neg (by omega) h3] at h1
      rw [List.size_toArray, ← hl]
      exact Option.some.inj h1
    exact PySem.W.ki_setBack ho (by omega) (by rw [List.size_toArray, ← hl]; exact h3) (by omega) (by rw [hk]; exact ⟨_, I', q⟩)

/-! ### slices -/
theorem slice_bounds (lo hi : Option Int) (n : Nat) : (sliceBounds lo hi none n).1 = ((HT.sIx n 0 lo : Nat) : Int) ∧ (sliceBounds lo hi none n).2.1 = ((HT.sIx n n hi : Nat) : Int) ∧ (sliceBounds lo hi none n).2.2 = 1 := by
  refine ⟨?_, ?_, rfl⟩
  · cases lo with
    | none => simp [sliceBounds, HT.sIx]
    | some i =>
      simp only [sliceBounds, HT.sIx, Option.getD_none, show (1 : Int) > 0 by decide, if_true]
      by_cases h : i < 0
      · simp only [h, if_true] <;> omega
      · simp only [h, if_false] <;> omega
  · cases hi with
    | none => simp [sliceBounds, HT.sIx]
    | some i =>
      simp only [sliceBounds, HT.sIx, Option.getD_none, show (1 : Int) > 0 by decide, if_true]
      by_cases h : i < 0
      · simp only [h, if_true] <;> omega
      · simp only [h, if_false] <;> omega
theorem slicePick_cut (its : List Value) (lo hi : Option Int) : slicePick its.toArray lo hi none = ((its.drop (HT.sIx its.length 0 lo)).take (HT.sIx its.length its.length hi - HT.sIx its.length 0 lo)).toArray := by
  obtain ⟨h1, h2, h3⟩ := slice_bounds lo hi its.toArray.size
  unfold slicePick
  rw [h1, h2, h3]
  simp only [sliceRange_one, pick_run, List.size_toArray] <;> rfl
/-- xs[lo:hi] of a list: a new list -/
def rSlL (K : PySem.W.Frag) : V → Option Int → Option Int → Hp → VK → Prop := fun x lo hi H Q => ∃ a xs, x = .ref a ∧ SqL K H a xs ∧ ∀ p, H p = none → Q (.ref p) (upd H p (.lst (cutV xs lo hi)))
theorem sl_list : SlR X (rSlL X.K) := by
  intro pins s σ H x v vl vu lo hi sl Q I rx hs pl pu h
  obtain ⟨a, xs, rfl, hx, q⟩ := h
  cases rx
  obtain ⟨its, r, ht, hz⟩ := I.list hx
  have hlen := r.length
  refine ⟨"list", _, slot_list_getitem.lookup, ht.isList.typeIs, ?_⟩
  refine wpAny_getItem_list_slice ht.isList hs pl pu .none (by simp) ?_ (by rw [List.size_toArray] <;> omega)
  rw [slicePick_cut, ← hlen]
  refine ⟨.ref s.heap.objs.size, _, I.laid (t' := s.toks) (o := .lst (cutV xs lo hi)) (fun b ob q => Heap.get?_push_of_some _ q) (Nat.le_refl _) ?_, rfl, q _ (I.hok.fresh (Nat.le_refl _))⟩
  exact ⟨Nat.le_trans (cutV_length xs lo hi) hz, _, 0, (r.drop (HT.sIx xs.length 0 lo)).take (HT.sIx xs.length xs.length hi - HT.sIx xs.length 0 lo), Heap.get?_push_size _ rfl⟩

/-! ### in, not in: flat items -/
def flatV : V → Bool
  | .non => true
  | .bl _ => true
  | .int _ => true
  | .str _ => true
  | _ => false
/-- == of flat values -/
def eqV : V → V → Bool
  | .non, .non => true
  | .bl a, .bl b => a == b
  | .bl a, .int b => (if a then 1 else 0) == b
  | .int a, .bl b => a == (if b then 1 else 0)
  | .int a, .int b => a == b
  | .str a, .str b => a == b
  | _, _ => false
theorem eqAt_V {A : Around} {s : Shared} {y x : V} {u v : Value} (ry : RelV y u) (rx : RelV x v) (fy : flatV y = true) (fx : flatV x = true) : SeqAt.EqAt A s u v (eqV y x) := by
  cases y with
  | non =>
    cases ry
    cases x with
    | non => cases rx; exact SeqAt.EqAt.same _
    | bl b => cases rx; exact SeqAt.EqAt.none_bool b
    | int b => obtain ⟨t, rfl⟩ := rx; exact SeqAt.EqAt.none_int b t
    | str b => obtain ⟨t, rfl⟩ := rx; exact SeqAt.EqAt.none_str b t
    | _ => exact absurd (show false = true from fx) Bool.false_ne_true
  | bl a =>
    cases ry
    cases x with
    | non => cases rx; exact SeqAt.EqAt.bool_none a
    | bl b => cases rx; exact SeqAt.EqAt.bool_bool a b
    | int b => obtain ⟨t, rfl⟩ := rx; exact SeqAt.EqAt.bool_int a b t
    | str b => obtain ⟨t, rfl⟩ := rx; exact SeqAt.EqAt.bool_str a b t
    | _ => exact absurd (show false = true from fx) Bool.false_ne_true
  | int a =>
    obtain ⟨t', rfl⟩ := ry
    cases x with
    | non => cases rx; exact SeqAt.EqAt.int_none a t'
    | bl b => cases rx; exact SeqAt.EqAt.int_bool a t' b
    | int b => obtain ⟨t, rfl⟩ := rx; exact SeqAt.EqAt.int_int a t' b t
    | str b => obtain ⟨t, rfl⟩ := rx; exact SeqAt.EqAt.int_str a t' b t
    | _ => exact absurd (show false = true from fx) Bool.false_ne_true
  | str a =>
    obtain ⟨t', rfl⟩ := ry
    cases x with
    | non => cases rx; exact SeqAt.EqAt.str_none a t'
    | bl b => cases rx; exact SeqAt.EqAt.str_bool a t' b
    | int b => obtain ⟨t, rfl⟩ := rx; exact SeqAt.EqAt.str_int a t' b t
    | str b => obtain ⟨t, rfl⟩ := rx; exact SeqAt.EqAt.str_str a t' b t
    | _ => exact absurd (show false = true from fx) Bool.false_ne_true
  | _ => exact absurd (show false = true from fy) Bool.false_ne_true
/-- the items' answers, read off the values (a value's own answer does not lean on its token) -/
def eqU (x : V) (u : Value) : Bool := match u with
  | .none => eqV .non x
  | .bool b => eqV (.bl b) x
  | .int i _ => eqV (.int i) x
  | .str z _ => eqV (.str z) x
  | _ => false
theorem eqU_of {x y : V} {u : Value} (r : RelV y u) (f : flatV y = true) : eqU x u = eqV y x := by
  cases y with
  | non => cases r; rfl
  | bl b => cases r; rfl
  | int i => obtain ⟨t, rfl⟩ := r; rfl
  | str z => obtain ⟨t, rfl⟩ := r; rfl
  | _ => exact absurd (show false = true from f) Bool.false_ne_true
theorem any_eqU {x : V} : ∀ {xs : List V} {us : List Value}, Vals xs us → xs.all flatV = true → us.any (eqU x) = xs.any fun y => eqV y x
  | _, _, .nil, _ => rfl
  | y :: xs, u :: us, .cons r t, f => by
    rw [List.all_cons, Bool.and_eq_true] at f
    rw [List.any_cons, List.any_cons, eqU_of r f.1, any_eqU t f.2]
theorem mem_eqAt {A : Around} {s : Shared} {x : V} {v : Value} (rx : RelV x v) (fx : flatV x = true) : ∀ {xs : List V} {us : List Value}, Vals xs us → xs.all flatV = true → ∀ u ∈ us, SeqAt.EqAt A s u v (eqU x u)
  | _, _, .nil, _ => fun u hu => by cases hu
  | y :: xs, u :: us, .cons r t, f => fun u' hu => by
    rw [List.all_cons, Bool.and_eq_true] at f
    rcases List.mem_cons.mp hu with rfl | hu
    · rw [eqU_of r f.1]; exact eqAt_V r rx f.1 fx
    · exact mem_eqAt rx fx t f.2 u' hu
def inV (x : V) (xs : List V) : Bool := xs.any fun y => eqV y x
/-- x in a list or tuple of flat items -/
def rIn (K : PySem.W.Frag) (neg : Bool) : R2 := fun x y H Q => ∃ p xs, y = .ref p ∧ (SqL K H p xs ∨ SqT K H p xs) ∧ flatV x = true ∧ xs.all flatV = true ∧ Q (.bl (if neg then !inV x xs else inV x xs)) H
theorem op_in_seq : OpR X (compareOp .In) (rIn X.K false) := by
  intro pins s σ H x y v u Q I rx ry h
  obtain ⟨p, xs, rfl, hq, fx, fs, q⟩ := h
  cases ry
  rcases hq with hq | hq
  · obtain ⟨its, r, pl, hz⟩ := I.list hq
    refine SeqAt.in_listAt (eqU x) pl.isList (fun w hw => mem_eqAt rx fx r fs w (by simpa using hw)) ⟨.bl _, H, I, rfl, ?_⟩
    rw [show its.toArray.any (eqU x) = its.any (eqU x) by simp, any_eqU r fs]
    exact q
  · obtain ⟨its, r, pl, hz⟩ := I.tuple hq
    refine SeqAt.in_tupleAt (eqU x) pl (fun w hw => mem_eqAt rx fx r fs w (by simpa using hw)) ⟨.bl _, H, I, rfl, ?_⟩
    rw [show its.toArray.any (eqU x) = its.any (eqU x) by simp, any_eqU r fs]
    exact q
theorem op_notIn_seq : OpR X (compareOp .NotIn) (rIn X.K true) := by
  intro pins s σ H x y v u Q I rx ry h
  obtain ⟨p, xs, rfl, hq, fx, fs, q⟩ := h
  cases ry
  rcases hq with hq | hq
  · obtain ⟨its, r, pl, hz⟩ := I.list hq
    refine SeqAt.notIn_listAt (eqU x) pl.isList (fun w hw => mem_eqAt rx fx r fs w (by simpa using hw)) ⟨.bl _, H, I, rfl, ?_⟩
    rw [show its.toArray.any (eqU x) = its.any (eqU x) by simp, any_eqU r fs]
    exact q
  · obtain ⟨its, r, pl, hz⟩ := I.tuple hq
    refine SeqAt.notIn_tupleAt (eqU x) pl (fun w hw => mem_eqAt rx fx r fs w (by simpa using hw)) ⟨.bl _, H, I, rfl, ?_⟩
    rw [show its.toArray.any (eqU x) = its.any (eqU x) by simp, any_eqU r fs]
    exact q
/-! ### len, list(x), tuple(x) of any list or tuple that is read -/
theorem call_len_seq : CallR X (.builtin "len") (fun xs H Q => ∃ p ys, xs = [.ref p] ∧ (SqL X.K H p ys ∨ SqT X.K H p ys) ∧ Q (.int ys.length) H) := by
  intro pins s σ H xs us Q I r h
  obtain ⟨p, ys, rfl, hq, q⟩ := h
  obtain ⟨u, rfl, rx⟩ := vals1 r
  cases rx
  have hn := line63
  rcases hq with hq | hq
  · obtain ⟨its, r', pl, hz⟩ := I.list hq
    have hlen := r'.length
    exact Calls.call_len_list pl.isList (by simp only [List.size_toArray] <;> omega) ⟨.int ys.length, H, I.tok _, ⟨s.toks + 1, by rw [List.size_toArray, hlen]⟩, q⟩
  · obtain ⟨its, r', pl, hz⟩ := I.tuple hq
    have hlen := r'.length
    exact len_tuple pl (by simp only [List.size_toArray] <;> omega) ⟨.int ys.length, H, I.tok _, ⟨s.toks + 1, by rw [List.size_toArray, hlen]⟩, q⟩
theorem call_len_str : CallR X (.builtin "len") (fun xs H Q => ∃ z, xs = [.str z] ∧ z.length ≤ sizeLine ∧ Q (.int z.length) H) := by
  intro pins s σ H xs us Q I r h
  obtain ⟨z, rfl, hz, q⟩ := h
  obtain ⟨u, rfl, t, rfl⟩ := vals1 r
  have hn := line63
  exact len_str (by omega) ⟨.int z.length, H, I.tok _, ⟨_, rfl⟩, q⟩
theorem CallR.or {f : Value} {r r' : List V → Hp → VK → Prop} (h : CallR X f r) (h' : CallR X f r') : CallR X f (fun xs H Q => r xs H Q ∨ r' xs H Q) := by
  intro pins s σ H xs us Q I rs q
  rcases q with q | q
  · exact h pins s σ H xs us Q I rs q
  · exact h' pins s σ H xs us Q I rs q
/-! ### the call of a builtin's method: o.m(..) -/
/-- the value is of that builtin type -/
def tyV (K : PySem.W.Frag) (T : String) (x : V) (H : Hp) : Prop := match x with
  | .str _ => T = "str"
  | .int _ => T = "int"
  | .ref p => (T = "list" ∧ ∃ xs, SqL K H p xs) ∨ (T = "tuple" ∧ ∃ o, K.lookup p = some o ∧ o.cls = .type "tuple" ∧ o.dict = none) ∨
      (T = "dict" ∧ ((∃ kvs, H p = some (.dK kvs)) ∨ ∃ kvs, H p = some (.dT kvs))) ∨ (T = "set" ∧ ∃ S n, H p = some (.set S n))
  | _ => False
theorem tyV_is {pins : List (Addr × Obj)} {σ : St} {H : Hp} {s : Shared} {T : String} {x : V} {v : Value} (I : Inv X pins σ H s) (r : RelV x v) (ty : tyV X.K T x H) :
    s.TypeIs v T ∧ ∀ a, v = .ref a → ∃ ob, s.heap.get? a = some ob ∧ ob.dict = none := by
  cases x with
  | str z =>
    obtain ⟨t, rfl⟩ := r
    cases (show T = "str" from ty)
    exact ⟨typeIs_str s z t, fun _ e => nomatch e⟩
  | int i =>
    obtain ⟨t, rfl⟩ := r
    cases (show T = "int" from ty)
    exact ⟨typeIs_int s i t, fun _ e => nomatch e⟩
  | ref p =>
    cases r
    rcases ty with ⟨rfl, xs, hq⟩ | ⟨rfl, o, hk, hc, hd⟩ | ⟨rfl, hk⟩ | ⟨rfl, S, n, hk⟩
    · obtain ⟨its, _, pl, _⟩ := I.list hq
      refine ⟨pl.isList.typeIs, fun a e => ?_⟩
      cases e
      obtain ⟨o, n, e, c, hd, _⟩ := pl
      exact ⟨o, e, hd⟩
    · refine ⟨⟨o, I.kIn p o hk, hc⟩, fun a e => ?_⟩
      cases e
      exact ⟨o, I.kIn _ o hk, hd⟩
    · have z : ∃ o, s.heap.get? p = some o ∧ o.ExactDict := by
        rcases hk with ⟨kvs, hk⟩ | ⟨kvs, hk⟩
        · obtain ⟨_, _, _, _, o, _, _, e, ex, _⟩ := I.hok p _ hk
          exact ⟨o, e, ex⟩
        · obtain ⟨_, _, _, _, o, _, _, e, ex, _⟩ := I.hok p _ hk
          exact ⟨o, e, ex⟩
      obtain ⟨o, e, ex⟩ := z
      refine ⟨⟨o, e, ex.1⟩, fun a e2 => ?_⟩
      cases e2
      exact ⟨o, e, ex.2.1⟩
    · obtain ⟨o, _, _, _, e, ex, _⟩ := I.hok p _ hk
      refine ⟨⟨o, e, ex.1⟩, fun a e2 => ?_⟩
      cases e2
      exact ⟨o, e, ex.2.1⟩
  | _ => exact False.elim ty
variable {o e : Expr} {es : List Expr} {to : TE} {t : TA} {name : Str} {apos cpos : Pos} {T id : String} {r : V → List V → Hp → VK → Prop}
/- xs.append(e), list.index on a module's tuple .. are MtR facts of 06m -/
end
end L2

namespace L2
open PySem PySem.Spec PyProof.Rows

def MtM (X : Cx) (id : String) (r : V → List V → Hp → VK → Prop) : Prop :=
  ∀ (pins : List (Addr × Obj)) (s : Shared) (σ : St) (H : Hp) (x : V) (xs : List V) (v : Value) (us : List Value) (Q : VK), Inv X pins σ H s → RelV x v → Vals xs us → r x xs H Q →
    wpAny (model X.prog X.w) X.A (call (.builtin id) (v :: us)) (EP X pins σ Q) X.xe s

/-! ### lists of values -/
theorem Vals.one : ∀ {x : V} {us : List Value}, Vals [x] us → ∃ u, us = [u] ∧ RelV x u
  | _, _, .cons r .nil => ⟨_, rfl, r⟩
theorem Vals.two : ∀ {x y : V} {us : List Value}, Vals [x, y] us → ∃ u v, us = [u, v] ∧ RelV x u ∧ RelV y v
  | _, _, _, .cons r (.cons q .nil) => ⟨_, _, rfl, r, q⟩
theorem Vals.zero : ∀ {us : List Value}, Vals [] us → us = []
  | _, .nil => rfl
theorem Vals.rep {xs : List V} {us : List Value} (h : Vals xs us) : ∀ k : Nat, Vals (List.replicate k xs).flatten (List.replicate k us).flatten
  | 0 => .nil
  | k + 1 => by
    rw [List.replicate_succ, List.replicate_succ, List.flatten_cons, List.flatten_cons]
    exact Vals.append h (Vals.rep h k)
theorem foldl_rep (its : List Value) : ∀ (k : Nat) (acc : List Value),
    List.foldl (fun x1 x2 => x1 ++ x2) acc.toArray (List.replicate k its.toArray) = (acc ++ (List.replicate k its).flatten).toArray
  | 0, acc => by simp
  | k + 1, acc => by
    have e : acc.toArray ++ its.toArray = (acc ++ its).toArray := by simp
    have e2 : (acc ++ its) ++ (List.replicate k its).flatten = acc ++ (List.replicate (k + 1) its).flatten := by
      rw [List.replicate_succ, List.flatten_cons, List.append_assoc]
    rw [← e2, ← foldl_rep its k (acc ++ its), ← e, List.replicate_succ, List.foldl_cons]

section
variable {X : Cx} {pins : List (Addr × Obj)} {σ : St} {H : Hp} {s : Shared} {l b : Addr} {xs ys zs : List V}

/-! ### the two steps: a tracked list is rewritten, a new list is laid -/
theorem Inv.lset {its its' : List Value} {n : Nat} {f : Array Value → Array Value} {t' : Nat} (I : Inv X pins σ H s) (hH : H l = some (.lst xs))
    (e : s.heap.get? l = some { cls := .type "list", data := .seq its.toArray n }) (hf : f its.toArray = its'.toArray) (hv : Vals ys its') (hz : ys.length ≤ sizeLine) :
    Inv X pins σ (upd H l (.lst ys)) { s with heap := s.heap.update l (Obj.mapSeq f), toks := t' } := by
  have q := PySem.IsL.update e f
  rw [hf] at q
  refine I.write (x := l) (e := l) (by rw [hH]; exact trivial) (.inl rfl) (fun b' u hb hu => (Heap.get?_update_other s.heap (Obj.mapSeq f) (Ne.symm hb)).trans hu) ⟨_, q⟩ ?_
  exact ⟨hz, its', _, hv, q⟩
theorem Inv.lnew {its : List Value} {t' : Nat} (I : Inv X pins σ H s) (hv : Vals ys its) (hz : ys.length ≤ sizeLine) :
    Inv X pins σ (upd H s.heap.objs.size (.lst ys)) { s with heap := s.heap.push { cls := .type "list", data := .seq its.toArray }, toks := t' } :=
  I.laid (fun _ _ q => Heap.get?_push_of_some _ q) (Nat.le_refl _) ⟨hz, its, 0, hv, Heap.get?_push_size _ rfl⟩
theorem Inv.fresh (I : Inv X pins σ H s) : H s.heap.objs.size = none := I.hok.fresh (Nat.le_refl _)
theorem Inv.lstM (I : Inv X pins σ H s) (hH : H l = some (.lst xs)) : xs.length ≤ sizeLine ∧ ∃ (its : List Value) (n : Nat), Vals xs its ∧ xs.length = its.length ∧ s.heap.get? l = some { cls := .type "list", data := .seq its.toArray n } := by
  obtain ⟨z, its, n, r, e⟩ := I.hok l _ hH
  exact ⟨z, its, n, r, r.length, e⟩

theorem notLongL {n : Nat} (h : n ≤ sizeLine) : Builtin.List.listTooLong n = false := by
  unfold Builtin.List.listTooLong
  exact decide_eq_false (by omega)
end

section
variable {X : Cx}

/-! ### methods -/
def rAppend : V → List V → Hp → VK → Prop := fun x vs H Q => ∃ l xs y, x = .ref l ∧ vs = [y] ∧ H l = some (.lst xs) ∧ xs.length < sizeLine ∧ Q .non (upd H l (.lst (xs ++ [y])))
theorem mt_append : MtM X "list.append" rAppend := by
  intro pins s σ H x vs v us Q I rx rv h
  obtain ⟨l, xs, y, rfl, rfl, hH, hz, q⟩ := h
  cases rx
  obtain ⟨u, rfl, ru⟩ := rv.one
  obtain ⟨z, its, n, r, hl, e⟩ := I.lstM hH
  refine call_meets F.slot_list_append ⟨_, e, rfl⟩ F.entry_list_append (F.args_list_append_2 _ _) (PySem.list_append l its.toArray n u (by rw [List.size_toArray]; omega)) ⟨e, ?_⟩
  refine ⟨.non, _, I.lset (its' := its ++ [u]) hH e (by simp) (r.append (.cons ru .nil)) ?_, rfl, q⟩
  rw [List.length_append, List.length_singleton]
  omega

def rExtend : V → List V → Hp → VK → Prop := fun x vs H Q => ∃ l b xs zs, x = .ref l ∧ vs = [.ref b] ∧ H l = some (.lst xs) ∧ H b = some (.lst zs) ∧ xs.length + zs.length ≤ sizeLine ∧ Q .non (upd H l (.lst (xs ++ zs)))
theorem mt_extend : MtM X "list.extend" rExtend := by
  intro pins s σ H x vs v us Q I rx rv h
  obtain ⟨l, b, xs, zs, rfl, rfl, hH, hB, hz, q⟩ := h
  cases rx
  obtain ⟨u, rfl, ru⟩ := rv.one
  cases ru
  obtain ⟨z, its, n, r, hl, e⟩ := I.lstM hH
  obtain ⟨z2, its2, n2, r2, hl2, e2⟩ := I.lstM hB
  have hsz : its.toArray.size + its2.toArray.size ≤ sizeLine := by rw [List.size_toArray, List.size_toArray]; omega
  have hlong : ¬ (!its.toArray.isEmpty && Builtin.List.listTooLong (its.toArray.size + its2.toArray.size)) = true := by
    rw [notLongL hsz, Bool.and_false]
    exact Bool.false_ne_true
  refine call_meets F.slot_list_extend ⟨_, e, rfl⟩ F.entry_list_extend (F.args_list_extend_2 _ _)
    (AutoSeq1.list_extend_list_list_0 l its.toArray n b its2.toArray n2 hlong (by rw [List.size_toArray]; omega) (by omega)) ⟨e, e2, ?_⟩
  refine ⟨.non, _, I.lset (its' := its ++ its2) hH e (by simp) (r.append r2) ?_, rfl, q⟩
  rw [List.length_append]
  omega

/-! ### list + list, list += list, list * int -/
def rCat : R2 := fun x y H Q => ∃ l b xs zs, x = .ref l ∧ y = .ref b ∧ H l = some (.lst xs) ∧ H b = some (.lst zs) ∧ xs.length + zs.length ≤ sizeLine ∧ ∀ p, H p = none → Q (.ref p) (upd H p (.lst (xs ++ zs)))
theorem op_cat : OpR X (binaryOp .Add) rCat := by
  intro pins s σ H x y v u Q I rx ry h
  obtain ⟨l, b, xs, zs, rfl, rfl, hH, hB, hz, q⟩ := h
  cases rx
  cases ry
  obtain ⟨z, its, n, r, hl, e⟩ := I.lstM hH
  obtain ⟨z2, its2, n2, r2, hl2, e2⟩ := I.lstM hB
  refine PySem.P.add_list e e2 ?_ (by rw [List.size_toArray, List.size_toArray]; omega)
  have ea : its.toArray ++ its2.toArray = (its ++ its2).toArray := by simp
  rw [ea]
  exact ⟨.ref _, _, I.lnew (t' := s.toks) (r.append r2) (by rw [List.length_append]; omega), rfl, q _ I.fresh⟩
/-- a list times an int (a negative one is nothing) -/
def rRep : R2 := fun x y H Q => ∃ l k xs, x = .ref l ∧ y = .int k ∧ H l = some (.lst xs) ∧ -(2 ^ 63) ≤ k ∧ k < 2 ^ 63 ∧ xs.length * k.toNat ≤ sizeLine ∧
  ∀ p, H p = none → Q (.ref p) (upd H p (.lst (List.replicate k.toNat xs).flatten))
theorem len_rep {α : Type} (xs : List α) (k : Nat) : (List.replicate k xs).flatten.length = k * xs.length := by
  induction k with
  | zero => simp
  | succ k ih => rw [List.replicate_succ, List.flatten_cons, List.length_append, ih, Nat.succ_mul, Nat.add_comm]
theorem op_rep : OpR X (binaryOp .Mult) rRep := by
  intro pins s σ H x y v u Q I rx ry h
  obtain ⟨l, k, xs, rfl, rfl, hH, h1, h2, hz, q⟩ := h
  cases rx
  obtain ⟨t, rfl⟩ := ry
  obtain ⟨z, its, n, r, hl, e⟩ := I.lstM hH
  have hlen : its.toArray.size * k.toNat ≤ sizeLine := by rw [List.size_toArray, ← hl]; exact hz
  have hcap : ¬ its.toArray.size * k.toNat > (2 ^ 63 - 1) / 8 := by
    have : (sizeLine : Nat) ≤ (2 ^ 63 - 1) / 8 := by decide
    omega
  have hfit : ¬ (!Builtin.List.listFitsIndex k) = true := by
    rw [fitsIndex_both h1 h2]
    exact Bool.false_ne_true
  have hlong : ¬ Builtin.List.listTooLong (its.toArray.size * k.toNat) = true := by
    rw [notLongL hlen]
    exact Bool.false_ne_true
  have hnew : List.foldl (fun x1 x2 => x1 ++ x2) #[] (List.replicate (if its.toArray.isEmpty = true then 0 else k.toNat) its.toArray) = (List.replicate k.toNat its).flatten.toArray := by
    have f0 : ∀ m : Nat, List.foldl (fun x1 x2 => x1 ++ x2) #[] (List.replicate m its.toArray) = (List.replicate m its).flatten.toArray := fun m => by
      have := foldl_rep its m []
      rw [List.nil_append] at this
      exact this
    rw [f0]
    cases its with
    | nil => simp
    | cons a r' => rw [if_neg (by simp)]
  refine wpAny_binaryOp_repeat_ref (T := "list") (U := "int") (by decide) ⟨_, e, rfl⟩ (fun s' => typeIs_int s' k t) noFill_list_mul F.fills_int_mul F.slot_int_rmul repeat_list F.slot_int_index.lookup
    (call_meets F.slot_int_rmul (typeIs_int s k t) F.entry_int_rmul (F.args_int_rmul_2 _ _) (int___rmul___int_list k t l its.toArray n)
      ⟨e, rfl, ⟨_, e, rfl⟩, call_meets F.slot_list_mul ⟨_, e, rfl⟩ F.entry_list_mul (F.args_list_mul_2 _ _) (AutoListH.list___mul___list_int_3 l its.toArray n k t hfit hcap hlong) ⟨e, ?_⟩⟩)
  rw [hnew]
  exact ⟨.ref _, _, I.lnew (t' := s.toks) (r.rep k.toNat) (by rw [len_rep, Nat.mul_comm]; exact hz), rfl, q _ I.fresh⟩

/-! ### del xs[i] -/
end

/-! ### xs[a:b] = ys -/
section
variable {prog : Program} {w : World} {A : Around} {E : Value → Shared → Prop} {s : Shared}
end

section
variable {X : Cx}
end
end L2

namespace Att
open PySem PySem.W PySem.Calls PyProof.Rows

/-! ### the script -/
theorem ints_of_wellAll {P : Params} {h : Heap} : ∀ (ns : List Int) (vs : List Value), WellAll P h vs (ns.map WData.int) → IntsAre vs ns := by
  intro ns
  induction ns with
  | nil =>
    intro vs w
    rw [List.map_nil] at w
    cases w
    exact .nil
  | cons n ns ih =>
    intro vs w
    rw [List.map_cons] at w
    cases w with
    | cons a b =>
      cases a
      exact .cons _ _ (ih _ b)

theorem script_of {l : OpenLaw} {n : Nat} (hn : l.most = some n) {P : Params} {h : Heap} {args : List WData} {vals : List Value}
    (hpre : l.row.toRowW.claim.pre args = true) (hwl : WellAll P h vals args) :
    ∃ a vs ns, vals = [Value.ref a] ∧ args = [WData.list (ns.map WData.int)] ∧ h.get? a = some { cls := .type "list", data := .seq vs.toArray } ∧ IntsAre vs ns ∧ ns.length ≤ n := by
  have hsh : WShape.hasAll [] args [.list .int] = true := (pre_splitW hpre).1
  have hc : l.pre.holds [] { args := args } = true := (pre_splitW hpre).2
  obtain ⟨d, r, rfl, h1, h2⟩ := hasAllW_cons hsh
  obtain rfl := hasAllW_nil h2
  obtain ⟨xs, rfl, h3⟩ := hasW_list h1
  obtain ⟨ns, rfl⟩ := items_int h3
  have hlen : ns.length ≤ n := by
    unfold OpenLaw.pre at hc
    have h4 : (WTm.not (.lt (.lit (.int (n : Int))) (.len (.arg 0)))).holds [] { args := [.list (ns.map .int)] } = true := by
      have h4 := (holds_andW hc).1
      rw [hn] at h4
      exact h4
    have h5 := condW_of h4 (w_not (w_lt w_lit (w_len_list (w_arg rfl))))
    rw [List.length_map] at h5
    refine Nat.le_of_not_lt fun q => ?_
    have q' : (n : Int) < ((ns.length : Nat) : Int) := by omega
    first
      | (rw [decide_eq_true q'] at h5; exact absurd h5 (by decide))
      | (simp at h5; omega)
  cases hwl with
  | cons w1 w2 =>
    cases w2
    cases w1 with
    | list ho hall => exact ⟨_, _, ns, rfl, rfl, ho, ints_of_wellAll ns _ hall, hlen⟩

theorem post_true (l : OpenLaw) (args : List WData) : l.row.toRowW.claim.post args (.bool true) args = true :=
  postW_of (r := l.row.toRowW) (X := (true == true))
    (show WShape.has [] (.bool true) .bool = true by first | rfl | decide | simp [WShape.has, WShape.arms, WShape.armsAll])
    (show (WTm.eq .res (.lit (.bool true))).value [] { args := args, res := some (.bool true), after := args } = some (.bool (true == true)) from w_eq_bool (w_res rfl) w_lit) rfl

/-! ### the attachment: holds_open's last premise (the goal 'hc' behind k_head) from a wpAny of the law's body -/
/-- the same from a codeAny of the CALL (for a layer whose function contracts speak of calls) -/
theorem attach_call {l : OpenLaw} {n : Nat} {q : Program} {loose : List Str} {XP : (Str → Option Value) → Heap → Prop} {YP : World → Heap → Prop} {d : DefRec}
    (hn : l.most = some n) (hdf : d.params.defaults = [])
    (call : ∀ (w : World) (s₀ s₁ : Shared) (mg mb : Str → Option Value) (fa : Addr) (o : Obj) (pm cd doc : Value) (a : Addr) (vs : List Value) (ns : List Int),
      Ground q loose [] XP w s₀ mg mb s₁.heap → YP w s₁.heap →
      s₁.heap.get? fa = some o → o.data = .func (docDef d.name d.params d.body d.scope pm cd doc) → s₁.heap.CodeRec cd d.name → mg d.name = some (.ref fa) →
      s₁.heap.get? a = some { cls := .type "list", data := .seq vs.toArray } → IntsAre vs ns → ns.length ≤ n → s₁.gens = #[] →
      codeAny (model l.prog w) callerA (.call (.ref fa) ⟨[.ref a], []⟩) (fun r s' => r = .ok (.ret (.bool true)) ∧ OldK s₁.heap s'.heap ∧ s'.os = s₁.os ∧ AllBare s'.gens) s₁) :
    WalkO q loose XP YP l.row.toRowW d [] (fun f vs => PySem.call f vs) := by
  intro w s₀ s₁ mg mb G Y fa o pm cd doc dV kV ho hd hcd hD hmg hg args vals as hpre hlay hrd hwl hlo
  obtain rfl : dV = .none := Dflts.none hD hdf
  obtain rfl : kV = .none := Dflts.noKw hD
  obtain ⟨a, vs, ns, rfl, rfl, hobj, hints, hlen⟩ := script_of hn hpre hwl
  refine enter_call (codeAny_mono (call w s₀ s₁ mg mb fa o pm cd doc a vs ns G Y ho (fd_plain hd) hcd hmg hobj hints hlen hg) fun r s' hq => ?_)
  obtain ⟨rfl, h2, h3, h4⟩ := hq
  exact ⟨.inl ⟨.bool true, .bool true, [], rfl, fun _ => rfl, .bool true, post_true l _, fun _ => ⟨List.Pairwise.nil, fun _ hm => (nomatch hm)⟩⟩, h2, h3, h4⟩

/-! ### rules over ANY heap (no ledger) from facts about the written part K: the library's own take a ledger (News) for what they write -/
section
variable {prog : Program} {w : World} {A : Around} {E : Value → Shared → Prop} {s : Shared} {K : Frag}

/-! the whole heap as the ledger: makes every rule that writes through a ledger a rule over any heap -/
def ledger (h : Heap) (L d : Addr) : List (Addr × Obj) := (List.range h.objs.size).filterMap fun a => if a = L ∨ a = d then none else (h.get? a).map fun o => (a, o)
end
end Att

namespace L2
open PySem PySem.Spec PyProof.Rows

theorem vals_ints : ∀ {vs : List Value} {ns : List Int}, IntsAre vs ns → Vals (ns.map V.int) vs
  | _, _, .nil => .nil
  | _, _, .cons n t h => .cons ⟨t, rfl⟩ (vals_ints h)

/-- nothing is tracked but the script, known to the object (or it is an object of the module) -/
def Only (H : Hp) : Prop := ∀ b, H b = none ∨ ∃ o xs, H b = some (.frz o (.lst xs))

/-- THE HEAD: the law's promise, at the heap behind the top. F, the promise of the law's def, may use that base is part of the heap (so K.In base, base.Ns mainGlobals mg stand in Mod) -/
theorem law_call {P : Program} {w : World} {K : PySem.W.Frag} {mg mb : Str → Option Value} {CX : CXT} {k : Nat} {fa a : Addr} {fd : FuncData} {x : Str} {sp : Sp} {s₁ : Shared} {vs : List Value} {ns : List Int}
    (KX : K.In s₁.heap) (hns : s₁.heap.Ns mainGlobals mg) (hb : s₁.heap.Ns builtinsNs mb) (hbb : ∀ x : Str, x ≠ "__name__" → mb x = bootBuiltins x) (hlim : s₁.heap.NoLimit) (hg : s₁.gens = #[])
    (ha : s₁.heap.get? a = some { cls := .type "list", data := .seq vs.toArray }) (hi : IntsAre vs ns) (hl : ns.length ≤ sizeLine) (hr : Room true k callerA)
    (F : ∀ base : Heap, K.In base → base.Ns mainGlobals mg → FnOk P w K mg base CX true k fa fd [x] sp) (hbind : ∀ (s : Shared) (u : Value), BindsTo s fd ⟨[u], []⟩ [(x, u)])
    (hsp : ∀ H : Hp, Only H → SqL K H a (ns.map V.int) → sp [.ref a] H (fun v _ => v = .bl true) fun _ _ _ => False)
    (hCX : ∀ H e s', CX [] H s₁ (fun _ _ _ => False) e s' → False) :
    codeAny (model P w) callerA (.call (.ref fa) ⟨[.ref a], []⟩) (fun r s' => r = .ok (.ret (.bool true)) ∧ OldK s₁.heap s'.heap ∧ s'.os = s₁.os ∧ AllBare s'.gens) s₁ := by
  have rv := vals_ints hi
  have lenV := hi.length
  -- from an abstract heap in which nothing but the script may be tracked
  have core : ∀ H : Hp, Only H → SqL K H a (ns.map V.int) → HOk P w H s₁.heap → (∀ b, H b ≠ none → b = a) → (H a ≠ none → K.lookup a = none) →
      codeAny (model P w) callerA (.call (.ref fa) ⟨[.ref a], []⟩) (fun r s' => r = .ok (.ret (.bool true)) ∧ OldK s₁.heap s'.heap ∧ s'.os = s₁.os ∧ AllBare s'.gens) s₁ := by
    intro H hO hS hok hA hK
    have base_of : ∀ {b : Addr} {o : Obj}, s₁.heap.get? b = some o → H b = none → (hidT s₁.heap H).get? b = some o := fun e n => hidT_get e n
    have noA : ∀ {b : Addr} {o : Obj} {es : Array DictEntry} {ep : Nat}, s₁.heap.get? b = some o → o.data = .dict es ep → H b = none := fun {b o es ep} e d => by
      cases q : H b with
      | none => rfl
      | some u =>
        have e' : b = a := hA b (by rw [q]; simp)
        subst e'
        rw [ha] at e; cases e
        have d' : Data.seq vs.toArray _ = Data.dict es ep := d
        cases d'
    have nsK : ∀ {b : Addr} {m : Str → Option Value}, s₁.heap.Ns b m → (hidT s₁.heap H).Ns b m := fun {b m} ⟨o, es, ep, e, d, r⟩ => ⟨o, es, ep, base_of e (noA e d), d, r⟩
    have hKb : K.In (hidT s₁.heap H) := fun b o e => base_of (KX b o e) (by
      cases q : H b with
      | none => rfl
      | some u =>
        have e' : b = a := hA b (by rw [q]; simp)
        subst e'
        rw [hK (by rw [q]; simp)] at e; cases e)
    have hM : Mod K mg (hidT s₁.heap H) := ⟨hKb, nsK hns, ⟨mb, nsK hb, hbb⟩, let ⟨mc, h1, h2⟩ := hlim; ⟨mc, nsK h1, h2⟩⟩
    have e0 : Env0 P w K mg (hidT s₁.heap H) callerA [] s₁ H := ⟨rfl, .inl rfl, hM, fun b o e => of_hidT e, Nat.le_of_eq (hidT_size _ _), trivial, fun b hb => absurd (show b ∈ ([] : List Addr) from hb) (by simp), hok, .of_eq hg⟩
    refine codeAny_mono ((F _ hKb (nsK hns)).run callerA [] s₁ H ⟨[.ref a], []⟩ [.ref a] [.ref a] _ _ hr e0 (hbind s₁ (.ref a)) (.cons rfl .nil) (hsp H hO hS)) fun r s' h => ?_
    cases r with
    | error e => exact (hCX H e s' h).elim
    | ok fl =>
      cases fl with
      | next => exact False.elim h
      | brk => exact False.elim h
      | cont => exact False.elim h
      | ret u =>
        obtain ⟨v, H', os, bare, un, hok', r', q⟩ := h
        have q' : v = .bl true := q
        subst q'
        obtain rfl : u = Value.bool true := r'
        refine ⟨rfl, OldK.of_keep fun b o e => ?_, os, bare⟩
        cases q : H b with
        | none => exact un.keep b o e q (by intro z; exact absurd (show b ∈ ([] : List Addr) from z) (by simp)) (by simp)
        | some u =>
          rcases hO b with z | ⟨ob, xs, z⟩
          · rw [q] at z; cases z
          · have z2 := un.frzs b ob _ z
            obtain ⟨e1, _⟩ := hok b _ z
            obtain ⟨e2, _⟩ := hok' b _ z2
            rw [e] at e1; cases e1
            exact e2
  cases hk : K.lookup a with
  | some o =>
    -- the script is one of the module's own objects
    have e := KX a o hk
    rw [ha] at e
    cases e
    refine core (fun _ => none) (fun _ => .inl rfl) (.inr ⟨_, vs.toArray, _, hk, rfl, rfl, rfl, by rw [List.size_toArray, lenV]; exact hl, by simpa using rv⟩) (fun b u z => by have z' : (none : Option HO) = some u := z; cases z') (fun b z => absurd rfl z) fun z => absurd rfl z
  | none =>
    refine core (fun b => if b = a then some (.frz { cls := .type "list", data := .seq vs.toArray } (.lst (ns.map V.int))) else none) (fun b => ?_) (.inl (.inr ⟨{ cls := .type "list", data := .seq vs.toArray }, if_pos rfl⟩)) (fun b u z => ?_) (fun b z => ?_) fun _ => hk
    · by_cases hb : b = a
      · exact .inr ⟨_, _, if_pos hb⟩
      · exact .inl (if_neg hb)
    · by_cases hb : b = a
      · have z' := (if_pos hb).symm.trans z
        cases z'
        subst hb
        exact ⟨ha, by rw [List.length_map]; exact hl, vs, _, rv, ha⟩
      · have z' := (if_neg hb).symm.trans z
        cases z'
    · by_cases hb : b = a
      · exact hb
      · exact absurd (if_neg hb) z
end L2

namespace L2
open PySem PySem.Spec PyProof.Rows

abbrev KOf {K : PySem.W.Frag} {h : Heap} (_ : K.In h) : PySem.W.Frag := K

/-- the goal that k_head leaves (case hc), from the law's promise. F gives the function object fd (K's own) once, then the promise over every base -/
theorem walk_of {l : PySem.W.OpenLaw} {n k : Nat} {q : Program} {loose : List Str} {XP : (Str → Option Value) → Heap → Prop} {YP : World → Heap → Prop} {d : DefRec} {K : Params → PySem.W.Frag} {CX : World → CXT} {sp : World → Sp} {x : Str}
    (hn : l.most = some n) (hn2 : n ≤ sizeLine) (hdf : d.params.defaults = []) (hr : Room true k callerA)
    (hY : ∀ (w : World) (h : Heap), YP w h → (K w.params).In h)
    (F : ∀ (w : World) (mg : Str → Option Value) (fa : Addr) (h : Heap), (K w.params).In h → h.Ns mainGlobals mg → mg d.name = some (.ref fa) →
      ∃ fd : FuncData, (∀ (s : Shared) (u : Value), BindsTo s fd ⟨[u], []⟩ [(x, u)]) ∧
        ∀ base : Heap, (K w.params).In base → base.Ns mainGlobals mg → FnOk l.prog w (K w.params) mg base (CX w) true k fa fd [x] (sp w))
    (hsp : ∀ (w : World) (H : Hp) (a : Addr) (ns : List Int), ns.length ≤ n → Only H → SqL (K w.params) H a (ns.map V.int) → sp w [.ref a] H (fun v _ => v = .bl true) fun _ _ _ => False)
    (hCX : ∀ (w : World) (H : Hp) (s : Shared) (e : Value) (s' : Shared), CX w [] H s (fun _ _ _ => False) e s' → False) :
    PySem.W.WalkO q loose XP YP l.row.toRowW d [] (fun f vs => PySem.call f vs) := by
  refine Att.attach_call hn hdf fun w s₀ s₁ mg mb fa o pm cd doc a vs ns G Y ho hd hcd hmg hobj hints hlen hg => ?_
  have KX := hY w _ Y
  obtain ⟨fd, hb, hF⟩ := F w mg fa _ KX G.T.g hmg
  exact law_call KX G.T.g G.T.b G.T.builtins G.T.nolimit hg hobj hints (Nat.le_trans hlen hn2) hr hF hb (fun H hO hS => hsp w H a ns hlen hO hS) fun H e s' => hCX w H s₁ e s'
end L2

/- THE LAST THEOREM (shape; LID, My.* are yours):
   My.Adr: a structure of the addresses that your layer names (classes, functions); My.Txt K t: a structure (Prop) of the equations over K;
   My.txt_mk : {K} {implicit addresses ..} (e1 : nsIn K mainGlobals "law" = some (some (.ref f))) (e2 : K.lookup f = some ⟨oc, od, .func (fnOf "law" "law" params body scope dV kV doc pm an cdv ct), sl⟩) (e3 : codeIn K cdv "law" = true) .. : ∃ t, My.Txt K t

set_option maxRecDepth 100000 in
set_option maxHeartbeats 0 in
theorem PySem.Challenge.cw_LID_holds : PySem.Challenge.rw_LID.Holds := by
  w_on; o_law; k_head; (case hw => w_witness2)
  k_fill
  refine L2.walk_of (l := PySem.Challenge.rw_LID) (n := 63) (k := 40) (x := "script") (CX := fun w => ..) (sp := fun _ => My.sp_law) rfl (by decide) rfl ⟨rfl, by decide, by decide⟩ (fun w h Y => PySem.W.kIn_of Y) ?F ?S ?C
  case F =>
    intro w mg fa h KX G hmg
    have T : ∃ t, My.Txt (L2.KOf KX) t := by
      dsimp only [L2.KOf]                          -- K must stand as «<heap const> w.params» for k_is
      refine' My.txt_mk ?e1 ?e2 ?e3 ..
      (case e1 => PySem.W.k_is)                    -- in the order: a name -> its address -> its object -> its parts
      (case e2 => PySem.W.k_is)
      ..
    obtain ⟨t, T⟩ := T
    have e0 := hmg.symm.trans (PySem.W.mg_of KX G T.law)
    cases e0                                       -- fa is the law's own address
    exact ⟨_, fun s u => .of_eq rfl, fun base kb nb => My.law_fn T kb nb⟩     -- if «.of_eq rfl» comes too early: refine' ⟨_, ?b, fun base kb nb => My.law_fn T kb nb⟩; exact fun s u => .of_eq rfl
  case S => exact fun w H a ns hl hO hS => ..
  case C => exact ..
(the tactic k_is has no namespace: write k_is) -/

/-! SHORT WORDS over the layer: a def of the text, its body, what a loop and a test want. -/
namespace L2
open PySem PySem.Spec PyProof.Rows

/-! ### the text by places -/
/-- the j-th statement of a class's body -/
def inClass (s : Stmt) (j : Nat) : Stmt := match s with
  | .ClassDef _ _ _ body _ _ _ _ _ _ _ => body.getD j (.Pass ⟨0, 0, 0, 0⟩)
  | _ => .Pass ⟨0, 0, 0, 0⟩
def defArgs (s : Stmt) : Arguments := match s with
  | .FunctionDef _ a _ _ _ _ _ _ _ _ => a
  | _ => { posonlyargs := [], args := [], vararg := none, kwonlyargs := [], kw_defaults := [], kwarg := none, defaults := [] }
def defBody (s : Stmt) : List Stmt := match s with
  | .FunctionDef _ _ b _ _ _ _ _ _ _ => b
  | _ => []
def defScope (s : Stmt) : Scope := match s with
  | .FunctionDef _ _ _ _ _ _ sc _ _ _ => sc
  | _ => { kind := .function, names := [], isGenerator := false, isCoroutine := false }

/-! ### no exception leaves a def -/
abbrev CX0 : CXT := fun _ _ _ _ _ _ => False
abbrev E0 : XK := fun _ _ _ => False
theorem pass0 {X : Cx} : Passes CX0 X E0 := fun _ _ _ _ _ _ _ h => h.elim

/-! ### a def (or method) of the text as it stands behind the top -/
structure Fun (K : PySem.W.Frag) (x qual : Str) (st : Stmt) (f : Addr) (fd : FuncData) : Prop where
  ex : ∃ (oc : Value) (od : Option Addr) (kV doc pm : Value) (an : Option Addr) (cdv ct : Value) (osl : Array (Option Value)),
    fd = PySem.W.fnOf x qual (defArgs st) (defBody st) (defScope st) .none kV doc pm an cdv ct ∧ K.lookup f = some ⟨oc, od, .func fd, osl⟩ ∧ PySem.W.codeIn K cdv qual = true
  kp : PySem.W.keepIn K (.ref f) = true
section
variable {P : Program} {w : World} {K : PySem.W.Frag} {mg : Str → Option Value} {base : Heap}
/-- THE RULE for a def: its body as a term of rules, and the reading of that term -/
theorem Fun.ok {x qual : Str} {st : Stmt} {f : Addr} {fd : FuncData} {N ps : List Str} {cm : Bool} {k : Nat} {sp : Sp} (F : Fun K x qual st f fd) (S : FnScope N ps (defScope st)) (len : ∀ vs H Q E, sp vs H Q E → vs.length = ps.length)
    (hbody : ∀ (cdv : Value) (A : Around) (outer : List Env) (s : Shared) (H : Hp) (vs : List V) (Q : VK) (E : XK), Room cm k (A.deeper (envOfC qual (defScope st) s.heap.objs.size f cdv)) → sp vs H Q E →
      ∃ t, PSs (cxOf CX0 cm P w K mg base N qual (defScope st) f cdv A outer s H E).nox (defBody st) t ∧ t { nx := fun _ H' => Q .non H', rt := Q } (start N vs) H) : FnOk P w K mg base CX0 cm (k + 1) f fd ps sp := by
  obtain ⟨oc, od, kV, doc, pm, an, cdv, ct, osl, rfl, lk, hcd⟩ := F.ex
  refine fn_of lk hcd S len fun A outer s H vs Q E hr hsp => ?_
  obtain ⟨t, h, q⟩ := hbody cdv A outer s H vs Q E hr hsp
  exact ⟨t, h.nox, q⟩
/-- how its arguments bind (no defaults): h is «fun _ _ _ _ _ _ us hl => match us, hl with | [_, _], _ => rfl», one _ a parameter -/
theorem Fun.binds {x qual : Str} {st : Stmt} {f : Addr} {fd : FuncData} {ps : List Str} (F : Fun K x qual st f fd)
    (h : ∀ (kV doc pm : Value) (an : Option Addr) (cdv ct : Value) (us : List Value), us.length = ps.length → bindArgs (PySem.W.fnOf x qual (defArgs st) (defBody st) (defScope st) .none kV doc pm an cdv ct) ⟨us, []⟩ = pure (ps.zip us)) : Binds K fd ps [] := by
  obtain ⟨oc, od, kV, doc, pm, an, cdv, ct, osl, rfl, lk, hcd⟩ := F.ex
  exact .all (h kV doc pm an cdv ct)
theorem fun_mk {x qual : Str} {st : Stmt} {f : Addr} {oc : Value} {od an : Option Addr} {osl : Array (Option Value)} {kV doc pm cdv ct : Value} (l : K.lookup f = some ⟨oc, od, .func (PySem.W.fnOf x qual (defArgs st) (defBody st) (defScope st) .none kV doc pm an cdv ct), osl⟩)
    (c : PySem.W.codeIn K cdv qual = true) (k : PySem.W.keepIn K (.ref f) = true) : Fun K x qual st f (PySem.W.fnOf x qual (defArgs st) (defBody st) (defScope st) .none kV doc pm an cdv ct) := ⟨⟨oc, od, kV, doc, pm, an, cdv, ct, osl, rfl, l, c⟩, k⟩
end
theorem hu_of {A : Around} {c : Bool} {k : Nat} (hr : Room c k A) : A.units + 1 < cLine := Nat.lt_of_le_of_lt (Nat.add_le_add_left (by decide : 1 ≤ 64) _) hr.units
/-! ### expressions in short: the name that stands in the i-th slot -/
section
variable {X : Cx}
theorem pv (i : Nat) {x : Str} {pos : Pos} (hN : X.N[i]? = some x := by rfl) (hv : Vis X.env.scope x := by first | exact Or.inl rfl | exact Or.inr (Or.inl rfl) | exact Or.inr (Or.inr rfl)) (hd : (x == ("__debug__" : Str)) = false := by decide)
    (hcd : (x == ("__classdict__" : Str)) = false := by decide) : PE X (.Name x pos) (tVar i) := pe_var hN hv hd hcd
end

/-! ### tests -/
theorem iteF {A B : Prop} (h : B) : if false = true then A else B := by
  rw [if_neg Bool.false_ne_true]
  exact h
theorem iteT {A B : Prop} (h : A) : if true = true then A else B := by
  rw [if_pos rfl]
  exact h
theorem ite2 {c A B : Prop} [Decidable c] (h1 : c → A) (h2 : ¬ c → B) : if c then A else B := by
  by_cases h : c
  · rw [if_pos h]
    exact h1 h
  · rw [if_neg h]
    exact h2 h
/-! ### heaps -/
/-- all that was tracked is as it was -/
def Same (H H' : Hp) : Prop := ∀ b o, H b = some o → H' b = some o
theorem Same.refl (H : Hp) : Same H H := fun _ _ h => h
theorem Same.trans {H H1 H2 : Hp} (a : Same H H1) (b : Same H1 H2) : Same H H2 := fun c o h => b c o (a c o h)
theorem Same.free {H H' : Hp} (e : Same H H') {l : Addr} (h : H' l = Option.none) : H l = Option.none := by
  cases q : H l with
  | none => rfl
  | some o =>
    rw [e l o q] at h
    cases h
theorem Same.seq {K : PySem.W.Frag} {H H' : Hp} {a : Addr} {xs : List V} (e : Same H H') (h : SqL K H a xs) : SqL K H' a xs := by
  rcases h with (h | ⟨o, h⟩) | h
  · exact .inl (.inl (e _ _ h))
  · exact .inl (.inr ⟨o, e _ _ h⟩)
  · exact .inr h

end L2
set_option Elab.async false
set_option linter.all false
set_option maxRecDepth 100000
set_option maxHeartbeats 4000000
namespace L2
open PySem PySem.Spec PyProof.Rows

/-! ### a list comprehension of one clause -/
/-- the closure of a block -/
def closL (cells : List (Str × Addr)) : List (Str × NameKind) → List (Str × Addr) → List (Str × Addr)
  | [], cs => cs
  | (n, k) :: r, cs => closL cells r (if k == .free then (match cells.lookup n with | some c => (n, c) :: cs | none => cs) else cs)
theorem closureFor_eq {scope : Scope} {env : Env} (h : ∀ y ∈ scope.names, y.2 = .free → ∃ c, env.cells.lookup y.1 = some c) : closureFor scope env = pure (closL env.cells scope.names []) := by
  simp only [closureFor]
  have all : ∀ (l : List (Str × NameKind)) (cs : List (Str × Addr)), (∀ y ∈ l, y.2 = .free → ∃ c, env.cells.lookup y.1 = some c) →
      (forIn l cs fun (x : Str × NameKind) (r : List (Str × Addr)) => match x with | (name, kind) => if (kind == NameKind.free) = true then do let a ← cellOf env name; pure (ForInStep.yield ((name, a) :: r)) else pure (ForInStep.yield r) : Sem (List (Str × Addr))) = pure (closL env.cells l cs) := by
    intro l
    induction l with
    | nil => intro cs _; rfl
    | cons y r ih =>
      intro cs hy
      obtain ⟨n, k⟩ := y
      rw [List.forIn_cons]
      by_cases hk : k = .free
      · subst hk
        obtain ⟨c, hc⟩ := hy (n, .free) List.mem_cons_self rfl
        have hc' : env.cells.lookup n = some c := hc
        simp only [cellOf, hc', closL, beq_self_eq_true, if_true]
        exact ih _ fun z hz => hy z (List.mem_cons_of_mem _ hz)
      · have hb : (k == NameKind.free) = false := by simpa using hk
        simp only [closL, hb, Bool.false_eq_true, if_false]
        exact ih _ fun z hz => hy z (List.mem_cons_of_mem _ hz)
  have e := all scope.names [] h
  show (do let cs ← forIn scope.names [] _; pure cs) = _
  first
    | (rw [bind_pure]; exact e)
    | exact e
    | (simpa using e)
/-- what the closure holds -/
theorem closL_of {cells : List (Str × Addr)} : ∀ {l : List (Str × NameKind)} {cs : List (Str × Addr)} {x : Str} {c : Addr}, (closL cells l cs).lookup x = some c → cs.lookup x = some c ∨ (cells.lookup x = some c ∧ (x, NameKind.free) ∈ l)
  | [], _, _, _, h => .inl h
  | (n, k) :: r, cs, x, c, h => by
    unfold closL at h
    rcases closL_of h with h | ⟨h1, h2⟩
    · by_cases hk : k = .free
      · subst hk
        simp only [beq_self_eq_true, if_true] at h
        cases e : cells.lookup n with
        | none => rw [e] at h; exact .inl h
        | some c' =>
          rw [e] at h
          simp only [List.lookup_cons] at h
          by_cases hx : x = n
          · subst hx
            simp only [beq_self_eq_true] at h
            cases h
            exact .inr ⟨e, List.mem_cons_self⟩
          · have hb : (x == n) = false := by simpa using hx
            rw [hb] at h
            exact .inl h
      · have hb : (k == NameKind.free) = false := by simpa using hk
        rw [hb] at h
        exact .inl h
    · exact .inr ⟨h1, List.mem_cons_of_mem _ h2⟩
theorem closL_keep {cells : List (Str × Addr)} : ∀ {l : List (Str × NameKind)} {cs : List (Str × Addr)} {x : Str}, (cs.lookup x).isSome = true → ((closL cells l cs).lookup x).isSome = true
  | [], _, _, h => h
  | (n, k) :: r, cs, x, h => by
    unfold closL
    refine closL_keep ?_
    split
    · split
      · simp only [List.lookup_cons]
        split
        · rfl
        · exact h
      · exact h
    · exact h
theorem closL_has {cells : List (Str × Addr)} : ∀ {l : List (Str × NameKind)} {cs : List (Str × Addr)} {x : Str} {c : Addr}, (x, NameKind.free) ∈ l → cells.lookup x = some c → ((closL cells l cs).lookup x).isSome = true
  | (n, k) :: r, cs, x, c, hm, hc => by
    unfold closL
    rcases List.mem_cons.mp hm with e | hm
    · cases e
      refine closL_keep ?_
      simp only [beq_self_eq_true, if_true, hc, List.lookup_cons]
      rfl
    · exact closL_has hm hc

/-- the static facts of a block: its names by kind, the block's slots by the def's -/
def lcStat (sc : Scope) (names : List (Str × NameKind)) (N N' : List Str) (ix : List (Option Nat)) : Bool :=
  sc.kind == .function && sc.names.all (fun y => y.2 != .cell && (y.2 != .local || sc.names.lookup y.1 == some .local) && (y.2 != .free || (names.lookup y.1 == some .cell && sc.names.lookup y.1 == some .free)) ) &&
  ix.length == N'.length && (List.range ix.length).all (fun i => match ix.getD i none with
    | none => true
    | some j => (match N'[i]?, N[j]? with | some x, some y => x == y && sc.names.lookup x == some .free | _, _ => false))
def pick (ix : List (Option Nat)) (σ : St) : St := ix.map fun o => o.bind fun j => (σ[j]?).join

structure LcOk (X : Cx) (sc : Scope) (N' : List Str) (ix : List (Option Nat)) : Prop where
  kind : sc.kind = .function
  cell : ∀ y ∈ sc.names, y.2 ≠ .cell
  names : ∀ y ∈ sc.names, y.2 = .local → sc.names.lookup y.1 = some .local
  free : ∀ y ∈ sc.names, y.2 = .free → X.env.kindOf y.1 = some .cell ∧ sc.names.lookup y.1 = some .free
  len : ix.length = N'.length
  at_ : ∀ (i j : Nat), ix[i]? = some (some j) → ∃ x, N'[i]? = some x ∧ X.N[j]? = some x ∧ sc.names.lookup x = some .free
theorem LcOk.of {X : Cx} {sc : Scope} {N' : List Str} {ix : List (Option Nat)} (h : lcStat sc X.env.scope.names X.N N' ix = true) : LcOk X sc N' ix := by
  unfold lcStat at h
  simp only [Bool.and_eq_true, List.all_eq_true] at h
  obtain ⟨⟨⟨h1, h2⟩, h3⟩, h4⟩ := h
  refine ⟨by simpa using h1, fun y hy => ?_, fun y hy hk => ?_, fun y hy hk => ?_, by simpa using h3, fun i j e => ?_⟩
  · simpa using (h2 y hy).1.1
  · have q := (h2 y hy).1.2
    rw [hk] at q
    simpa using q
  · have q := (h2 y hy).2
    rw [hk] at q
    simp only [bne_self_eq_false, Bool.false_or, Bool.and_eq_true, beq_iff_eq] at q
    exact q
  · have hi : i < ix.length := (List.getElem?_eq_some_iff.mp e).1
    have := h4 i (List.mem_range.mpr hi)
    have eg : ix.getD i none = some j := by rw [List.getD_eq_getElem?_getD, e]; rfl
    rw [eg] at this
    dsimp only at this
    cases e1 : N'[i]? with
    | none => rw [e1] at this; simp at this
    | some x =>
      cases e2 : X.N[j]? with
      | none => rw [e1, e2] at this; simp at this
      | some y =>
        rw [e1, e2] at this
        simp only [Bool.and_eq_true, beq_iff_eq] at this
        exact ⟨x, rfl, by rw [this.1], this.2⟩

/-- the block's context -/
def cxLC (X : Cx) (sc : Scope) (N' : List Str) (pins : List (Addr × Obj)) (C : Addr) (fp : List Addr) (s : Shared) (H : Hp) : Cx :=
  { X with N := N', s₀ := s, H₀ := H, env := compEnvC sc (closL X.env.cells sc.names []) C X.env, outer := X.stack, stack := X.stack, ex := fp, fn := fun _ => false, pn := X.pn ++ pins, xe := fun _ _ => False }

theorem HOk.add {P : Program} {w : World} {H : Hp} {h : Heap} {D : Addr} {o : HO} (x : HOk P w H h) (hn : H D = none) (new : ObjOk P w (upd H D o) h D o) : HOk P w (upd H D o) h := fun b u e => by
  by_cases hb : b = D
  · subst hb; rw [upd_same] at e; cases e; exact new
  · rw [upd_ne hb] at e
    exact (x b u e).stay (fun _ _ _ q => q) (fun c q => by rw [upd_ne (ne_of_none q hn)]; exact q) fun c xs q => by rw [upd_ne (ne_of_none q hn)]; exact q
theorem HOk.but {P : Program} {w : World} {H : Hp} {h h' : Heap} {C : Addr} (x : HOk P w H h) (hn : H C = none) (k : ∀ b u, b ≠ C → h.get? b = some u → h'.get? b = some u) : HOk P w H h' := fun b u e =>
  (x b u e).stay (fun c v hc q => k c v (by
    rcases hc with z | z
    · rw [z]; exact ne_of_none e hn
    · exact ne_of_none z hn) q) (fun _ q => q) fun _ _ q => q

theorem relabel_look {sc : Scope} {env : Env} (hk : env.scope.kind = .function) (hf : ∀ y ∈ sc.names, y.2 = .free → env.kindOf y.1 = some .cell) :
    ∀ x, (relabel sc env).names.lookup x = (sc.names.lookup x).map fun k => if k == .free then .cell else k := by
  intro x
  have em : (relabel sc env).names = sc.names.map fun y => (y.1, if y.2 == .free then NameKind.cell else y.2) := by
    show sc.names.map _ = _
    refine List.map_congr_left fun y hy => ?_
    obtain ⟨n, k⟩ := y
    by_cases hk' : k = .free
    · subst hk'
      have e : env.kindOf n = some .cell := hf (n, .free) hy rfl
      simp [hk, e]
    · have hb : (k == NameKind.free) = false := by simpa using hk'
      simp [hb]
  rw [em]
  generalize sc.names = l
  induction l with
  | nil => rfl
  | cons y r ih =>
    obtain ⟨n, k⟩ := y
    simp only [List.map_cons, List.lookup_cons]
    cases x == n with
    | true => rfl
    | false => exact ih

section
variable {X : Cx} {sc : Scope} {N' : List Str} {ix : List (Option Nat)}
theorem pick_get {σ : St} {i : Nat} {v : V} (h : (pick ix σ)[i]? = some (some v)) : ∃ j, ix[i]? = some (some j) ∧ σ[j]? = some (some v) := by
  unfold pick at h
  rw [List.getElem?_map] at h
  cases e : ix[i]? with
  | none => rw [e] at h; cases h
  | some o =>
    rw [e] at h
    have h' : (o.bind fun j => (σ[j]?).join) = some v := Option.some.inj h
    cases o with
    | none => cases h'
    | some j =>
      have h'' : (σ[j]?).join = some v := h'
      cases e2 : σ[j]? with
      | none => rw [e2] at h''; cases h''
      | some z =>
        rw [e2] at h''
        have : z = some v := h''
        exact ⟨j, rfl, by rw [e2, this]⟩

/-- the block begins -/
theorem inv_lc {pins : List (Addr × Obj)} {σ : St} {H : Hp} {s : Shared} {fp : List Addr} {h₁ : Heap} {C : Addr} {tk : Nat} {m : Str → Option Value} (I : Inv X pins σ H s) (L : LcOk X sc N' ix) (f : ∀ b ∈ fp, FpOk X pins H b) (fl : ∀ b ∈ fp, b < s.heap.objs.size)
    (hC : s.heap.objs.size ≤ C) (hns : h₁.Ns C m) (old : ∀ b o, s.heap.get? b = some o → h₁.get? b = some o) :
    Inv (cxLC X sc N' pins C fp s H) [] (pick ix σ) H { s with heap := h₁, toks := tk } := by
  have cof : ∀ x c, (closL X.env.cells sc.names []).lookup x = some c → X.env.cells.lookup x = some c ∧ (x, NameKind.free) ∈ sc.names := fun x c h => by
    rcases closL_of h with h | h
    · cases h
    · exact h
  have rl := relabel_look (sc := sc) (env := X.env) I.ok.kind fun y hy hk => (L.free y hy hk).1
  have chas : ∀ x, sc.names.lookup x = some .free → ∃ c, (closL X.env.cells sc.names []).lookup x = some c ∧ X.env.cells.lookup x = some c := fun x hx => by
    have hm : (x, NameKind.free) ∈ sc.names := PySem.mem_of_lookup hx
    obtain ⟨c, hc⟩ := I.ok.has x (.inl (L.free _ hm rfl).1)
    obtain ⟨c', hc'⟩ := Option.isSome_iff_exists.mp (closL_has (cs := []) hm hc)
    exact ⟨c', hc', (cof x c' hc').1⟩
  refine ⟨⟨I.ok.mod, L.kind, I.ok.glob, I.ok.blt, hC, fun x y c h1 h2 => I.ok.inj x y c (cof x c h1).1 (cof y c h2).1, fun x hx => ?_, fun x c h => (nomatch h), I.ok.hd, I.ok.frames, .inl rfl, fun b hb => ⟨Nat.ne_of_lt (Nat.lt_of_lt_of_le (fl b hb) hC), fun x c h => (f b hb).2.2.2.2.1 x c (cof x c h).1⟩,
      I.bs, Nat.le_trans I.ok.bsz I.sz, fun b o e hb => ?_, fun b hb z => ?_, I.stack, I.stkFree⟩, rfl, I.bare, Un.kept old, ⟨m, hns, fun i x v e1 e2 e3 => ?_⟩, fun x c h => ?_, I.hok.fresh hC, fun x c h => I.freeC x c (cof x c h).1, fun p hp => ?_, I.hok.kept old, ?_, I.hdk⟩
  · have hx' : (relabel sc X.env).names.lookup x = some .cell ∨ (relabel sc X.env).names.lookup x = some .free := hx
    rw [rl x] at hx'
    cases e : sc.names.lookup x with
    | none => rw [e] at hx'; simp at hx'
    | some k =>
      have hk : k = .free := by
        cases k with
        | free => rfl
        | cell => exact absurd rfl (L.cell _ (PySem.mem_of_lookup e))
        | _ => rw [e] at hx'; revert hx'; decide
      subst hk
      obtain ⟨c, h1, _⟩ := chas x e
      exact ⟨c, h1⟩
  · rcases (f b hb).2.2.2.1 with z | z
    · exact I.ok.noex b o e z
    · exact absurd (Nat.lt_of_lt_of_le (Heap.lt_size (I.ok.bs b o e).1) z) (Nat.lt_irrefl _)
  · rcases List.mem_cons.mp (I.stkSub b z) with e | e
    · exact (f b hb).2.1 e
    · exact (f b hb).2.2.1 e
  · obtain ⟨j, hj, hv⟩ := pick_get e2
    obtain ⟨y, n1, n2, n3⟩ := L.at_ i j hj
    have exy : x = y := Option.some.inj ((show N'[i]? = some x from e1).symm.trans n1)
    subst exy
    obtain ⟨c, c1, c2⟩ := chas x n3
    have kf := (L.free _ (PySem.mem_of_lookup n3) rfl).1
    obtain ⟨m0, hn0, hl⟩ := I.loc
    obtain ⟨u, r, l⟩ := hl j x v n2 hv (.inr (.inl kf))
    refine ⟨u, r, .inr ⟨.inl ?_, c, c1, ?_⟩⟩
    · show (relabel sc X.env).names.lookup x = some .cell
      rw [rl x, n3]; rfl
    · rcases l with ⟨hk, _⟩ | ⟨_, c', hc', z⟩
      · have kf' : X.env.kindOf x = some .cell := kf
        rw [hk] at kf'; cases kf'
      · rw [c2] at hc'
        cases hc'
        obtain ⟨oc, ho, hd⟩ := z
        exact ⟨oc, old _ _ ho, hd⟩
  · obtain ⟨v, oc, ho, hd⟩ := I.cell x c (cof x c h).1
    exact ⟨v, oc, old _ _ ho, hd⟩
  · have hp' : p ∈ X.pn ++ pins := by
      have : p ∈ (X.pn ++ pins) ++ [] := hp
      simpa using this
    obtain ⟨a, b, c, d, e⟩ := I.pin p hp'
    exact ⟨old _ _ a, b, Nat.ne_of_lt (Nat.lt_of_lt_of_le (Heap.lt_size a) hC), fun z => (List.mem_cons.mp (I.stkSub p.1 z)).elim c d, e⟩
  · show (pick ix σ).length = N'.length
    unfold pick
    rw [List.length_map, L.len]
end

/-- the block's tests -/
def PTs (X : Cx) (ifs : List Expr) (t : TT) : Prop :=
  ∀ (pins : List (Addr × Obj)) (s : Shared) (σ : St) (H : Hp) (Q : Bool → Hp → Prop), Inv X pins σ H s → t σ H Q →
    wpAny (model X.prog X.w) X.A (forIn ifs true fun c r => if r = true then do let ok ← isTrue c X.env (eval c X.env); pure (ForInStep.yield ok) else pure (ForInStep.yield r)) (TP X pins σ Q) X.xe s
def tAll : TT := fun _ H Q => Q true H
theorem pts_nil {X : Cx} : PTs X [] tAll := fun _ _ _ H _ I h => wpAny_tests_nil ⟨H, I, h⟩
theorem compLoop_gen {prog : Program} {w : World} {A : Around} {R : Result → Shared → Prop} {s : Shared} {elt target iter : Expr} {ifs : List Expr} {scope : Scope} {pos : Pos} {it acc : Value} {env : Env} (I : Nat → Shared → Prop)
    (turn : ∀ n s, I n s → wpAny (model prog w) A (pyNext it) (fun r s₁ => match r with
      | none => R (.ok .next) s₁
      | some v => wpAny (model prog w) A (letOwnedTupleGo target it v) (fun _ s₁' => wpAny (model prog w) A (assign target env v) (fun _ s₂ =>
          wpAny (model prog w) A (forIn ifs true fun c r => if r = true then do let ok ← isTrue c env (eval c env); pure (ForInStep.yield ok) else pure (ForInStep.yield r)) (fun ok s₃ =>
            if ok = true then wpAny (model prog w) A (eval elt env) (fun x s₄ =>
              wpAny (model prog w) A (call (.builtin "list.append") [acc, x]) (fun _ s₅ => ∃ m, m < n ∧ I m s₅) (fun _ _ => False) s₄) (fun _ _ => False) s₃
            else ∃ m, m < n ∧ I m s₃) (fun _ _ => False) s₂) (fun _ _ => False) s₁') (fun _ _ => False) s₁) (fun _ _ => False) s)
    (n : Nat) (h : I n s) : codeAny (model prog w) A (.compLoop (.ListComp elt [⟨target, iter, ifs, 0⟩] scope pos) 0 it acc env) R s := by
  refine codeAny_loop rfl I (fun n s hI => ?_) n h
  show wpAny _ A ((compTurn (.ListComp elt [⟨target, iter, ifs, 0⟩] scope pos) 0 it acc env).onRaise (fun x => do noteFrame x env; theTreesLotGoes x)) _ _ s
  refine wpAny_noted (wpAny_mono (E := fun _ _ => False) ?_ (fun _ _ q => q) fun _ _ z => z.elim)
  rw [compTurn_list]
  refine wpAny_bind (wpAny_standAt (wpAny_bind (wpAny_mono (turn n s hI) (fun r s₁ h₁ => ?_) fun _ _ h' => h')))
  cases r with
  | none => exact wpAny_pure h₁
  | some v =>
    refine wpAny_bind (wpAny_mono h₁ (fun _ s₁' h₁' => ?_) fun _ _ h' => h')
    refine wpAny_bind (wpAny_mono h₁' (fun _ s₂ h₂ => wpAny_bind (wpAny_mono h₂ (fun ok s₃ h₃ => ?_) fun _ _ h' => h')) fun _ _ h' => h')
    cases ok with
    | false => exact wpAny_pure ⟨rfl, h₃⟩
    | true => exact wpAny_bind (wpAny_bind (wpAny_mono h₃ (fun x s₄ h₄ => wpAny_bind (wpAny_mono h₄ (fun _ s₅ h₅ => wpAny_pure (wpAny_pure ⟨rfl, h₅⟩)) fun _ _ h' => h')) fun _ _ h' => h'))

/-- [elt for tg in iter if ..]: W by the turn, a measure, the block's slots, what is gathered, the heap -/
def tLC (ix : List (Option Nat)) (wi : TI) (g : TG) (tt : TT) (te : TE) : TE := fun σ H Q => wi σ H fun J H1 => ∃ W : Nat → Nat → St → List V → Hp → Prop, (∃ m, W 0 m (pick ix σ) [] H1) ∧ ∀ i m τ ys H2, W i m τ ys H2 → ys.length < sizeLine ∧
  ((J.stop i H2 ∧ ∀ D, H2 D = none → Q (.ref D) (upd H2 D (.lst ys))) ∨
   (J.go i H2 ∧ ∀ x H3, J.yld i H2 x H3 → g x τ H3 fun τ1 H4 => tt τ1 H4 fun ok H5 => if ok = true then te τ1 H5 fun y H6 => ∃ m', m' < m ∧ W (i + 1) m' τ1 (ys ++ [y]) H6 else ∃ m', m' < m ∧ W (i + 1) m' τ1 ys H5))

theorem pe_lc {c : Bool} {X : Cx} {elt tg iter : Expr} {ifs : List Expr} {sc : Scope} {pos : Pos} {N' : List Str} {ix : List (Option Nat)} {wi : TI} {g : TG} {tt : TT} {te : TE} (hc : c = true → X.calm = true) (L : LcOk X sc N' ix) (hi : PIc c X tg iter wi)
    (hg : ∀ pins C fp s H, PG (cxLC X sc N' pins C fp s H) tg g) (ht : ∀ pins C fp s H, PTs (cxLC X sc N' pins C fp s H) ifs tt) (he : ∀ pins C fp s H, PE (cxLC X sc N' pins C fp s H) elt te)
    (hs : ∀ x, foldedSetIterable iter X.env x = pure x := by intro _; rfl) : PE X (.ListComp elt [⟨tg, iter, ifs, 0⟩] sc pos) (tLC ix wi g tt te) := by
  intro pins s σ H Q I h
  rw [eval_ListComp]
  have hclos : closureFor sc X.env = pure (closL X.env.cells sc.names []) := closureFor_eq fun y hy hk => I.ok.has y.1 (.inl (L.free y hy hk).1)
  refine wpAny_comprehension_free (use := none) rfl hs hclos L.kind L.names (thn (hi pins s σ H _ I h) fun v s1 h1 => thn h1 fun itv s2 h2 => ?_)
  obtain ⟨it, fp, tn, J, H2, e, I2, T, st2, f2, W, ⟨m0, w0⟩, turn⟩ := h2
  subst e
  refine wpAny_newObj_type (wpAny_newFunctionEnv L.cell (by intro y hy; simp at hy) (fun h₁ hns₁ hsb₁ => ?_) L.kind)
  dsimp only at hns₁ hsb₁ ⊢
  generalize hH2 : s2.heap.push { cls := .type "list", dict := none, data := .seq ([] : List Value).toArray } = G2 at hns₁ hsb₁ ⊢
  have hC : G2.objs.size = s2.heap.objs.size + 1 := by rw [← hH2, Heap.size_push]
  have hDC : s2.heap.objs.size ≠ G2.objs.size := by rw [hC]; exact Nat.ne_of_lt (Nat.lt_succ_self _)
  have hCle : s2.heap.objs.size ≤ G2.objs.size := by rw [hC]; exact Nat.le_succ _
  have below : ∀ b, b < s2.heap.objs.size → b ≠ G2.objs.size ∧ b ≠ s2.heap.objs.size := fun b hb => ⟨by rw [hC]; exact Nat.ne_of_lt (Nat.lt_succ_of_lt hb), Nat.ne_of_lt hb⟩
  have old : ∀ b o, s2.heap.get? b = some o → h₁.get? b = some o := fun b o e => hsb₁.extBut b o (below b (Heap.lt_size e)).1 (Heap.get?_push_of_some _ (hH2 ▸ Heap.get?_push_of_some _ e))
  have hacc : h₁.get? s2.heap.objs.size = some { cls := .type "list", data := .seq ([] : List Value).toArray 0 } := hsb₁.extBut _ _ hDC (Heap.get?_push_of_some _ (hH2 ▸ Heap.get?_push_size _ rfl))
  have fl : ∀ b ∈ fp, b < s2.heap.objs.size := fun b hb => by
    obtain ⟨o, e, _⟩ := T.obj 0 _ st2 b hb
    exact Heap.lt_size e
  have hDfp : s2.heap.objs.size ∉ fp := fun z => Nat.lt_irrefl _ (fl _ z)
  generalize hD : s2.heap.objs.size = D at *
  generalize hCe : G2.objs.size = C at *
  have cof : ∀ x c, (closL X.env.cells sc.names []).lookup x = some c → X.env.cells.lookup x = some c := fun x c h => by
    rcases closL_of h with h | h
    · cases h
    · exact h.1
  have st1 : tn 0 h₁ := T.keep _ _ _ st2 fun b _ o e => old b o e
  have I3 : Inv (cxLC X sc N' pins C fp s2 H2) [] (pick ix σ) H2 { s2 with heap := h₁, toks := s2.toks + ([] : List (Str × Value)).length } := inv_lc I2 L f2 (fun b hb => by rw [hD]; exact fl b hb) (by rw [hD]; exact hCle) hns₁ old
  have D0 : H2 D = none := I2.hok.fresh (Nat.le_of_eq hD)
  -- what stays of the accumulator and the iterator's objects
  have fD : ∀ {H' : Hp}, H' D = none → FpOk (cxLC X sc N' pins C fp s2 H2) [] H' D := fun {H'} hn => by
    refine ⟨hn, hDC, fun z => ?_, .inr (Nat.le_of_eq hD), fun x c hx z => ?_, fun p hp z => ?_⟩
    · obtain ⟨_, o, ho, _⟩ := I2.stack.mem (show D ∈ frs X.stack from z)
      exact absurd (Heap.lt_size ho) (by rw [hD]; exact Nat.lt_irrefl _)
    · obtain ⟨v, q⟩ := I2.cell x c (cof x c hx)
      have := q.lt
      rw [z, hD] at this
      exact Nat.lt_irrefl _ this
    · have hp' : p ∈ X.pn ++ pins := by
        have : p ∈ (X.pn ++ pins) ++ [] := hp
        simpa using this
      have := Heap.lt_size (I2.pin p hp').1
      rw [z, hD] at this
      exact Nat.lt_irrefl _ this
  have fF : ∀ {H' : Hp}, (∀ b ∈ fp, H' b = none) → ∀ b ∈ fp, FpOk (cxLC X sc N' pins C fp s2 H2) [] H' b := fun {H'} hn b hb => by
    obtain ⟨_, g1, g2, g3, g4, g5⟩ := f2 b hb
    refine ⟨hn b hb, (below b (fl b hb)).1, fun z => ?_, .inl hb, fun x c hx => g4 x c (cof x c hx), fun p hp => g5 p ?_⟩
    · rcases List.mem_cons.mp (I2.stkSub b z) with e | e
      · exact g1 e
      · exact g2 e
    · have : p ∈ (X.pn ++ pins) ++ [] := hp
      simpa using this
  have loop : ∀ s₃ : Shared, s₃ = { s2 with heap := h₁, toks := s2.toks + ([] : List (Str × Value)).length } →
      codeAny (model X.prog X.w) X.A (.compLoop (.ListComp elt [⟨tg, iter, ifs, 0⟩] sc pos) 0 (.ref it) (.ref D) (compEnvC sc (closL X.env.cells sc.names []) C X.env))
        (compPost (model X.prog X.w) X.A X.xe none (EP X pins σ Q) (.ref D) C) s₃ := by
    rintro s₃ rfl
    refine compLoop_gen (fun n s' => ∃ i τ ys H', Inv (cxLC X sc N' pins C fp s2 H2) [] τ H' s' ∧ tn i s'.heap ∧ (∀ b ∈ fp, H' b = none) ∧ H' D = none ∧ (∃ its k, Vals ys its ∧ s'.heap.get? D = some { cls := .type "list", data := .seq its.toArray k }) ∧ W i n τ ys H')
      ?_ m0 ⟨0, _, [], H2, I3, st1, fun b hb => (f2 b hb).1, D0, ⟨[], 0, .nil, hacc⟩, w0⟩
    rintro n s4 ⟨i, τ, ys, H4, I4, st4, fr4, dn4, ⟨its, k, rv, dg⟩, w4⟩
    obtain ⟨hlen, step⟩ := turn i n τ ys H4 w4
    rcases step with ⟨stop, fin⟩ | ⟨go, step⟩
    · refine thn (T.done (cxLC X sc N' pins C fp s2 H2) rfl rfl rfl hc i [(D, ({ cls := .type "list", data := .seq its.toArray k } : Obj))] s4 τ H4 (fun _ _ => False) (I4.pins_of fun p hp => ?_) (fun b hb => ?_) st4 stop) fun r s5 ⟨hr, I5⟩ => ?_
      · have e : p = (D, { cls := .type "list", data := .seq its.toArray k }) := by simpa using hp
        subst e
        obtain ⟨g0, g1, g2, _⟩ := fD dn4
        exact ⟨dg, g0, g1, g2, fun v z => (nomatch z)⟩
      · obtain ⟨g0, g1, g2, g3, g4, g5⟩ := fF fr4 b hb
        refine ⟨g0, g1, g2, g3, g4, fun p hp => ?_⟩
        rcases List.mem_append.mp hp with z | z
        · exact g5 p (List.mem_append_left _ z)
        · have e : p = (D, { cls := .type "list", data := .seq its.toArray k }) := by simpa using z
          subst e
          exact fun q => hDfp (by have q' : D = b := q; rw [q']; exact hb)
      · subst hr
        have dg5 := (I5.pin (D, _) (List.mem_append_right _ (List.mem_singleton.mpr rfl))).1
        obtain ⟨m5, hn5, _⟩ := id I5.loc
        refine ⟨m5, hn5, fun h' hsb => ?_⟩
        have kb : ∀ b u, b ≠ C → s5.heap.get? b = some u → h'.get? b = some u := fun b u hb e => (hsb.2 b hb).trans e
        have hlt : ∀ b o, s2.heap.get? b = some o → b ≠ C ∧ b ≠ D := fun b o e => by
          have := Heap.lt_size e
          rw [hD] at this
          exact below b this
        have U := I5.base
        refine ⟨.ref D, upd H4 D (.lst ys), I2.call' (s' := { s5 with heap := h' }) (ch := fp) I5.os ⟨fun b o e n hb hx => kb b o (hlt b o e).1 (U.keep b o e n hb hx), fun b o e n hb hx => ?_, fun b o e n hx => ?_, fun b o e hx => ?_, fun b xs e => ?_, fun b o u e => ?_, fun b ps e => ?_⟩ ?_ I5.bare (fun b hb => ?_), rfl, fin D dn4⟩
        · obtain ⟨sl, q⟩ := U.slot b o e n hb hx
          exact ⟨sl, kb b _ (hlt b o e).1 q⟩
        · rw [upd_ne (hlt b o e).2]
          exact U.free b o e n hx
        · obtain ⟨o', q⟩ := U.there b o e hx
          exact ⟨o', kb b _ (hlt b o e).1 q⟩
        · have q := U.tups b xs e
          rw [upd_ne (ne_of_none q dn4)]
          exact q
        · have q := U.frzs b o u e
          rw [upd_ne (ne_of_none q dn4)]
          exact q
        · obtain ⟨more, q⟩ := U.tbls b ps e
          exact ⟨more, by rw [upd_ne (ne_of_none q dn4)]; exact q⟩
        · refine (I5.hok.but I5.free kb).add dn4 ?_
          exact ⟨Nat.le_of_lt hlen, its, k, rv, kb _ _ hDC dg5⟩
        · obtain ⟨_, g1, g2, g3, g4, g5⟩ := f2 b hb
          exact ⟨g3, g1, g4, g5⟩
    · refine thn (T.item (cxLC X sc N' pins C fp s2 H2) rfl rfl rfl hc i [(D, ({ cls := .type "list", data := .seq its.toArray k } : Obj))] s4 τ H4 (fun _ _ => False) (I4.pins_of fun p hp => ?_) (fun b hb => ?_) st4 go) fun r s5 ⟨u, hr, h5⟩ => ?_
      · have e : p = (D, { cls := .type "list", data := .seq its.toArray k }) := by simpa using hp
        subst e
        obtain ⟨g0, g1, g2, _⟩ := fD dn4
        exact ⟨dg, g0, g1, g2, fun v z => (nomatch z)⟩
      · obtain ⟨g0, g1, g2, g3, g4, g5⟩ := fF fr4 b hb
        refine ⟨g0, g1, g2, g3, g4, fun p hp => ?_⟩
        rcases List.mem_append.mp hp with z | z
        · exact g5 p (List.mem_append_left _ z)
        · have e : p = (D, { cls := .type "list", data := .seq its.toArray k }) := by simpa using z
          subst e
          exact fun q => hDfp (by have q' : D = b := q; rw [q']; exact hb)
      · subst hr
        refine thn h5 fun _ s6 ⟨x, H6, I6, r6, y6, st6, fr6⟩ => ?_
        obtain ⟨dg6, dn6, _⟩ := I6.pin (D, _) (List.mem_append_right _ (List.mem_singleton.mpr rfl))
        have dn6' : H6 D = none := dn6
        have all6 : ∀ b ∈ D :: fp, FpOk (cxLC X sc N' pins C fp s2 H2) [] H6 b := fun b hb => by
          rcases List.mem_cons.mp hb with z | z
          · subst z; exact fD dn6'
          · exact fF fr6 b z
        have obj6 : ∀ b ∈ D :: fp, ∃ o, s6.heap.get? b = some o ∧ ∀ v, o.data ≠ .cell v := fun b hb => by
          rcases List.mem_cons.mp hb with z | z
          · subst z; exact ⟨_, dg6, fun v q => (nomatch q)⟩
          · exact T.obj _ _ st6 b z
        have I6' := (I6.unpinned (pins := [])).pinned all6 obj6
        refine thn (hg pins C fp s2 H2 _ s6 τ H6 x u _ I6' r6 (step x H6 y6)) fun _ s7 ⟨τ7, H7, I7, q7⟩ => ?_
        refine thn (ht pins C fp s2 H2 _ s7 τ7 H7 _ I7 q7) fun ok s8 ⟨H8, I8, q8⟩ => ?_
        have back : ∀ {s9 : Shared} {H9 : Hp}, Inv (cxLC X sc N' pins C fp s2 H2) ([] ++ pinsAt (D :: fp) s6.heap) τ7 H9 s9 → s9.heap.get? D = some { cls := .type "list", data := .seq its.toArray k } ∧ H9 D = none ∧ tn (i + 1) s9.heap ∧ ∀ b ∈ fp, H9 b = none := fun {s9 H9} I9 => by
          have pin : ∀ b o, b ∈ D :: fp → s6.heap.get? b = some o → s9.heap.get? b = some o ∧ H9 b = none := fun b o hb e => by
            have q := I9.pin (b, o) (List.mem_append_right _ (List.mem_append_right _ (mem_pinsAt hb e)))
            exact ⟨q.1, q.2.1⟩
          refine ⟨(pin D _ List.mem_cons_self dg6).1, (pin D _ List.mem_cons_self dg6).2, T.keep _ _ _ st6 fun b hb o e => (pin b o (List.mem_cons_of_mem _ hb) e).1, fun b hb => ?_⟩
          obtain ⟨o, e, _⟩ := T.obj _ _ st6 b hb
          exact (pin b o (List.mem_cons_of_mem _ hb) e).2
        cases ok with
        | false =>
          obtain ⟨b1, b2, b3, b4⟩ := back I8
          simp only [Bool.false_eq_true, if_false] at q8 ⊢
          obtain ⟨m', hm, w'⟩ := q8
          exact ⟨m', hm, i + 1, τ7, ys, H8, I8.unpinned, b3, b4, b2, ⟨its, k, rv, b1⟩, w'⟩
        | true =>
          simp only [if_true] at q8 ⊢
          refine thn (he pins C fp s2 H2 _ s8 τ7 H8 _ I8 q8) fun y s9 ⟨yv, H9, I9, r9, m', hm, w'⟩ => ?_
          obtain ⟨b1, b2, b3, b4⟩ := back I9
          have el : its.toArray.size ≤ sizeLine := by
            have := rv.length
            simp only [List.size_toArray]
            omega
          refine append_at (hsz := el) b1 fun h10 sb hD10 => ?_
          obtain ⟨_, g1, _, g3, g4, g5⟩ := fD b2
          refine ⟨m', hm, i + 1, τ7, ys ++ [yv], H9, (I9.unpinned (pins := [])).turned (t' := s9.toks) (fun b o hb e => (sb.2 b hb).trans e) b2 g1 g3 g4 g5, T.keep _ _ _ b3 fun b hb o e => (sb.2 b fun q => hDfp (by rw [← q]; exact hb)).trans e, b4, b2, ⟨its ++ [y], k + 1, rv.append (.cons r9 .nil), ?_⟩, w'⟩
          show h10.get? D = _
          rw [hD10]
          simp
  exact codeAny_compStart_list (loop _ rfl) (T.self _ 0 _ _ _ st1 (loop _ rfl))
end L2
set_option Elab.async false
set_option linter.all false
set_option maxRecDepth 100000
set_option maxHeartbeats 4000000
namespace L2
open PySem PySem.Spec PyProof.Rows

/-! ### an exception under way -/
/-- e of the class cls flies over the frames l; no context hangs on it; its newest entry, if there is one, stands in flight fl; what B holds stays -/
structure FlyZ (B : Heap) (l : List Env) (e : Addr) (cls fl : Value) (h : Heap) : Prop where
  stays : B.StaysIn h
  new : B.get? e = none
  frames : h.FunFrames B l
  obj : ∃ oe vs, h.get? e = some oe ∧ oe.cls = cls ∧ oe.dict = none ∧ oe.data = .fields vs ∧ 2 < vs.size ∧ vs[2]? = some .none ∧
    (vs[1]? = some .none ∨ ∃ T oT ts, vs[1]? = some (.ref T) ∧ B.get? T = none ∧ T ≠ e ∧ h.get? T = some oT ∧ oT.data = .fields ts ∧ ts[3]? = some fl)

section
variable {M : Model} {A : Around} {E : Value → Shared → Prop} {s : Shared} {B : Heap} {env : Env} {outer l : List Env} {L e : Addr} {cls fl : Value}
end

/-! ### how an exception lies behind a call -/
def CXW (P : Program) (w : World) : CXT := fun outer H s E e s' => ∃ (ea C : Addr) (B : Heap) (H' : Hp) (sI : Shared), e = .ref ea ∧ FlyZ B outer ea (.ref C) .none s'.heap ∧ Un (frs outer) [] H H' s.heap sI.heap ∧ HOk P w H' sI.heap ∧
  sI.os = s.os ∧ AllBare sI.gens ∧ s'.os = s.os ∧ AllBare s'.gens ∧ (∀ b o, sI.heap.get? b = some o → b ∉ frs outer → B.get? b = some o) ∧ sI.heap.UpToSlots s'.heap ∧ E (.ref C) none H'
/-- the context takes an exception of which Ex holds -/
def Throws (X : Cx) (Ex : Addr → St → Hp → Prop) : Prop := ∀ (pins : List (Addr × Obj)) (σ : St) (H : Hp) (sI : Shared) (ea C : Addr) (B : Heap) (fl : Value) (s' : Shared), Inv X pins σ H sI → FlyZ B X.stack ea (.ref C) fl s'.heap → s'.os = sI.os → AllBare s'.gens →
  (∀ b o, sI.heap.get? b = some o → b ∉ frs X.stack → B.get? b = some o) → sI.heap.UpToSlots s'.heap → Ex C σ H → X.xe (.ref ea) s'
theorem Throws.imp {X : Cx} {Ex Ex' : Addr → St → Hp → Prop} (T : Throws X Ex) (h : ∀ C σ H, Ex' C σ H → Ex C σ H) : Throws X Ex' := fun pins σ H sI ea C B fl s' I f a b c d q => T pins σ H sI ea C B fl s' I f a b c d (h _ _ _ q)
/-! ### calls that may raise -/
def XE (Ex : Addr → St → Hp → Prop) (σ : St) : XK := fun c _ H' => ∃ C, c = .ref C ∧ Ex C σ H'
def tCallX (sp : Sp) (dvs : List V) (Ex : Addr → St → Hp → Prop) (t : TA) : TE := fun σ H Q => t σ H fun vs H1 => sp (vs ++ dvs) H1 Q (XE Ex σ)
def tMethX (C : Addr) (m : Str) (sp : Sp) (dvs : List V) (Ex : Addr → St → Hp → Prop) (ta : TE) (t : TA) : TE := fun σ H Q => ta σ H fun x H1 => ∃ a dx fs, x = .ref a ∧ H1 a = some (.ins C dx fs) ∧ fs.lookup m = none ∧
  t σ H1 fun vs H2 => sp (x :: (vs ++ dvs)) H2 Q (XE Ex σ)
section
variable {X : Cx} {cm : Bool} {k : Nat} {f C : Addr} {fd : FuncData} {ps : List Str} {sp : Sp} {dvs : List V} {ds : List Value} {Ex : Addr → St → Hp → Prop} {x m : Str} {p pos apos : Pos} {e o : Expr} {es : List Expr} {ta : TE} {t : TA}
theorem Throws.of {pins : List (Addr × Obj)} {σ : St} {H : Hp} {s s' : Shared} {v : Value} (T : Throws X Ex) (I : Inv X pins σ H s) (h : CXW X.prog X.w X.stack H s (XE Ex σ) v s') : X.xe v s' := by
  obtain ⟨ea, C, B, H', sI, rfl, y, un, hok, os, bare, os', bare', hB, up, C', ec, q⟩ := h
  cases ec
  exact T pins σ H' sI ea C B .none s' (I.call' os un hok bare fun b z => absurd z (by simp)) y (os'.trans os.symm) bare' hB up q
end
/-- no exception leaves a statement -/
theorem PS.nox {X : Cx} {st : Stmt} {t : TS} (h : PS X.nox st t) : PS X st t := fun pins s σ H D I hw =>
  wpAny_mono (h pins s σ H D (I.wish _) hw) (fun _ _ q => q.unwish) fun _ _ z => False.elim z
end L2
set_option Elab.async false
set_option linter.all false
set_option maxRecDepth 100000
set_option maxHeartbeats 4000000
namespace L2
open PySem PySem.Spec PyProof.Rows

/-! ### own error classes under ValueError -/
def bmV : List Value := [.type "ValueError", .type "Exception", .type "BaseException", .type "object"]
/-- the class at C is an own error class whose first built-in base is ValueError -/
def ErrK (K : PySem.W.Frag) (C : Addr) : Prop := PySem.W.excIn K C bmV "ValueError.__new__" = true
structure ErrObj (h : Heap) (C : Addr) (mro : List Value) : Prop where
  ex : ∃ bm N nm q bs hdct sn sub ab col dd k0 k1 k2 k3 k5 mN, mro = .ref C :: bm ∧ h.get? C = some (excClassObj nm q C N bs bm hdct sn sub ab col dd k0 k1 k2 k3 k5 "ValueError.__new__") ∧ h.Ns N mN ∧ mN "__init__" = none ∧ OwnTail h bmV bm
theorem ErrK.obj {K : PySem.W.Frag} {C : Addr} {h : Heap} (x : ErrK K C) (X : K.In h) : ∃ cd, PySem.W.clsIn K C = some cd ∧ ErrObj h C cd.mro := by
  unfold ErrK PySem.W.excIn at x
  split at x
  · rename_i dd cd sl look
    have hc : PySem.W.clsIn K C = some cd := by
      unfold PySem.W.clsIn
      rw [look]
    refine ⟨cd, hc, ?_⟩
    split at x
    · rename_i C' bm k0 k1 k2 k3 n k5 em es
      simp only [Bool.and_eq_true, beq_iff_eq, Bool.not_eq_true'] at x
      obtain ⟨⟨⟨⟨⟨c1, c2⟩, c3⟩, c4⟩, c5⟩, c6⟩ := x
      subst c1 c2
      obtain ⟨a1, a2, a3, a4, a5, a6, a7, a8, a9, a10, a11⟩ := cd
      dsimp only at em c3 c5 c6 ⊢
      subst em c3
      obtain ⟨sl⟩ := sl
      dsimp only at es
      subst es
      exact ⟨bm, a4, a1, a5, a2, a6, a7, a8, a9, a10, dd, k0, k1, k2, k3, k5, _, rfl, X _ _ look, .of_isNs (PySem.W.isNs_of_in X c5), PySem.W.nsMap_none_of_in X c5 c6, PySem.W.tail_of_in X c4⟩
    · cases x
  · cases x

/-! ### raise C(..) -/
def tRaise (C : Addr) (Ex : Addr → St → Hp → Prop) (t : TA) : TS := fun _ σ H => t σ H fun vs H1 => vs.length ≤ sizeLine ∧ Ex C σ H1
/-! ### try .. except D as n -/
section
variable {M : Model} {A : Around} {E : Value → Shared → Prop}
end

theorem ObjOk.ex {P : Program} {w : World} {H : Hp} {h : Heap} {a : Addr} {o : HO} (x : ObjOk P w H h a o) : ∃ ob, h.get? a = some ob := by
  cases o with
  | lst xs => obtain ⟨_, _, _, _, e⟩ := x; exact ⟨_, e⟩
  | tup xs => obtain ⟨_, _, _, o, e, _⟩ := x; exact ⟨_, e⟩
  | dK kvs => obtain ⟨_, _, _, _, o, _, _, e, _⟩ := x; exact ⟨_, e⟩
  | dT kvs => obtain ⟨_, _, _, _, o, _, _, e, _⟩ := x; exact ⟨_, e⟩
  | set S n => obtain ⟨o, _, _, _, e, _⟩ := x; exact ⟨_, e⟩
  | ins C dx fs => obtain ⟨_, _, _, e, _⟩ := x; exact ⟨_, e⟩
  | own y => exact x
  | xd fs => obtain ⟨_, ⟨_, _, _, e, _⟩, _⟩ := x; exact ⟨_, e⟩
  | rng lo hi => obtain ⟨_, _, _, e⟩ := x; exact ⟨_, e⟩
  | frz ob u => exact ⟨_, x.1⟩
  | tbl ps => exact ⟨_, x⟩
  | met f y => exact ⟨_, x⟩
  | ext φ => exact x.2.1

/-- the pins become the context's own -/
abbrev cxP (X : Cx) (pins : List (Addr × Obj)) : Cx := { X with pn := X.pn ++ pins }
theorem Cx.Ok.p {X : Cx} (ok : X.Ok) (pins : List (Addr × Obj)) : (cxP X pins).Ok :=
  ⟨ok.mod, ok.kind, ok.glob, ok.blt, ok.above, ok.inj, ok.has, ok.cab, ok.hd, ok.frames, ok.stk, ok.exf, ok.bs, ok.bsz, ok.noex, ok.exfs, ok.funs, ok.frf⟩
theorem Inv.p {X : Cx} {pins : List (Addr × Obj)} {σ : St} {H : Hp} {s : Shared} (I : Inv X pins σ H s) : Inv (cxP X pins) [] σ H s :=
  ⟨I.ok.p pins, I.os, I.bare, I.base, I.loc, I.cell, I.free, I.freeC, fun p hp => I.pin p (by have h : p ∈ (X.pn ++ pins) ++ [] := hp; simpa using h), I.hok, I.len, I.hdk⟩
theorem Inv.unp {X : Cx} {pins : List (Addr × Obj)} {σ : St} {H : Hp} {s : Shared} (ok : X.Ok) (I : Inv (cxP X pins) [] σ H s) : Inv X pins σ H s :=
  ⟨ok, I.os, I.bare, I.base, I.loc, I.cell, I.free, I.freeC, fun p hp => I.pin p (by show p ∈ (X.pn ++ pins) ++ []; simpa using hp), I.hok, I.len, I.hdk⟩
/-- the body of a try -/
abbrev cxTry (X : Cx) (pins : List (Addr × Obj)) (Ex : Addr → St → Hp → Prop) : Cx := (cxP X pins).wish fun e s' => ∃ (ea C : Addr) (B : Heap) (H' : Hp) (fl : Value) (σ : St) (sI : Shared), e = .ref ea ∧ Inv (cxP X pins) [] σ H' sI ∧ FlyZ B X.stack ea (.ref C) fl s'.heap ∧
  s'.os = sI.os ∧ AllBare s'.gens ∧ (∀ b o, sI.heap.get? b = some o → b ∉ frs X.stack → B.get? b = some o) ∧ sI.heap.UpToSlots s'.heap ∧ Ex C σ H'
/-- an exception's own object -/
def ExcO (C : Addr) (o : Obj) : Prop := o.cls = .ref C ∧ o.dict = none ∧ ∃ vs, o.data = .fields vs
end L2
set_option Elab.async false
set_option linter.all false
set_option maxRecDepth 100000
set_option maxHeartbeats 4000000
namespace L2
open PySem PySem.Spec PyProof.Rows PySem.W
section
variable {prog : Program} {w : World} {A : Around} {E : Value → Shared → Prop} {K : Frag} {h : Heap} {g : Array GenState} {d : Drawn} {t : Nat} {os : OsState} {e C : Addr} {oe : Obj}
theorem exc_getattribute {tk : Tok} {Q : Fin → Shared → Prop} (X : K.In h) (I : InstAt h e oe C none) (f3 : findIn K (.ref C) "__class__" = some (some (.builtin "object.__class__"))) (hm : mroIn K C (.type "object") = some true)
    (hq : Q (.done (.ret (.ref C))) ⟨h, g, d, t, os⟩) : wpAny (model prog w) A (Builtin.«object.__getattribute__» ⟨[.ref e, .str "__class__" tk], []⟩) Q E ⟨h, g, d, t, os⟩ := by
  have L0 := I.type (M := model prog w)
  have L3 := looks_findIn (M := model prog w) X f3
  have f5 := F.typeOf_object_class
  have f6 := F.slot_gs_get.lookup
  have f7 := F.slot_gs_set.lookup
  repeat (any_goals (first | assumption | with_reducible refine L0.at ?_ | with_reducible refine L3.at ?_ | wp_step))
  exact class_get (s := ⟨h, g, d, t, os⟩) X I hm (wpAny_pure hq)
theorem exc_check {nameV : Value} {Q : Unit → Shared → Prop} (X : K.In h) (I : InstAt h e oe C none) (hb : mroIn K C (.type "BaseException") = some true) (hq : Q () ⟨h, g, d, t, os⟩) :
    wpAny (model prog w) A (checkBuiltinCall "BaseException.__getattribute__" ⟨[.ref e, nameV], []⟩) Q E ⟨h, g, d, t, os⟩ := by
  have L0 := I.type (M := model prog w)
  have L4 := looks_mroIn (M := model prog w) X hb
  have c1 : builtinKind "BaseException.__getattribute__" = some .slot := by decide +kernel
  have c2 : splitId "BaseException.__getattribute__" = some ("BaseException", "__getattribute__") := by decide +kernel
  have c3 := F.args_bexc_ga (.ref e) nameV
  simp only [checkBuiltinCall, c1, c2]
  refine wpAny_bind ?_
  unfold isInstance
  repeat (first | with_reducible refine L0.at ?_ | with_reducible refine L4.at ?_ | wp_step)
  exact hq
theorem exc_class {Q : Option Value → Shared → Prop} (X : K.In h) (I : InstAt h e oe C none) (f1 : findIn K (.ref C) "__getattribute__" = some (some (.builtin "BaseException.__getattribute__"))) (f2 : findIn K (.ref C) "__getattr__" = some none)
    (f3 : findIn K (.ref C) "__class__" = some (some (.builtin "object.__class__"))) (hm : mroIn K C (.type "object") = some true) (hb : mroIn K C (.type "BaseException") = some true) (hq : Q (some (.ref C)) ⟨h, g, d, t + 1, os⟩) :
    wpAny (model prog w) A (getAttr? (.ref e) "__class__") Q E ⟨h, g, d, t, os⟩ := by
  have L0 := I.type (M := model prog w)
  have L1 := looks_findIn (M := model prog w) X f1
  have L2 := looks_findIn (M := model prog w) X f2
  have f4 := PySem.F.attr_ValueError.ga.bind (.ref e)
  have x2 : (Value.builtin "BaseException.__getattribute__" == Value.builtin "object.__getattribute__") = false := by decide +kernel
  have x1 : (onTheHeap (Value.ref C) && Value.builtin "BaseException.__getattribute__" == Value.builtin "object.__getattribute__") = false := by rw [x2]; rfl
  have x0 : (false && onTheHeap (Value.builtin "BaseException.__getattribute__")) = false := rfl
  unfold getAttr? getAttrBy?
  refine wpAny_bind (wpAny_mkText (wpAny_bind (wpAny_attempt ?_)))
  repeat (any_goals (first | assumption | with_reducible refine L0.at ?_ | with_reducible refine L1.at ?_ | with_reducible refine L2.at ?_ | wp_step))
  refine codeAny_call_builtin PySem.F.attr_ValueError.ga.plain F.entry_bexc_ga (exc_check X I hb (exc_getattribute X I f3 hm ?_))
  repeat (any_goals (first | assumption | wp_step))
/-- what isinstance asks of an exception's class -/
structure ErrC (K : Frag) (C : Addr) : Prop where
  err : ErrK K C
  ga : findIn K (.ref C) "__getattribute__" = some (some (.builtin "BaseException.__getattribute__"))
  gr : findIn K (.ref C) "__getattr__" = some none
  cl : findIn K (.ref C) "__class__" = some (some (.builtin "object.__class__"))
  ob : mroIn K C (.type "object") = some true
  ba : mroIn K C (.type "BaseException") = some true
theorem kitx_exc (O : ErrC K C) : KitX K (.ref e) (.ref C) (fun h => InstAt h e oe C none) where
  ty := fun _ _ _ I => I.type
  it := fun M h X I => by
    obtain ⟨cd, _, ⟨bm, N, nm, q, bs, hdct, sn, sub, ab, col, dd, k0, k1, k2, k3, k5, mN, _, hC, _⟩⟩ := O.err.obj X
    intro A' Q' E' s' k q'
    unfold isType loadHead
    exact wpAny_bind (wpAny_loadPart (k _ _ hC) (wpAny_pure q'))
  ne := fun h tp dd its n sl X htp => by
    obtain ⟨cd, _, ⟨bm, N, nm, q, bs, hdct, sn, sub, ab, col, d1, k0, k1, k2, k3, k5, mN, _, hC, _⟩⟩ := O.err.obj X
    refine Bool.eq_false_iff.mpr fun z => ?_
    have ec : C = tp := Value.ref.inj (beq_iff_eq.mp z)
    subst ec
    have wd := congrArg Obj.data (Option.some.inj (hC.symm.trans htp))
    cases wd
  ca := fun {prog w A E Q s} X I k => by
    obtain ⟨h, g, d, t, os⟩ := s
    exact exc_class X I O.ga O.gr O.cl O.ob O.ba k
end
/-! ### isinstance -/
/-- a class as a value -/
def clsV : V → Option Value
  | .ref a => some (.ref a)
  | .ty n => some (.type n)
  | _ => none
inductive TyX (K : Frag) (H : Hp) : V → Value → Prop where
  | of {x : V} {t : Value} (h : TyOf K H x t) : TyX K H x t
  | exc {a C : Addr} {o : Obj} (e : H a = some (.frz o (.own 0))) (ho : ExcO C o) (O : ErrC K C) : TyX K H (.ref a) (.ref C)
def rIsi (K : Frag) : List V → Hp → VK → Prop := fun xs H Q => ∃ x c t u b, xs = [x, c] ∧ clsV c = some u ∧ TyX K H x t ∧ kitOne K t u = some b ∧ Q (.bl b) H
theorem call_isi {X : Cx} : CallR X (.builtin "isinstance") (rIsi X.K) := by
  intro pins s σ H xs us Q I r h
  obtain ⟨x, c, t, u, b, rfl, hc, ty, hk, q⟩ := h
  cases r with
  | cons r1 rr =>
    cases rr with
    | cons r2 rr =>
      cases rr
      rename_i v1 v2
      have e2 : v2 = u := by
        cases c with
        | ref a => cases hc; exact r2
        | ty n => cases hc; exact r2
        | _ => cases hc
      subst e2
      cases ty with
      | of ty => exact isinst_ok I r1 ty hk fun tk => ⟨.bl b, H, I.tok tk, rfl, q⟩
      | exc e ho O =>
        rename_i a C o
        obtain rfl : v1 = Value.ref a := r1
        obtain ⟨z, _⟩ := I.hok a _ e
        obtain ⟨c1, c2, vs, c3⟩ := ho
        have J : InstAt s.heap a o C none := ⟨z, c1, by unfold notCls; rw [c3], by rw [c2]; trivial⟩
        exact kia_one (kitx_exc O) I.kIn J hk (fun w => nomatch w) fun tk => ⟨.bl b, H, I.tok tk, rfl, q⟩
end L2
set_option Elab.async false
set_option linter.all false
set_option maxRecDepth 100000
set_option maxHeartbeats 4000000
namespace L2
open PySem PySem.Spec PyProof.Rows

/-! ### the end of a walk, while an exception is handled too -/
def Hnd (A : Around) (h : Heap) : Prop := A.handled = none ∨ ∃ (a : Addr) (o : Obj) (vs : Array Value), A.handled = some (.ref a) ∧ h.get? a = some o ∧ o.data = .fields vs ∧ vs[2]? = some .none ∧ ∃ C, o.cls = .ref C
theorem Inv.hnd {X : Cx} {pins : List (Addr × Obj)} {σ : St} {H : Hp} {s : Shared} (I : Inv X pins σ H s) : Hnd X.A s.heap := by
  rcases I.hdk with h | ⟨a, o, vs, h1, h2, h3⟩
  · exact .inl h
  · exact .inr ⟨a, o, vs, h1, (I.hok a _ h2).1, h3⟩
theorem Hnd.keeps {A : Around} {h h' : Heap} (x : Hnd A h) (k : ∀ b o, (∃ C, o.cls = .ref C) → h.get? b = some o → h'.get? b = some o) : Hnd A h' := by
  rcases x with x | ⟨a, o, vs, h1, h2, h3, h4, h5⟩
  · exact .inl x
  · exact .inr ⟨a, o, vs, h1, k a o h5 h2, h3, h4, h5⟩
theorem entry_unchain : entryFor table "proto.unchain" = some Builtin.«proto.unchain» := entryFor_of_tree (by kernel_rfl)
section
variable {prog : Program} {w : World} {A : Around} {E : Value → Shared → Prop} {s : Shared}
theorem raise_fresh {α : Type} {e : Addr} {oe : Obj} {ws : Array Value} {Q : α → Shared → Prop} (hh : Hnd A s.heap) (he : s.heap.get? e = some oe) (hd : oe.data = .fields ws) (hz : 2 < ws.size) (hc : ∀ C, oe.cls ≠ .ref C)
    (k : ∀ h', Heap.SameBut e s.heap h' → (∃ o, h'.get? e = some o ∧ o.cls = oe.cls) → E (.ref e) { s with heap := h' }) : wpAny (model prog w) A (raiseNew (.ref e) : Sem α) Q E s := by
  unfold raiseNew
  refine wpAny_bind (wpAny_handled ?_)
  rcases hh with hh | ⟨a, o, vs, h1, h2, h3, h4, C, h5⟩
  · rw [hh]
    exact wpAny_bind (wpAny_pure (wpAny_throw (k s.heap (Heap.SameBut.refl _ _) ⟨oe, he, rfl⟩)))
  · rw [h1]
    have ne : a ≠ e := fun z => by rw [z, he] at h2; cases h2; exact hc C h5
    dsimp only
    rw [if_pos (show (Value.ref a != Value.ref e) = true by simpa using ne)]
    refine wpAny_bind (wpAny_holding (wpAny_runValue (codeAny_builtin entry_unchain ?_)))
    refine wpAny_bind (m := field (.ref a) 2) (wpAny_field h2 h3 h4 ?_)
    rw [if_pos (show (Value.none == Value.none) = true by rfl)]
    refine wpAny_pure (wpAny_bind ?_)
    show wpAny _ _ (setField (.ref e) 2 (.ref a)) _ _ _
    have dd := Obj.data_mapFields hd (·.setIfInBounds 2 (Value.ref a))
    exact wpAny_setField he hd hz (wpAny_throw (k _ (Heap.SameBut.update ..) ⟨_, Heap.get?_update_self _ he (Obj.isFreed_of_fields dd), Obj.cls_mapFields _ _⟩))
theorem stop_raised {α : Type} {Q : α → Shared → Prop} (hh : Hnd A s.heap) (k : ∀ h' e, (∀ b o, s.heap.get? b = some o → h'.get? b = some o) → (∃ o, h'.get? e = some o ∧ o.cls = .type "StopIteration") → E (.ref e) { s with heap := h' }) :
    wpAny (model prog w) A (newExc (.type "StopIteration") [] >>= fun e => (raiseNew e : Sem α)) Q E s := by
  refine wpAny_bind ?_
  simp only [newExc, newTuple]
  refine wpAny_bind (wpAny_newObj_type (wpAny_bind (m := firstArgMember _ _) (wpAny_of_eq (a := Value.none) (by first | rfl | (simp only [firstArgMember]; rfl)) (wpAny_newObj_type ?_ (by size_fits)))) (by size_fits))
  have old : ∀ (o1 o2 : Obj) b o, s.heap.get? b = some o → ((s.heap.push o1).push o2).get? b = some o := fun o1 o2 b o q => Heap.get?_push_of_some _ (Heap.get?_push_of_some _ q)
  refine raise_fresh (hh.keeps fun b o _ q => old _ _ b o q) (Heap.get?_push_size _ rfl) rfl (by simp; omega) (fun C z => by cases z) fun h' sb ⟨o, g, c⟩ => k h' _ (fun b o q => ?_) ⟨o, g, c⟩
  refine (sb.2 b (fun z => ?_)).trans (old _ _ b o q)
  have := Heap.lt_size q
  rw [z, Heap.size_push] at this
  exact absurd (Nat.lt_of_succ_lt this) (Nat.lt_irrefl _)
theorem tup_last {it t : Addr} {i : Nat} {items : Array Value} {Q : Option Value → Shared → Prop} (hh : Hnd A s.heap) (hit : s.heap.IsTupleIter it t i) (ht : s.heap.IsTuple t items) (hx : items[i]? = none)
    (k : ∀ h', Heap.ExtBut it s.heap h' → Q none { s with heap := h' }) : wpAny (model prog w) A (pyNext (.ref it)) Q E s := by
  obtain ⟨o, ho, hc, hd⟩ := id hit
  obtain ⟨ol, hol, _, nl, hdl⟩ := ht
  unfold pyNext
  refine wpAny_bind (wpAny_attempt (wpAny_callSpecial?_slot (name := Str.ofString "__next__") hit.typeIs F.slot_tuple_iterator_next (wpAny_call_entry F.slot_tuple_iterator_next hit.typeIs F.entry_tuple_iterator_next ?_ (F.args_tuple_iterator_next_1 _))))
  refine wpAny_bind (m := field (.ref it) 0) (wpAny_field ho hd (x := .ref t) rfl ?_)
  rw [if_neg (show ¬ ((Value.ref t == Value.none) = true) by simp)]
  refine wpAny_bind (m := field (.ref it) 1) (wpAny_field ho hd (x := .int i 0) rfl (wpAny_bind (m := seqItems? (.ref t)) (wpAny_seqItems hol hdl ?_)))
  simp only [Int.toNat_natCast, hx]
  refine wpAny_bind (wpAny_rule (wpAny_bind (wpAny_setField ho hd (by simp) ?_)))
  refine stop_raised (hh.keeps fun b q hq e => (Heap.get?_update_other _ _ fun z => ?_).trans e) fun h' e up ⟨o', g', c'⟩ =>
    wpAny_bind (wpAny_isInstance (T := "StopIteration") (b := true) ⟨o', g', c'⟩ isSubtype_stop (wpAny_pure (k h' fun b q hb z => up b q ((Heap.get?_update_other _ _ (Ne.symm hb)).trans z))))
  obtain ⟨C, hC⟩ := hq
  rw [← z, ho] at e
  cases e
  rw [hc] at hC
  cases hC
/-- a, b = t -/
theorem unpack_tup {env : Env} {elts : List Expr} {x1} {pos : Pos} {t : Addr} {items : Array Value} {Q : Unit → Shared → Prop} (hh : Hnd A s.heap) (ht : IsTup s.heap t items) (hn : (assignEach elts env).length = items.size) (hstar : (assignEach elts env).findIdx? (·.1) = none)
    (h : ∀ h', Heap.ExtBut s.heap.objs.size s.heap h' → wpAny (model prog w) A (assignInOrder ((assignEach elts env).map (·.2)) items.toList) Q E { s with heap := h' }) : wpAny (model prog w) A (assign (.Tuple elts x1 pos) env (.ref t)) Q E s := by
  have lt : t ≠ s.heap.objs.size := by obtain ⟨o, ho, _⟩ := ht; exact Nat.ne_of_lt (Heap.lt_size ho)
  have all : List.take items.size (List.drop 0 items.toList) = items.toList := by rw [List.drop_zero]; exact List.take_of_length_le (by simp)
  have core : wpAny (model prog w) A (unpackItems (.ref t) items.size none) (fun vs s' => ∃ h', vs = items.toList ∧ s' = { s with heap := h' } ∧ Heap.ExtBut s.heap.objs.size s.heap h') E s := by
    unfold unpackItems
    refine wpAny_bind ?_
    unfold notIterableAtAll
    refine wpAny_bind (wpAny_specialOf ht.typeIs slot_tuple_iter.lookup (wpAny_pure ?_))
    simp only [Bool.false_eq_true, if_false]
    refine wpAny_bind (wpAny_holding (iter_tuple ht (wpAny_bind (wpAny_holding (draw_tuple lt items.size 0 _ _ ⟨_, Heap.get?_push_size _ rfl, rfl, rfl⟩ (ht.push _) (by omega) fun h1 it1 s1 => ?_)))))
    rw [all, if_neg (by simp)]
    have t1 : IsTup h1 t items := (ht.push _).extBut s1.extBut lt
    have up1 : ∀ b o, b ≠ s.heap.objs.size → s.heap.get? b = some o → h1.get? b = some o := fun b o hb e => s1.extBut b o hb (Heap.get?_push_of_some _ e)
    refine wpAny_bind (wpAny_holding (tup_last (s := { s with heap := h1 }) (hh.keeps fun b o _ e => up1 b o (Nat.ne_of_lt (Heap.lt_size e)) e) it1 t1 (by simp) fun h2 e2 => ?_))
    simp only [Option.isSome_none, Bool.false_eq_true, if_false]
    exact wpAny_pure ⟨h2, rfl, rfl, fun b o hb e => e2 b o hb (up1 b o hb e)⟩
  rw [assign_Tuple]
  refine wpAny_bind (wpAny_standAt ?_)
  unfold unpack
  rw [hstar, hn]
  refine wpAny_bind (wpAny_holding (wpAny_mono core (fun vs s' ⟨h', e1, e2, x⟩ => ?_) fun _ _ z => z))
  subst e1 e2
  exact h h' x
end
end L2
set_option Elab.async false
set_option linter.all false
set_option maxRecDepth 100000
set_option maxHeartbeats 4000000
namespace L2
open PySem PySem.Spec PyProof.Rows

/-! ### a, b = t, in any context -/
theorem pg_tupA {X : Cx} {pos : Pos} {es : List Expr} {k : Nat} {t : TGs} {n : Nat} (h : PGs X es t) (hl : (assignEach es X.env).length = n := by rfl) (hst : (assignEach es X.env).findIdx? (·.1) = none := by rfl) : PG X (.Tuple es k pos) (gTup X.K n t) := by
  intro pins s σ H v u Q I r q
  obtain ⟨a, xs, rfl, hx, hn, q⟩ := q
  obtain rfl : u = Value.ref a := r
  obtain ⟨its, rv, ht, hz⟩ := I.tuple hx
  refine unpack_tup I.hnd ht (by rw [hl, ← hn, rv.length]; simp) hst fun h' ex => ?_
  have I1 : Inv X pins σ H { s with heap := h' } := I.kept (t' := s.toks) fun b o e => ex b o (Nat.ne_of_lt (Heap.lt_size e)) e
  have := h pins { s with heap := h' } σ H xs its Q I1 rv q
  simpa using this

/-! ### zip of two lists of which the first is not the longer one -/
section
variable {prog : Program} {w : World} {A : Around} {E : Value → Shared → Prop} {s : Shared}
end

/-- the pairs of the lists at a, b -/
def Itz (K : PySem.W.Frag) (a b : Addr) : It :=
  ⟨fun i H => ∃ xs ys x y, SqL K H a xs ∧ SqL K H b ys ∧ xs[i]? = some x ∧ ys[i]? = some y, fun i H v H' => ∃ T x y, H T = none ∧ v = .ref T ∧ H' = upd H T (.tup [x, y]) ∧ (∀ xs, SqL K H a xs → xs[i]? = some x) ∧ ∀ ys, SqL K H b ys → ys[i]? = some y,
    fun i H => ∃ xs ys, SqL K H a xs ∧ SqL K H b ys ∧ xs.length ≤ i⟩
structure ZipSt (z TI TO i1 i2 l1 l2 : Addr) (i : Nat) (h : Heap) : Prop where
  z : IsZip h z TI TO .none
  ti : IsPair h TI (.ref i1) (.ref i2)
  to : ∃ a b, IsPair h TO a b
  a : h.IsListIter i1 l1 i
  b : h.IsListIter i2 l2 i
theorem ZipSt.keep {z TI TO i1 i2 l1 l2 : Addr} {i : Nat} {h h' : Heap} (x : ZipSt z TI TO i1 i2 l1 l2 i h) (k : ∀ b ∈ [z, TI, TO, i1, i2], ∀ o, h.get? b = some o → h'.get? b = some o) : ZipSt z TI TO i1 i2 l1 l2 i h' := by
  obtain ⟨a1, a2, ⟨u, v, a3⟩, a4, a5⟩ := x
  exact ⟨k _ (by simp) _ a1, k _ (by simp) _ a2, ⟨u, v, k _ (by simp) _ a3⟩, a4.at fun o e => k _ (by simp) o e, a5.at fun o e => k _ (by simp) o e⟩
end L2
set_option Elab.async false
set_option linter.all false
set_option maxRecDepth 100000
set_option maxHeartbeats 4000000
namespace L2
open PySem PySem.Spec PyProof.Rows

/-! ### == and != of two lists of flat things -/
def eqL (xs ys : List V) : Bool := xs.length == ys.length && (List.range xs.length).all fun i => eqV (xs.getD i .non) (ys.getD i .non)
theorem eqL_self : ∀ {xs : List V}, xs.all flatV = true → (∀ x ∈ xs, ∀ b, x ≠ .byt b) → eqL xs xs = true := by
  intro xs h _
  unfold eqL
  rw [beq_self_eq_true, Bool.true_and, List.all_eq_true]
  intro i hi
  have hlt := List.mem_range.mp hi
  have hm : xs[i] ∈ xs := List.getElem_mem hlt
  have := List.all_eq_true.mp h _ hm
  rw [List.getD_eq_getElem?_getD, List.getElem?_eq_getElem hlt, Option.getD_some]
  cases e : xs[i] with
  | non => rfl
  | bl b => simp [eqV]
  | int j => simp [eqV]
  | str x => simp [eqV]
  | _ => rw [e] at this; cases this
section
variable {X : Cx}
def rEqL (K : PySem.W.Frag) (neg : Bool) : R2 := fun x y H Q => ∃ a b xs ys, x = .ref a ∧ y = .ref b ∧ SqL K H a xs ∧ SqL K H b ys ∧ xs.all flatV = true ∧ ys.all flatV = true ∧ Q (.bl (if neg then !eqL xs ys else eqL xs ys)) H
theorem lists_at {pins : List (Addr × Obj)} {σ : St} {H : Hp} {s : Shared} {a b : Addr} {xs ys : List V} (I : Inv X pins σ H s) (ha : SqL X.K H a xs) (hb : SqL X.K H b ys) (fx : xs.all flatV = true) (fy : ys.all flatV = true) :
    ∃ is js : List Value, s.heap.IsList a is.toArray ∧ s.heap.IsList b js.toArray ∧ xs.length = is.length ∧ ys.length = js.length ∧ ∀ (A : Around) (j : Nat) (h1 : j < is.toArray.size) (h2 : j < js.toArray.size), SeqAt.EqAt A s is.toArray[j] js.toArray[j] (eqV (xs.getD j .non) (ys.getD j .non)) := by
  obtain ⟨is, r1, p1, _⟩ := I.list ha
  obtain ⟨js, r2, p2, _⟩ := I.list hb
  refine ⟨is, js, p1.isList, p2.isList, r1.length, r2.length, fun A j h1 h2 => ?_⟩
  have l1 := r1.length
  have l2 := r2.length
  simp only [List.size_toArray] at h1 h2
  have e1 : xs[j]? = some (xs.getD j .non) := by rw [List.getD_eq_getElem?_getD, List.getElem?_eq_getElem (by omega)]; rfl
  have e2 : ys[j]? = some (ys.getD j .non) := by rw [List.getD_eq_getElem?_getD, List.getElem?_eq_getElem (by omega)]; rfl
  obtain ⟨u, g1, q1⟩ := r1.get e1
  obtain ⟨v, g2, q2⟩ := r2.get e2
  rw [List.getElem?_eq_getElem h1] at g1
  rw [List.getElem?_eq_getElem h2] at g2
  have f1 := List.all_eq_true.mp fx _ (List.mem_of_getElem? e1)
  have f2 := List.all_eq_true.mp fy _ (List.mem_of_getElem? e2)
  have z := eqAt_V (A := A) (s := s) q1 q2 f1 f2
  have w1 : is.toArray[j] = u := by simpa using Option.some.inj g1
  have w2 : js.toArray[j] = v := by simpa using Option.some.inj g2
  rw [w1, w2]
  exact z
theorem op_eqL (hu : X.A.units < cLine) : OpR X (compareOp .Eq) (rEqL X.K false) := by
  intro pins s σ H x y v u Q I rx ry h
  obtain ⟨a, b, xs, ys, rfl, rfl, ha, hb, fx, fy, q⟩ := h
  cases rx
  cases ry
  obtain ⟨is, js, p1, p2, l1, l2, eq⟩ := lists_at I ha hb fx fy
  by_cases hz : is.toArray.size = js.toArray.size
  · refine SeqAt.eq_listAt p1 p2 hz hu (fun j h1 h2 => eq _ j h1 h2) ⟨.bl _, H, I, rfl, ?_⟩
    have e : eqL xs ys = (List.range is.toArray.size).all fun j => eqV (xs.getD j .non) (ys.getD j .non) := by
      unfold eqL
      simp only [List.size_toArray] at hz ⊢
      rw [l1, l2, hz]
      simp
    rw [← e]
    exact q
  · refine SeqAt.eq_list_lengthsAt p1 p2 (by simpa using hz) hu ⟨.bl false, H, I, rfl, ?_⟩
    have e : eqL xs ys = false := by
      unfold eqL
      have : (xs.length == ys.length) = false := by simp only [List.size_toArray] at hz; rw [l1, l2]; simpa using hz
      rw [this, Bool.false_and]
    have q' : Q (.bl (eqL xs ys)) H := q
    rw [e] at q'
    exact q'
theorem op_neL (hu : X.A.units < cLine) : OpR X (compareOp .NotEq) (rEqL X.K true) := by
  intro pins s σ H x y v u Q I rx ry h
  obtain ⟨a, b, xs, ys, rfl, rfl, ha, hb, fx, fy, q⟩ := h
  cases rx
  cases ry
  obtain ⟨is, js, p1, p2, l1, l2, eq⟩ := lists_at I ha hb fx fy
  have q' : Q (.bl (!eqL xs ys)) H := q
  by_cases hz : is.toArray.size = js.toArray.size
  · refine SeqAt.RcNeAt.lists p1 p2 hz hu (fun j h1 h2 => eq _ j h1 h2) _ _ _ _ ⟨.bl _, H, I, rfl, ?_⟩
    have e : eqL xs ys = (List.range is.toArray.size).all fun j => eqV (xs.getD j .non) (ys.getD j .non) := by
      unfold eqL
      simp only [List.size_toArray] at hz ⊢
      rw [l1, l2, hz]
      simp
    rw [← e]
    exact q'
  · refine SeqAt.RcNeAt.lists_lengths p1 p2 (by simpa using hz) hu _ _ _ _ ⟨.bl true, H, I, rfl, ?_⟩
    have e : eqL xs ys = false := by
      unfold eqL
      have : (xs.length == ys.length) = false := by simp only [List.size_toArray] at hz; rw [l1, l2]; simpa using hz
      rw [this, Bool.false_and]
    rw [e] at q'
    exact q'

/-! ### repr of a display -/
theorem Inv.big {pins : List (Addr × Obj)} {σ : St} {H : Hp} {s : Shared} (I : Inv X pins σ H s) : sysModules < s.heap.objs.size := by
  have h : mainGlobals < s.heap.objs.size := (I.mod.glob.keeps I.bk).lt
  exact Nat.lt_trans (by decide) h
def tDNew : TE := fun _ H Q => ∀ p, H p = none → Q (.ref p) (upd H p (.dK []))
theorem pe_dnew {pos : Pos} : PE X (.Dict [] [] pos) tDNew := fun pins s σ H Q I h =>
  wpAny_Dict_empty ⟨.ref s.heap.objs.size, _, I.laid (a := s.heap.objs.size) (o := .dK []) (t' := s.toks) (fun _ _ q => Heap.get?_push_of_some _ q) (Nat.le_refl _) ⟨Nat.zero_le _, beq_eq_false_iff_ne.mpr (Ne.symm (Nat.ne_of_lt I.big)), [], .nil, Heap.DictOf.new s.heap⟩, rfl, h _ (I.hok.fresh (Nat.le_refl _))⟩
/-! ### a, b = xs (a list), where nothing is handled -/
/-! ### for a, b in zip(xs, ys) -/
def iZip (K : PySem.W.Frag) (ta : TA) : TI := fun σ H R => ta σ H fun vs H1 => ∃ a b, vs = [.ref a, .ref b] ∧ (∃ xs, SqL K H1 a xs) ∧ (∃ ys, SqL K H1 b ys) ∧ R (Itz K a b) H1
end
end L2
set_option Elab.async false
set_option linter.all false
set_option maxRecDepth 100000
set_option maxHeartbeats 4000000
namespace L2
open PySem PySem.Spec PyProof.Rows

/-! ### arguments without a star -/
def plainE : Expr → Bool
  | .Starred _ _ => false
  | _ => true
theorem starEach_plain {e : Expr} {es : List Expr} {env : Env} (h : plainE e = true) : starEach (e :: es) env = (false, eval e env) :: starEach es env := by
  cases e <;> first | rfl | (exact absurd (show false = true from h) Bool.false_ne_true)
def plainEs (es : List Expr) : Bool := es.all plainE
theorem starEach_any {env : Env} : ∀ {es : List Expr} (h : plainEs es = true), (starEach es env).any (·.1) = false
  | [], _ => rfl
  | e :: es, h => by
    unfold plainEs at h
    rw [List.all_cons, Bool.and_eq_true] at h
    rw [starEach_plain h.1, List.any_cons, starEach_any h.2]
    rfl
theorem backTo_any {pos : Pos} {env : Env} {es : List Expr} (h : plainEs es = true) : (backTo pos (starEach es env)).any (·.1) = false := by
  have q := starEach_any (env := env) h
  unfold backTo
  rw [List.any_map]
  exact q
theorem star1 {e : Expr} {env : Env} (h : plainE e = true) : starEach [e] env = [(false, eval e env)] := (starEach_plain h).trans rfl
section
variable {X : Cx}
theorem pa_p {e : Expr} {es : List Expr} {te : TE} {t : TA} (ha : PE X e te) (hr : PA X es t) (hp : plainE e = true := by rfl) : PA X (e :: es) (tCons te t) := pa_cons ha hr (starEach_plain hp)
theorem pe_callBp {id : String} {r : List V → Hp → VK → Prop} {x : Str} {e : Expr} {es : List Expr} {t : TA} {p pos : Pos} (hc : CallR X (.builtin id) r) (hg : Gl X x) (hm : X.mg x = none) (hv : bootBuiltins x = some (.builtin id)) (ha : PA X (e :: es) t) (hp : plainE e = true := by rfl) (hps : plainEs es = true := by rfl) (hn : x ≠ "__name__" := by decide) (hdb : (x == ("__debug__" : Str)) = false := by decide) : PE X (.Call (.Name x p) (e :: es) [] pos) (tCB r t) :=
  pe_callB hc hg hm hv ha hn hdb (starEach_plain hp) (backTo_any hps)
theorem pe_callTyp {T : String} {r : List V → Hp → VK → Prop} {x : Str} {e : Expr} {es : List Expr} {t : TA} {p pos : Pos} (hc : CallR X (.type T) r) (hg : Gl X x) (hm : X.mg x = none) (hv : bootBuiltins x = some (.type T)) (ha : PA X (e :: es) t) (hp : plainE e = true := by rfl) (hps : plainEs es = true := by rfl) (hn : x ≠ "__name__" := by decide) (hdb : (x == ("__debug__" : Str)) = false := by decide) : PE X (.Call (.Name x p) (e :: es) [] pos) (tCB r t) :=
  pe_callTy hc hg hm hv ha hn hdb (starEach_plain hp) (backTo_any hps)
theorem pi_range1p {tg a : Expr} {ta : TA} {p pos : Pos} (hg : Gl X "range") (hm : X.mg "range" = none) (ha : PA X [a] ta) (hp : plainE a = true := by rfl) : PIc true X tg (.Call (.Name "range" p) [a] [] pos) (iRng1 ta) := pi_range1 hg hm ha (star1 hp)
end
/-! ### a new object -/
structure New (H : Hp) (p : Addr) (o : HO) (H' : Hp) : Prop where
  no : H p = none
  at_ : H' p = some o
  same : Same H H'
theorem New.mk' {H : Hp} {p : Addr} {o : HO} (h : H p = none) : New H p o (upd H p o) := ⟨h, upd_same, fun b u e => by rw [upd_ne (ne_of_none e h)]; exact e⟩
section
variable {X : Cx}
def tLstA (t : TA) : TE := fun σ H Q => t σ H fun xs H1 => xs.length ≤ sizeLine ∧ ∀ p H2, New H1 p (.lst xs) H2 → p ≠ sysModules → Q (.ref p) H2
theorem pe_lstA {es : List Expr} {t : TA} {pos : Pos} (h : PA X es t) : PE X (.List es pos) (tLstA t) := by
  intro pins s σ H Q I hq
  refine wpAny_List_spliced (thn (h pos pins s σ H _ I hq) fun us s1 ⟨xs, H1, I1, r, z, q⟩ => ⟨by rw [← r.length]; exact z, ?_⟩)
  have hf : H1 s1.heap.objs.size = none := I1.hok.fresh (Nat.le_refl _)
  refine ⟨.ref s1.heap.objs.size, upd H1 s1.heap.objs.size (.lst xs), I1.laid (t' := s1.toks) (fun b u e => Heap.get?_push_of_some _ e) (Nat.le_refl _) ?_, rfl, q _ _ (.mk' hf) (Nat.ne_of_gt I1.big)⟩
  exact ⟨z, us, 0, r, Heap.get?_push_size _ rfl⟩
def tTupA (t : TA) : TE := fun σ H Q => t σ H fun xs H1 => xs.length ≤ sizeLine ∧ ∀ p H2, New H1 p (.tup xs) H2 → Q (.ref p) H2
theorem thenA {es : List Expr} {t : TA} {R R' : List V → Hp → Prop} (hw : ∀ xs H, R xs H → R' xs H) (h : PA X es t) (pos : Pos) (pins : List (Addr × Obj)) (s : Shared) (σ : St) (H : Hp) (I : Inv X pins σ H s) (q : t σ H R) :
    wpAny (model X.prog X.w) X.A (spliced (backTo pos (starEach es X.env))) (AP X pins σ R') X.xe s :=
  thn (h pos pins s σ H R I q) fun _ _ ⟨vs, H', a, b, c⟩ => ⟨vs, H', a, b, hw _ _ c⟩
theorem pe_tupA {es : List Expr} {t : TA} {x1} {pos : Pos} (h : PA X es t) : PE X (.Tuple es x1 pos) (tTupA t) := by
  have h' : PA X es (fun σ H Q => ∃ R : List V → Hp → Prop, t σ H R ∧ ∀ xs H, R xs H → Q xs H) := fun pos pins s σ H Q I ⟨R, q, hw⟩ => thenA hw h pos pins s σ H I q
  intro pins s σ H Q I hq
  exact pe_tup h' pins s σ H Q I ⟨_, hq, fun xs H1 ⟨z, q⟩ => ⟨z, fun p hp => q p _ (.mk' hp)⟩⟩
def tDNewA : TE := fun _ H Q => ∀ p H2, New H p (.dK []) H2 → Q (.ref p) H2
theorem pe_dnewA {pos : Pos} : PE X (.Dict [] [] pos) tDNewA := fun pins s σ H Q I h => pe_dnew pins s σ H Q I fun p hp => h p _ (.mk' hp)
end
/-! ### rules that take whatever kind comes: read by simp -/
/-- a value that is an address -/
def uR (v : V) (q : Addr → Prop) : Prop := ∃ a, v = .ref a ∧ q a
/-- xs.append(e) -/
def uApp (to te : TE) : TE := fun σ H Q => to σ H fun x H1 => uR x fun l => (∃ xs, H1 l = some (.lst xs)) ∧ te σ H1 fun y H2 => ∃ xs, H2 l = some (.lst xs) ∧ xs.length < sizeLine ∧ Q .non (upd H2 l (.lst (xs ++ [y])))
section
variable {X : Cx}
theorem OpR.weak {f : Value → Value → Sem Value} {r r' : R2} (h : OpR X f r) (hw : ∀ x y H Q, r' x y H Q → r x y H Q) : OpR X f r' :=
  fun pins s σ H x y v u Q I rx ry q => h pins s σ H x y v u Q I rx ry (hw x y H Q q)
theorem CallR.weak {f : Value} {r r' : List V → Hp → VK → Prop} (h : CallR X f r) (hw : ∀ xs H Q, r' xs H Q → r xs H Q) : CallR X f r' :=
  fun pins s σ H xs us Q I rs q => h pins s σ H xs us Q I rs (hw xs H Q q)
theorem IxR.weak {r r' : R2} (h : IxR X r) (hw : ∀ x y H Q, r' x y H Q → r x y H Q) : IxR X r' :=
  fun value slice pins s σ H x y v u Q I rx ry q hs => h value slice pins s σ H x y v u Q I rx ry (hw x y H Q q) hs

def uAdd : R2 := fun x y H Q => (∃ i j, x = .int i ∧ y = .int j ∧ Q (.int (i + j)) H) ∨ (∃ i j, x = .str i ∧ y = .str j ∧ i.length + j.length ≤ sizeLine ∧ Q (.str (i ++ j)) H) ∨
  (∃ l b xs zs, x = .ref l ∧ y = .ref b ∧ H l = some (.lst xs) ∧ H b = some (.lst zs) ∧ xs.length + zs.length ≤ sizeLine ∧ ∀ p H2, New H p (.lst (xs ++ zs)) H2 → Q (.ref p) H2)
theorem op_addU : OpR X (binaryOp .Add) uAdd := op_add.or (op_add_str.or (op_cat.weak fun x y H Q h => by
  obtain ⟨l, b, xs, zs, e1, e2, h1, h2, h3, h4⟩ := h
  exact ⟨l, b, xs, zs, e1, e2, h1, h2, h3, fun p hp => h4 p _ (.mk' hp)⟩))
def uMul : R2 := fun x y H Q => (∃ i j, x = .int i ∧ y = .int j ∧ CMul i j ∧ Q (.int (i * j)) H) ∨
  (∃ l k xs, x = .ref l ∧ y = .int k ∧ H l = some (.lst xs) ∧ -(2 ^ 63) ≤ k ∧ k < 2 ^ 63 ∧ xs.length * k.toNat ≤ sizeLine ∧ ∀ p H2, New H p (.lst (List.replicate k.toNat xs).flatten) H2 → Q (.ref p) H2)
theorem op_mulU : OpR X (binaryOp .Mult) uMul := op_mul.or (op_rep.weak fun x y H Q h => by
  obtain ⟨l, k, xs, e1, e2, h1, h2, h3, h5, h4⟩ := h
  exact ⟨l, k, xs, e1, e2, h1, h2, h3, h5, fun p hp => h4 p _ (.mk' hp)⟩)
/-- xs[i] -/
def uIx : R2 := fun x y H Q => (∃ p xs i v, x = .ref p ∧ y = .int i ∧ H p = some (.lst xs) ∧ atI xs i = some v ∧ Q v H) ∨
  (∃ p xs i v, x = .ref p ∧ y = .int i ∧ H p = some (.tup xs) ∧ atI xs i = some v ∧ Q v H) ∨ (∃ z i c, x = .str z ∧ y = .int i ∧ z.length ≤ sizeLine ∧ atI z.cps.toList i = some c ∧ Q (.str ⟨#[c]⟩) H)
theorem ix_U : IxR X uIx := ix_seq.weak fun x y H Q h => by
  rcases h with ⟨p, xs, i, v, e1, e2, h, r⟩ | ⟨p, xs, i, v, e1, e2, h, r⟩ | h
  · exact .inl ⟨p, xs, i, v, e1, e2, SqL.of h, r⟩
  · exact .inr (.inl ⟨p, xs, i, v, e1, e2, SqT.of h, r⟩)
  · exact .inr (.inr h)
/-- len -/
def uLen : List V → Hp → VK → Prop := fun xs H Q => (∃ p ys, xs = [.ref p] ∧ H p = some (.lst ys) ∧ Q (.int ys.length) H) ∨ (∃ p ys, xs = [.ref p] ∧ H p = some (.tup ys) ∧ Q (.int ys.length) H) ∨
  (∃ z, xs = [.str z] ∧ z.length ≤ sizeLine ∧ Q (.int z.length) H)
theorem call_lenU : CallR X (.builtin "len") uLen := (call_len_seq.or call_len_str).weak fun xs H Q h => by
  rcases h with ⟨p, ys, e, h, q⟩ | ⟨p, ys, e, h, q⟩ | h
  · exact .inl ⟨p, ys, e, .inl (SqL.of h), q⟩
  · exact .inl ⟨p, ys, e, .inr (SqT.of h), q⟩
  · exact .inr h
def uEq (neg : Bool) : R2 := fun x y H Q => (scal x y = true ∧ Q (.bl (if neg then !decide (x = y) else decide (x = y))) H) ∨
  (∃ a b xs ys, x = .ref a ∧ y = .ref b ∧ H a = some (.lst xs) ∧ H b = some (.lst ys) ∧ xs.all flatV = true ∧ ys.all flatV = true ∧ Q (.bl (if neg then !eqL xs ys else eqL xs ys)) H)
theorem op_eqU (hu : X.A.units < cLine) : OpR X (compareOp .Eq) (uEq false) := (op_eq.or (op_eqL hu)).weak fun x y H Q h => by
  rcases h with h | ⟨a, b, xs, ys, e1, e2, h1, h2, r⟩
  · exact .inl ⟨h.1, by simpa using h.2⟩
  · exact .inr ⟨a, b, xs, ys, e1, e2, SqL.of h1, SqL.of h2, r⟩
theorem op_neU (hu : X.A.units < cLine) : OpR X (compareOp .NotEq) (uEq true) := (op_ne.or (op_neL hu)).weak fun x y H Q h => by
  rcases h with h | ⟨a, b, xs, ys, e1, e2, h1, h2, r⟩
  · exact .inl ⟨h.1, by simpa using h.2⟩
  · exact .inr ⟨a, b, xs, ys, e1, e2, SqL.of h1, SqL.of h2, r⟩
/-- the truth of a value -/
def tTru (K : PySem.W.Frag) (ta : TE) : TT := fun σ H Q => ta σ H fun x H' => ∃ k, TruV K x H' k ∧ Q k H'
theorem pt_tru {a : Expr} {ta : TE} (ha : PE X a ta) (he : ∀ whole, isTrue a X.env whole = (do let v ← whole; standAt a.pos; holding [v] (truthy v)) := by intro _; rfl) : PT X a (tTru X.K ta) := pt_truth ha he
/-- o.f where the class is known -/
def uFld (C : Addr) (ta : TE) (f : Str) : TE := fun σ H Q => ta σ H fun x H1 => ∃ a dx fs v, x = .ref a ∧ H1 a = some (.ins C dx fs) ∧ fs.lookup f = some v ∧ Q v H1
theorem pe_fldU {C : Addr} {e : Expr} {ta : TE} {f : Str} {pos : Pos} (c : Cls X.K C) (n : NoAttr X.K C f) (he : PE X e ta) (hb : attributeBase e f X.env (eval e X.env) = eval e X.env := by rfl) : PE X (.Attribute e f pos) (uFld C ta f) := by
  intro pins s σ H Q I h
  refine attr_of hb (thn (he pins s σ H _ I h) fun u s1 ⟨x, H1, I1, rx, a, dx, fs, v, ex, ea, l, q⟩ => ?_)
  subst ex
  obtain rfl : u = Value.ref a := rx
  exact getattr_ok I1 ea c n l fun u' s2 I2 ru => ⟨v, H1, I2, ru, q⟩
def uSetF (C : Addr) (ta tv : TE) (f : Str) : TS := fun D σ H => tv σ H fun y H1 => ta σ H1 fun x H2 => ∃ a dx fs, x = .ref a ∧ H2 a = some (.ins C dx fs) ∧ fs.length < 1000 ∧ D.nx σ (upd H2 a (.ins C dx (putF f y fs)))
theorem ps_fldU {C : Addr} {o value : Expr} {ta tv : TE} {f : Str} {pos pos' : Pos} (c : Cls X.K C) (n : NoAttr X.K C f) (ha : PE X o ta) (hv : PE X value tv) (hs : swapsWith value (some (.Attribute o f pos')) pos.line X.env = pure false := by rfl) : PS X (.Assign [.Attribute o f pos'] value pos) (uSetF C ta tv f) := by
  intro pins s σ H D I h
  refine plainObj_wpAny_Assign_Attribute (thn (hv pins s σ H _ I h) fun u s1 ⟨y, H1, I1, ry, q⟩ => thn (ha pins s1 σ H1 _ I1 q) fun ov s2 ⟨x, H2, I2, rx, a, dx, fs, ex, ea, l, q2⟩ => ?_) hs
  subst ex
  obtain rfl : ov = Value.ref a := rx
  exact setattr_ok I2 ea c n l ry fun s3 I3 => ⟨σ, _, I3, q2⟩
/-- f(..) of the text's own -/
structure GF (P : Program) (w : World) (K : PySem.W.Frag) (mg : Str → Option Value) (base : Heap) (cm : Bool) (k : Nat) (x : Str) (ps : List Str) (sp : Sp) : Prop where
  ex : ∃ (f : Addr) (fd : FuncData), FnOk P w K mg base CX0 cm k f fd ps sp ∧ mg x = some (.ref f) ∧ PySem.W.keepIn K (.ref f) = true ∧ Binds K fd ps []
/-- a method of the class at C -/
structure GM (P : Program) (w : World) (K : PySem.W.Frag) (mg : Str → Option Value) (base : Heap) (cm : Bool) (k : Nat) (C : Addr) (m : Str) (ps : List Str) (sp : Sp) : Prop where
  ex : ∃ (f : Addr) (fd : FuncData), FnOk P w K mg base CX0 cm k f fd ps sp ∧ Meth K C m f ∧ Binds K fd ps []
/-- the class at C is made by x(..) -/
structure GC (P : Program) (w : World) (K : PySem.W.Frag) (mg : Str → Option Value) (base : Heap) (cm : Bool) (k : Nat) (x : Str) (C : Addr) (ps : List Str) (sp : Sp) : Prop where
  ex : ∃ (f : Addr) (fd : FuncData), FnOk P w K mg base CX0 cm k f fd ps sp ∧ mg x = some (.ref C) ∧ Mk K C f ∧ Binds K fd ps []
variable {cm : Bool} {k j : Nat} {x m : Str} {C : Addr} {ps : List Str} {sp : Sp} {e o : Expr} {es : List Expr} {t : TA} {ta : TE} {p pos apos : Pos} {Ex : Addr → St → Hp → Prop}
theorem pe_g (G : GF X.prog X.w X.K X.mg X.base cm j x ps sp) (hr : Room cm k X.A) (hg : Gl X x) (ha : PA X (e :: es) t) (hj : j ≤ k := by decide) (hdb : (x == ("__debug__" : Str)) = false := by decide) (hp : plainE e = true := by rfl) (hps : plainEs es = true := by rfl) :
    PE X (.Call (.Name x p) (e :: es) [] pos) (tCall sp [] E0 t) := by
  obtain ⟨f, fd, F, hm, hk, hb⟩ := G.ex
  exact pe_call F (hr.mono hj) hg hm hk hb .nil pass0 ha hdb (starEach_plain hp) (backTo_any hps)
theorem pe_m {pl : Sem Bool} (he : PE X o ta) (c : Cls X.K C) (G : GM X.prog X.w X.K X.mg X.base cm j C m ps sp) (hr : Room cm k X.A) (ha : PA X (e :: es) t) (hj : j ≤ k := by decide)
    (hp : plainE e = true := by rfl) (hps : plainEs es = true := by rfl)
    (ht : eval (.Call (.Attribute o m apos) (e :: es) [] pos) X.env = (do
      let ov ← eval o X.env
      standAt apos.atName
      let (f, first) ← holding [ov] (getMethod ov m pl)
      callWith pos f first (backTo pos (starEach (e :: es) X.env)) (backToKw pos (keywordEach [] X.env))) := by rfl) :
    PE X (.Call (.Attribute o m apos) (e :: es) [] pos) (tMeth C m sp [] E0 ta t) := by
  obtain ⟨f, fd, F, hm, hb⟩ := G.ex
  exact pe_meth he c hm F (hr.mono hj) hb .nil pass0 ha (starEach_plain hp) (backTo_any hps) ht
theorem pe_m0 {pl : Sem Bool} (he : PE X o ta) (c : Cls X.K C) (G : GM X.prog X.w X.K X.mg X.base cm j C m ps sp) (hr : Room cm k X.A) (hj : j ≤ k := by decide)
    (ht : eval (.Call (.Attribute o m apos) [] [] pos) X.env = (do
      let ov ← eval o X.env
      standAt apos.atName
      let (f, first) ← holding [ov] (getMethod ov m pl)
      callWith pos f first (backTo pos (starEach [] X.env)) (backToKw pos (keywordEach [] X.env))) := by rfl) :
    PE X (.Call (.Attribute o m apos) [] [] pos) (tMeth C m sp [] E0 ta tNil) := by
  obtain ⟨f, fd, F, hm, hb⟩ := G.ex
  exact pe_meth0 he c hm F (hr.mono hj) hb .nil pass0 ht
/-- a new instance, its dict -/
structure NewI (H : Hp) (C x dx : Addr) (H' : Hp) : Prop where
  no : H x = none
  nod : H dx = none
  ne : dx ≠ x
  at_ : H' x = some (.ins C dx [])
  own : H' dx = some (.own x)
  same : Same H H'
theorem NewI.mk' {H : Hp} {C x dx : Addr} (h : H x = none) (hd : H dx = none) (ne : dx ≠ x) : NewI H C x dx (upd (upd H dx (.own x)) x (.ins C dx [])) :=
  ⟨h, hd, ne, upd_same, by rw [upd_ne ne, upd_same], fun b u e => by rw [upd_ne (ne_of_none e h), upd_ne (ne_of_none e hd)]; exact e⟩
def tMakeA (C : Addr) (sp : Sp) (t : TA) : TE := fun σ H Q => t σ H fun vs H1 => ∀ x dx H2, NewI H1 C x dx H2 → sp (.ref x :: vs) H2 (fun v H3 => v = .non ∧ Q (.ref x) H3) E0
def tMakeXA (C : Addr) (sp : Sp) (Ex : Addr → St → Hp → Prop) (t : TA) : TE := fun σ H Q => t σ H fun vs H1 => ∀ x dx H2, NewI H1 C x dx H2 → sp (.ref x :: vs) H2 (fun v H3 => v = .non ∧ Q (.ref x) H3) (XE Ex σ)
theorem PA.any {es : List Expr} {t : TA} (h : PA X es t) : PA X es (fun σ H Q => ∃ R : List V → Hp → Prop, t σ H R ∧ ∀ xs H, R xs H → Q xs H) := fun pos pins s σ H Q I ⟨R, q, hw⟩ => thenA hw h pos pins s σ H I q
theorem pe_c (G : GC X.prog X.w X.K X.mg X.base cm j x C ps sp) (hr : Room cm k X.A) (hg : Gl X x) (ha : PA X (e :: es) t) (hj : j + 1 ≤ k := by decide) (hdb : (x == ("__debug__" : Str)) = false := by decide) (hp : plainE e = true := by rfl) (hps : plainEs es = true := by rfl) :
    PE X (.Call (.Name x p) (e :: es) [] pos) (tMakeA C sp t) := by
  obtain ⟨f, fd, F, hm, M, hb⟩ := G.ex
  intro pins s σ H Q I h
  exact pe_make M F (hr.mono hj) hg hm hb .nil pass0 ha.any hdb (starEach_plain hp) (backTo_any hps) pins s σ H Q I ⟨_, h, fun vs H1 q x dx hx hd ne => by rw [List.append_nil]; exact q x dx _ (.mk' hx hd ne)⟩
/-- a name of the module: a constant, a class -/
theorem pe_gv {v : V} {pos : Pos} (hg : Gl X x) (hm : ∃ u, X.mg x = some u ∧ RelV v u) (hd : (x == ("__debug__" : Str)) = false := by decide) : PE X (.Name x pos) (tC v) := by
  obtain ⟨u, hm, r⟩ := hm
  exact pe_glob hg hm r hd
/-- xs.append(e), whatever xs is -/
theorem pe_append {o e : Expr} {to te : TE} {apos cpos : Pos} (ho : PE X o to) (he : PE X e te)
    (hbase : attributeBase o "append" X.env (eval o X.env) = eval o X.env := by rfl)
    (hline : (apos.endLine == cpos.line) = true := by rfl) (hp : plainE e = true := by rfl) : PE X (.Call (.Attribute o "append" apos) [e] [] cpos) (uApp to te) := by
  intro pins s σ H Q I h
  have hs : starEach [e] X.env = [(false, eval e X.env)] := star1 hp
  refine wpAny_Call_method_late hbase (by rw [hs]; rfl) hline rfl (thn (ho pins s σ H _ I h) fun v s1 ⟨x, H1, I1, r1, l, ex, ⟨xs, hx⟩, q1⟩ => ?_)
  subst ex
  obtain ⟨h1, h2⟩ := tyV_is (T := "list") I1 r1 (.inl ⟨rfl, xs, SqL.of hx⟩)
  refine ⟨"list", "list.append", PySem.F.plainAttrs_list, PySem.F.slot_list_append, PySem.F.type_list_append, h1, h2, ?_⟩
  rw [hs]
  refine Calls.callWith_builtin rfl (Calls.evalArgs_plain ?_)
  have hA := pa_cons he pa_nil (hs := hs) cpos pins s1 σ H1 (fun ys H2 => match ys with | [y] => ∃ xs, H2 l = some (.lst xs) ∧ xs.length < sizeLine ∧ Q .non (upd H2 l (.lst (xs ++ [y]))) | _ => False) I1 q1
  rw [hs] at hA
  refine thn hA fun us s2 ⟨vs, H2, I2, r2, q2⟩ => ?_
  match vs, q2, r2 with
  | [y], ⟨xs2, hx2, hl2, q2⟩, r2 => exact mt_append pins s2 σ H2 (.ref l) [y] v us Q I2 r1 r2 ⟨l, xs2, y, rfl, rfl, hx2, hl2, q2⟩
end
section
variable {X : Cx}
def uInt : List V → Hp → VK → Prop := fun xs H Q => (∃ i, xs = [.int i] ∧ Q (.int i) H) ∨ ∃ k, xs = [.bl k] ∧ Q (.int (if k then 1 else 0)) H
theorem call_intU : CallR X (.type "int") uInt := call_int1
def uStr : List V → Hp → VK → Prop := fun xs H Q => ∃ i, xs = [.int i] ∧ i.natAbs.log2 < 1920 ∧ Q (.str (toString i)) H
theorem call_strU : CallR X (.type "str") uStr := call_str_int
theorem uInt_i {i : Int} {H : Hp} {Q : VK} : uInt [.int i] H Q = Q (.int i) H := by simp [uInt]
theorem uInt_b {k : Bool} {H : Hp} {Q : VK} : uInt [.bl k] H Q = Q (.int (if k then 1 else 0)) H := by simp [uInt]
theorem uStr_i {i : Int} {H : Hp} {Q : VK} : uStr [.int i] H Q = (i.natAbs.log2 < 1920 ∧ Q (.str (toString i)) H) := by simp [uStr]
/-- max, min of two ints -/
def uMax : List V → Hp → VK → Prop := fun xs H Q => ∃ i j, xs = [.int i, .int j] ∧ Q (.int (if j > i then j else i)) H
def uMin : List V → Hp → VK → Prop := fun xs H Q => ∃ i j, xs = [.int i, .int j] ∧ Q (.int (if j < i then j else i)) H
theorem call_maxU (hc : X.calm = true) : CallR X (.builtin "max") uMax := call_max2 hc
theorem call_minU (hc : X.calm = true) : CallR X (.builtin "min") uMin := call_min2 hc
theorem uMax_ii {i j : Int} {H : Hp} {Q : VK} : uMax [.int i, .int j] H Q = Q (.int (if j > i then j else i)) H := by
  apply propext; constructor
  · rintro ⟨a, b, e, q⟩; cases e; exact q
  · exact fun q => ⟨i, j, rfl, q⟩
theorem uMin_ii {i j : Int} {H : Hp} {Q : VK} : uMin [.int i, .int j] H Q = Q (.int (if j < i then j else i)) H := by
  apply propext; constructor
  · rintro ⟨a, b, e, q⟩; cases e; exact q
  · exact fun q => ⟨i, j, rfl, q⟩
end
/-! ### within a comprehension's block -/
section
variable {Y : Cx} {sc : Scope} {N' : List Str} {pins : List (Addr × Obj)} {D : Addr} {fp : List Addr} {s : Shared} {H : Hp}
end
theorem gCons_c {t : TG} {u : TGs} {v : V} {r : List V} {σ : St} {H : Hp} {Q : St → Hp → Prop} : gCons t u (v :: r) σ H Q = t v σ H fun σ' H' => u r σ' H' Q := by
  apply propext; constructor
  · rintro ⟨v, r, e, h⟩; cases e; exact h
  · exact fun h => ⟨v, r, rfl, h⟩
theorem gNil_n {σ : St} {H : Hp} {Q : St → Hp → Prop} : gNil [] σ H Q = Q σ H := by
  apply propext; constructor
  · exact fun h => h.2
  · exact fun h => ⟨rfl, h⟩
/-! ### the readings, by what comes -/
section
variable {H : Hp} {Q : VK} {i j : Int} {x y : Str} {a b : Addr} {K : PySem.W.Frag} {g : Int → Int → V} {C : Int → Int → Prop} {k c : Bool} {QB : Bool → Hp → Prop}
theorem uAdd_ii : uAdd (.int i) (.int j) H Q = Q (.int (i + j)) H := by simp [uAdd]
theorem uAdd_ss : uAdd (.str x) (.str y) H Q = (x.length + y.length ≤ sizeLine ∧ Q (.str (x ++ y)) H) := by simp [uAdd]
theorem uAdd_rr : uAdd (.ref a) (.ref b) H Q = ∃ xs zs, H a = some (.lst xs) ∧ H b = some (.lst zs) ∧ xs.length + zs.length ≤ sizeLine ∧ ∀ p H2, New H p (.lst (xs ++ zs)) H2 → Q (.ref p) H2 := by simp [uAdd]
theorem uMul_ii : uMul (.int i) (.int j) H Q = (CMul i j ∧ Q (.int (i * j)) H) := by simp [uMul]
theorem uMul_ri : uMul (.ref a) (.int i) H Q = ∃ xs, H a = some (.lst xs) ∧ -(2 ^ 63) ≤ i ∧ i < 2 ^ 63 ∧ xs.length * i.toNat ≤ sizeLine ∧ ∀ p H2, New H p (.lst (List.replicate i.toNat xs).flatten) H2 → Q (.ref p) H2 := by simp [uMul]
theorem uIx_r : uIx (.ref a) (.int i) H Q = ∃ xs, (H a = some (.lst xs) ∨ H a = some (.tup xs)) ∧ ∃ v, atI xs i = some v ∧ Q v H := by
  apply propext; constructor
  · rintro (⟨p, xs, i, v, e1, e2, h, r⟩ | ⟨p, xs, i, v, e1, e2, h, r⟩ | ⟨z, i, c, e, _⟩)
    · cases e1; cases e2; exact ⟨xs, .inl h, v, r⟩
    · cases e1; cases e2; exact ⟨xs, .inr h, v, r⟩
    · cases e
  · rintro ⟨xs, h | h, v, r⟩
    · exact .inl ⟨_, xs, _, v, rfl, rfl, h, r⟩
    · exact .inr (.inl ⟨_, xs, _, v, rfl, rfl, h, r⟩)
theorem uIx_s : uIx (.str x) (.int i) H Q = (x.length ≤ sizeLine ∧ ∃ c, atI x.cps.toList i = some c ∧ Q (.str ⟨#[c]⟩) H) := by simp [uIx]
theorem uLen_r : uLen [.ref a] H Q = ∃ ys, (H a = some (.lst ys) ∨ H a = some (.tup ys)) ∧ Q (.int ys.length) H := by
  apply propext; constructor
  · rintro (⟨p, xs, e1, h, r⟩ | ⟨p, xs, e1, h, r⟩ | ⟨z, e, _⟩)
    · cases e1; exact ⟨xs, .inl h, r⟩
    · cases e1; exact ⟨xs, .inr h, r⟩
    · cases e
  · rintro ⟨xs, h | h, r⟩
    · exact .inl ⟨_, xs, rfl, h, r⟩
    · exact .inr (.inl ⟨_, xs, rfl, h, r⟩)
theorem uLen_s : uLen [.str x] H Q = (x.length ≤ sizeLine ∧ Q (.int x.length) H) := by simp [uLen]
theorem rI_ii : rI C g (.int i) (.int j) H Q = (C i j ∧ Q (g i j) H) := by simp [rI]
theorem rI0_ii : rI0 g (.int i) (.int j) H Q = Q (g i j) H := by simp [rI0]
theorem rU_i {g : Int → V} : rU g (.int i) H Q = Q (g i) H := by simp [rU]
theorem uEq_ii : uEq c (.int i) (.int j) H Q = Q (.bl (if c then !decide (i = j) else decide (i = j))) H := by simp [uEq, scal]
theorem uEq_ss : uEq c (.str x) (.str y) H Q = Q (.bl (if c then !decide (x = y) else decide (x = y))) H := by simp [uEq, scal]
theorem uEq_bb : uEq c (.bl k) (.bl k') H Q = Q (.bl (if c then !decide (k = k') else decide (k = k'))) H := by simp [uEq, scal]
theorem uEq_rr : uEq c (.ref a) (.ref b) H Q = ∃ xs ys, H a = some (.lst xs) ∧ H b = some (.lst ys) ∧ xs.all flatV = true ∧ ys.all flatV = true ∧ Q (.bl (if c then !eqL xs ys else eqL xs ys)) H := by simp [uEq, scal]
/-- the truth of a value, as a reading -/
def uTru (K : PySem.W.Frag) (v : V) (H : Hp) (Q : Bool → Hp → Prop) : Prop := ∃ k, TruV K v H k ∧ Q k H
theorem uTru_b : uTru K (.bl k) H QB = QB k H := by simp [uTru, TruV]
theorem uTru_n : uTru K .non H QB = QB false H := by simp [uTru, TruV]
theorem uTru_i : uTru K (.int i) H QB = QB (i != 0) H := by simp [uTru, TruV]
theorem tTru_eq {ta : TE} {σ : St} : tTru K ta σ H QB = ta σ H fun x H' => uTru K x H' QB := rfl
/-- a value that is a truth -/
def uB (v : V) (q : Bool → Prop) : Prop := ∃ c, v = .bl c ∧ q c
theorem uB_b {q : Bool → Prop} : uB (.bl k) q = q k := by simp [uB]
theorem tB_eq {t : TE} {σ : St} : tB t σ H QB = t σ H fun x H1 => uB x fun c => QB c H1 := rfl
theorem tTest_eq {t : TE} {σ : St} : tTest t σ H QB = t σ H fun x H1 => uB x fun c => QB c H1 := rfl
theorem tAndV_eq {t u : TE} {σ : St} : tAndV t u σ H Q = t σ H fun x H1 => uB x fun c => if c = true then u σ H1 Q else Q (.bl false) H1 := rfl
theorem tOrV_eq {t u : TE} {σ : St} : tOrV t u σ H Q = t σ H fun x H1 => uB x fun c => if c = true then Q (.bl true) H1 else u σ H1 Q := rfl
theorem tNotV_eq {t : TE} {σ : St} : tNotV t σ H Q = t σ H fun x H1 => uB x fun c => Q (.bl (!c)) H1 := rfl
theorem tChain_eq {r r' : R2} {ta tb tc : TE} {σ : St} : tChain r r' ta tb tc σ H Q = ta σ H fun x H1 => tb σ H1 fun y H2 => r x y H2 fun z H3 => uB z fun k => if k = true then tc σ H3 fun w' H4 => r' y w' H4 Q else Q (.bl false) H3 := rfl
theorem uR_r {q : Addr → Prop} : uR (.ref a) q = q a := by simp [uR]
theorem uFld_eq {C : Addr} {ta : TE} {f : Str} {σ : St} : uFld C ta f σ H Q = ta σ H fun x H1 => uR x fun a => ∃ dx fs v, H1 a = some (.ins C dx fs) ∧ fs.lookup f = some v ∧ Q v H1 := by
  unfold uFld uR
  congr; funext x H1
  apply propext
  constructor
  · rintro ⟨a, dx, fs, v, h1, h2, h3, h4⟩; exact ⟨a, h1, dx, fs, v, h2, h3, h4⟩
  · rintro ⟨a, h1, dx, fs, v, h2, h3, h4⟩; exact ⟨a, dx, fs, v, h1, h2, h3, h4⟩
theorem uSetF_eq {C : Addr} {ta tv : TE} {f : Str} {σ : St} {D : Ends} : uSetF C ta tv f D σ H = tv σ H fun y H1 => ta σ H1 fun x H2 => uR x fun a => ∃ dx fs, H2 a = some (.ins C dx fs) ∧ fs.length < 1000 ∧ D.nx σ (upd H2 a (.ins C dx (putF f y fs))) := by
  unfold uSetF uR
  congr; funext x H1; congr; funext x2 H2
  apply propext
  constructor
  · rintro ⟨a, dx, fs, h1, h2, h3, h4⟩; exact ⟨a, h1, dx, fs, h2, h3, h4⟩
  · rintro ⟨a, h1, dx, fs, h2, h3, h4⟩; exact ⟨a, dx, fs, h1, h2, h3, h4⟩
theorem tMeth_eq {C : Addr} {m : Str} {sp : Sp} {dvs : List V} {E : XK} {ta : TE} {t : TA} {σ : St} : tMeth C m sp dvs E ta t σ H Q = ta σ H fun x H1 => uR x fun a => ∃ dx fs, H1 a = some (.ins C dx fs) ∧ fs.lookup m = none ∧ t σ H1 fun vs H2 => sp (.ref a :: (vs ++ dvs)) H2 Q E := by
  unfold tMeth uR
  congr; funext x H1
  apply propext
  constructor
  · rintro ⟨a, dx, fs, rfl, h2, h3, h4⟩; exact ⟨a, rfl, dx, fs, h2, h3, h4⟩
  · rintro ⟨a, rfl, dx, fs, h2, h3, h4⟩; exact ⟨a, dx, fs, rfl, h2, h3, h4⟩
theorem tMethX_eq {C : Addr} {m : Str} {sp : Sp} {dvs : List V} {Ex : Addr → St → Hp → Prop} {ta : TE} {t : TA} {σ : St} : tMethX C m sp dvs Ex ta t σ H Q = ta σ H fun x H1 => uR x fun a => ∃ dx fs, H1 a = some (.ins C dx fs) ∧ fs.lookup m = none ∧ t σ H1 fun vs H2 => sp (.ref a :: (vs ++ dvs)) H2 Q (XE Ex σ) := by
  unfold tMethX uR
  congr; funext x H1
  apply propext
  constructor
  · rintro ⟨a, dx, fs, rfl, h2, h3, h4⟩; exact ⟨a, rfl, dx, fs, h2, h3, h4⟩
  · rintro ⟨a, rfl, dx, fs, h2, h3, h4⟩; exact ⟨a, dx, fs, rfl, h2, h3, h4⟩
end
/-! ### loops, comprehensions: by what is walked -/
section
variable {K : PySem.W.Frag} {g : TG} {tb : TS} {D : Ends} {σ : St} {H : Hp} {ta : TA} {tl : TE} {wi : TI} {R : It → Hp → Prop} {j : Int} {tt : TT} {te : TE} {ix : List (Option Nat)} {Q : VK}
def ForJ (J : It) (g : TG) (tb : TS) (D : Ends) (σ : St) (H : Hp) : Prop := ∃ W : Nat → Nat → St → Hp → Prop, (∃ m, W 0 m σ H) ∧ ∀ i m σ H, W i m σ H →
  (J.stop i H ∧ D.nx σ H) ∨ (J.go i H ∧ ∃ N : St → Hp → Prop, (∀ σ' H', N σ' H' → ∃ m', m' < m ∧ W (i + 1) m' σ' H') ∧ ∀ x H', J.yld i H x H' → g x σ H' fun σ2 H2 => tb { D with nx := N, ct := N, bk := D.nx } σ2 H2)
theorem tFor_eq : tFor wi g tb D σ H = wi σ H fun J H1 => ForJ J g tb D σ H1 := rfl
def uI1 (vs : List V) (q : Int → Prop) : Prop := ∃ j, vs = [.int j] ∧ q j
theorem uI1_i {q : Int → Prop} : uI1 [.int j] q = q j := by simp [uI1]
theorem iRng1_eq : iRng1 ta σ H R = ta σ H fun vs H1 => uI1 vs fun j => -(2 ^ 62) ≤ j ∧ j < 2 ^ 62 ∧ R (Itr 0 j.toNat) H1 := rfl
theorem iList_eq : iList K tl σ H R = tl σ H fun x H1 => uR x fun a => (∃ xs, SqL K H1 a xs) ∧ R (Itl K a) H1 := rfl
theorem iTup_eq : iTup K tl σ H R = tl σ H fun x H1 => uR x fun a => (∃ xs, SqT K H1 a xs) ∧ R (Itt K a) H1 := rfl
def uR2 (vs : List V) (q : Addr → Addr → Prop) : Prop := ∃ a b, vs = [.ref a, .ref b] ∧ q a b
theorem uR2_r {q : Addr → Addr → Prop} {a b : Addr} : uR2 [.ref a, .ref b] q = q a b := by
  apply propext
  constructor
  · rintro ⟨c, d, e, h⟩; cases e; exact h
  · exact fun h => ⟨a, b, rfl, h⟩
theorem iZip_eq : iZip K ta σ H R = ta σ H fun vs H1 => uR2 vs fun a b => (∃ xs, SqL K H1 a xs) ∧ (∃ ys, SqL K H1 b ys) ∧ R (Itz K a b) H1 := by
  unfold iZip uR2
  rfl
def CompJ (J : It) (g : TG) (tt : TT) (te : TE) (τ : St) (H : Hp) (Q : VK) : Prop := ∃ W : Nat → Nat → St → List V → Hp → Prop, (∃ m, W 0 m τ [] H) ∧ ∀ i m τ ys H2, W i m τ ys H2 → ys.length < sizeLine ∧
  ((J.stop i H2 ∧ ∀ D, H2 D = none → Q (.ref D) (upd H2 D (.lst ys))) ∨
   (J.go i H2 ∧ ∀ x H3, J.yld i H2 x H3 → g x τ H3 fun τ1 H4 => tt τ1 H4 fun ok H5 => if ok = true then te τ1 H5 fun y H6 => ∃ m', m' < m ∧ W (i + 1) m' τ1 (ys ++ [y]) H6 else ∃ m', m' < m ∧ W (i + 1) m' τ1 ys H5))
theorem tLC_eq : tLC ix wi g tt te σ H Q = wi σ H fun J H1 => CompJ J g tt te (pick ix σ) H1 Q := rfl
theorem ForJ.rng {lo : Int} {n : Nat} (Pv : Nat → St → Hp → Prop) (h0 : Pv 0 σ H)
    (hs : ∀ i σ H, i < n → Pv i σ H → g (.int (lo + i)) σ H fun σ2 H2 => tb { D with nx := Pv (i + 1), ct := Pv (i + 1), bk := D.nx } σ2 H2) (hd : ∀ σ H, Pv n σ H → D.nx σ H) : ForJ (Itr lo n) g tb D σ H := for_range Pv h0 hs hd
theorem ForJ.lst {a : Addr} {xs : List V} (Pv : Nat → St → Hp → Prop) (h0 : Pv 0 σ H) (hl : ∀ i σ H, i ≤ xs.length → Pv i σ H → SqL K H a xs)
    (hs : ∀ i x σ H, xs[i]? = some x → Pv i σ H → g x σ H fun σ2 H2 => tb { D with nx := Pv (i + 1), ct := Pv (i + 1), bk := D.nx } σ2 H2) (hd : ∀ σ H, Pv xs.length σ H → D.nx σ H) : ForJ (Itl K a) g tb D σ H := for_list Pv h0 hl hs hd
/-- what a turn of a comprehension is to reach -/
def CompN (N : St → List V → Hp → Prop) (ys : List V) (τ1 : St) (te : TE) (ok : Bool) (H5 : Hp) : Prop := if ok = true then te τ1 H5 fun y H6 => N τ1 (ys ++ [y]) H6 else N τ1 ys H5
theorem CompN_t {N : St → List V → Hp → Prop} {ys : List V} {τ : St} : CompN N ys τ te true H = te τ H fun y H6 => N τ (ys ++ [y]) H6 := rfl
theorem CompN_f {N : St → List V → Hp → Prop} {ys : List V} {τ : St} : CompN N ys τ te false H = N τ ys H := rfl
theorem CompJ.rng {lo : Int} {n : Nat} {τ : St} (Pv : Nat → St → List V → Hp → Prop) (hz : ∀ i τ ys H, Pv i τ ys H → ys.length < sizeLine) (h0 : Pv 0 τ [] H)
    (hs : ∀ (N : St → List V → Hp → Prop) i τ ys H, i < n → Pv i τ ys H → (∀ τ ys H, Pv (i + 1) τ ys H → N τ ys H) → g (.int (lo + i)) τ H fun τ1 H4 => tt τ1 H4 fun ok H5 => CompN N ys τ1 te ok H5) (hd : ∀ τ ys H, Pv n τ ys H → ∀ D H', New H D (.lst ys) H' → Q (.ref D) H') : CompJ (Itr lo n) g tt te τ H Q := by
  refine ⟨fun i m τ ys H => m = n - i ∧ i ≤ n ∧ Pv i τ ys H, ⟨n, by simp, Nat.zero_le _, h0⟩, ?_⟩
  rintro i m τ ys H2 ⟨rfl, hi, p⟩
  refine ⟨hz i τ ys H2 p, ?_⟩
  by_cases hlt : i < n
  · refine .inr ⟨hlt, fun x H' y => ?_⟩
    obtain ⟨e, y⟩ := y
    subst e y
    exact hs (fun τ1 ys H => ∃ m', m' < n - i ∧ m' = n - (i + 1) ∧ i + 1 ≤ n ∧ Pv (i + 1) τ1 ys H) i τ ys _ hlt p fun τ1 zs H q => ⟨n - (i + 1), by omega, rfl, hlt, q⟩
  · have e : i = n := by omega
    subst e
    exact .inl ⟨Nat.le_refl _, fun D hD => hd τ ys H2 p D _ (.mk' hD)⟩
/-- a comprehension over two lists -/
theorem CompJ.zip {a b : Addr} {xs ys : List V} {τ : St} (hlen : xs.length = ys.length) (Pv : Nat → St → List V → Hp → Prop) (hz : ∀ i τ zs H, Pv i τ zs H → zs.length < sizeLine) (ha : ∀ i τ zs H, Pv i τ zs H → SqL K H a xs ∧ SqL K H b ys) (h0 : Pv 0 τ [] H)
    (hs : ∀ (N : St → List V → Hp → Prop) i x y p τ zs H, xs[i]? = some x → ys[i]? = some y → Pv i τ zs H → H p = none → (∀ τ zs H, Pv (i + 1) τ zs H → N τ zs H) → g (.ref p) τ (upd H p (.tup [x, y])) fun τ1 H4 => tt τ1 H4 fun ok H5 => CompN N zs τ1 te ok H5) (hd : ∀ τ zs H, Pv xs.length τ zs H → ∀ D H', New H D (.lst zs) H' → Q (.ref D) H') : CompJ (Itz K a b) g tt te τ H Q := by
  refine ⟨fun i m τ zs H => m = xs.length - i ∧ i ≤ xs.length ∧ Pv i τ zs H, ⟨xs.length, by simp, Nat.zero_le _, h0⟩, ?_⟩
  rintro i m τ zs H2 ⟨rfl, hi, p⟩
  refine ⟨hz i τ zs H2 p, ?_⟩
  obtain ⟨qa, qb⟩ := ha i τ zs H2 p
  by_cases hlt : i < xs.length
  · refine .inr ⟨⟨xs, ys, xs[i], ys[i]'(by omega), qa, qb, List.getElem?_eq_getElem hlt, List.getElem?_eq_getElem _⟩, fun v H' y => ?_⟩
    obtain ⟨T, x, y, hT, rfl, rfl, hx, hy⟩ := y
    exact hs (fun τ1 ys H => ∃ m', m' < xs.length - i ∧ m' = xs.length - (i + 1) ∧ i + 1 ≤ xs.length ∧ Pv (i + 1) τ1 ys H) i x y T τ zs _ (hx _ qa) (hy _ qb) p hT fun τ1 zs H q => ⟨xs.length - (i + 1), by omega, rfl, hlt, q⟩
  · have e : i = xs.length := by omega
    subst e
    exact .inl ⟨⟨xs, ys, qa, qb, Nat.le_refl _⟩, fun D hD => hd τ zs H2 p D _ (.mk' hD)⟩
end
end L2
set_option Elab.async false
set_option linter.all false
set_option maxRecDepth 100000
set_option maxHeartbeats 4000000
namespace L2
open PySem PySem.Spec PyProof.Rows
section
variable {X : Cx}
/-! ### texts: slices, join, repeated -/
def rSlS : V → Option Int → Option Int → Hp → VK → Prop := fun x lo hi H Q => ∃ z, x = .str z ∧ z.length ≤ sizeLine ∧ Q (.str (Txt.slice z lo hi)) H
theorem isSlice_of {h : Heap} {sl : Addr} {vl vu : Value} {lo hi : Option Int} (hs : h.IsSliceOf sl vl vu .none) (pl : IsPart vl lo) (pu : IsPart vu hi) : ∃ l u : Option (Int × Tok), h.IsSlice sl l u none ∧ l.map (·.1) = lo ∧ u.map (·.1) = hi := by
  obtain ⟨o, h1, h2, h3⟩ := hs
  cases pl with
  | none =>
    cases pu with
    | none => exact ⟨none, none, ⟨o, h1, h2, h3⟩, rfl, rfl⟩
    | int j t => exact ⟨none, some (j, t), ⟨o, h1, h2, h3⟩, rfl, rfl⟩
  | int i t' =>
    cases pu with
    | none => exact ⟨some (i, t'), none, ⟨o, h1, h2, h3⟩, rfl, rfl⟩
    | int j t => exact ⟨some (i, t'), some (j, t), ⟨o, h1, h2, h3⟩, rfl, rfl⟩
theorem sl_str : SlR X rSlS := by
  intro pins s σ H x v vl vu lo hi sl Q I rx hs pl pu h
  obtain ⟨z, rfl, hz, q⟩ := h
  obtain ⟨t, rfl⟩ := rx
  obtain ⟨l, u, hS, e1, e2⟩ := isSlice_of hs pl pu
  subst e1 e2
  exact ⟨"str", _, F.slot_str_getitem.lookup, typeIs_str _ _ _, wpAny_getItem_str_slice (l := l) (u := u) (st := none) hS rfl
    (post_val_or_str ⟨Nat.le_trans (Txt.slice_le z _ _) hz, fun t' k => ⟨.str _, H, I.tok k, ⟨_, rfl⟩, q⟩⟩)⟩
def uSl : V → Option Int → Option Int → Hp → VK → Prop := fun x lo hi H Q => (∃ a xs, x = .ref a ∧ H a = some (.lst xs) ∧ ∀ p H2, New H p (.lst (cutV xs lo hi)) H2 → Q (.ref p) H2) ∨ rSlS x lo hi H Q
theorem SlR.weak {r r' : V → Option Int → Option Int → Hp → VK → Prop} (h : SlR X r) (hw : ∀ x l u H Q, r' x l u H Q → r x l u H Q) : SlR X r' :=
  fun pins s σ H x v vl vu lo hi sl Q I rx hs pl pu q => h pins s σ H x v vl vu lo hi sl Q I rx hs pl pu (hw _ _ _ _ _ q)
theorem sl_U : SlR X uSl := ((sl_list (X := X)).or sl_str).weak fun x l u H Q h => by
  rcases h with ⟨a, xs, e, h, q⟩ | h
  · exact .inl ⟨a, xs, e, SqL.of h, fun p hp => q p _ (.mk' hp)⟩
  · exact .inr h
/-- a slice's part as a reading -/
def uPart (v : V) (q : Int → Prop) : Prop := ∃ i, v = .int i ∧ q i
theorem uPart_i {i : Int} {q : Int → Prop} : uPart (.int i) q = q i := by simp [uPart]
theorem tPart_eq {t : TE} {σ : St} {H : Hp} {Q : Option Int → Hp → Prop} : tPart t σ H Q = t σ H fun x H1 => uPart x fun i => Q (some i) H1 := rfl
theorem uSl_s {z : Str} {lo hi : Option Int} {H : Hp} {Q : VK} : uSl (.str z) lo hi H Q = (z.length ≤ sizeLine ∧ Q (.str (Txt.slice z lo hi)) H) := by simp [uSl, rSlS]
theorem uSl_r {a : Addr} {lo hi : Option Int} {H : Hp} {Q : VK} : uSl (.ref a) lo hi H Q = ∃ xs, H a = some (.lst xs) ∧ ∀ p H2, New H p (.lst (cutV xs lo hi)) H2 → Q (.ref p) H2 := by simp [uSl, rSlS]
/-- x.join(list of texts) -/
theorem strsAre_of {ys : List Str} : ∀ {us : List Value}, Vals (ys.map V.str) us → StrsAre us ys := by
  induction ys with
  | nil => intro us r; rw [List.map_nil] at r; cases r; exact .nil
  | cons n ns ih =>
    intro us r
    rw [List.map_cons] at r
    cases r with
    | cons r1 r2 =>
      obtain ⟨t, e⟩ := r1
      subst e
      exact .cons n t (ih r2)
def rJoin : V → List V → Hp → VK → Prop := fun x vs H Q => ∃ z p ys, x = .str z ∧ vs = [.ref p] ∧ H p = some (.lst (ys.map V.str)) ∧ (ys.map (·.length)).sum + ys.length * z.length ≤ 16777216 ∧ Q (.str (Txt.join z ys)) H
theorem mt_join : MtR X "str.join" rJoin := by
  intro pins s σ H x xs v us Q I rx rs h
  obtain ⟨z, p, ys, rfl, rfl, hp, hz, q⟩ := h
  obtain ⟨t, rfl⟩ := rx
  cases rs with
  | cons r1 rr =>
    cases rr
    cases (show _ = Value.ref p from r1)
    obtain ⟨its, r, ht, _⟩ := I.list (SqL.of (K := X.K) hp)
    exact join_list ht.isList (by simpa using strsAre_of r) hz fun t' k => ⟨.str _, H, I.tok k, ⟨_, rfl⟩, q⟩
/-- text * n -/
def repS (z : Str) (n : Nat) : Str := ⟨((List.replicate n z.cps.toList).flatten).toArray⟩
theorem foldl_repN {α : Type} (l : List α) : ∀ (n : Nat) (acc : List α), List.foldl (fun x1 x2 : Array α => x1 ++ x2) acc.toArray (List.replicate n l.toArray) = (acc ++ (List.replicate n l).flatten).toArray
  | 0, acc => by simp
  | n + 1, acc => by
    rw [List.replicate_succ, List.foldl_cons, List.append_toArray, foldl_repN l n (acc ++ l)]
    simp [List.replicate_succ]
theorem repS_eq (z : Str) (n : Nat) : (⟨(List.replicate n z.cps).foldl (· ++ ·) #[]⟩ : Str) = repS z n := by
  have h := foldl_repN z.cps.toList n []
  unfold repS
  congr 1
theorem flat_len {α : Type} (l : List α) : ∀ n : Nat, ((List.replicate n l).flatten).length = l.length * n
  | 0 => by simp
  | n + 1 => by rw [List.replicate_succ, List.flatten_cons, List.length_append, flat_len l n, Nat.mul_succ]; omega
theorem repS_len (z : Str) (n : Nat) : (repS z n).length = z.length * n := by
  show (((List.replicate n z.cps.toList).flatten).toArray).size = _
  rw [List.size_toArray, flat_len]
  rfl
def rRepS : R2 := fun x y H Q => ∃ z n, x = .str z ∧ y = .int n ∧ 1 < n ∧ n < 2 ^ 31 ∧ z.length ≠ 0 ∧ z.length * n.toNat ≤ sizeLine ∧ Q (.str (repS z n.toNat)) H
theorem op_repS : OpR X (binaryOp .Mult) rRepS := by
  intro pins s σ H x y v u Q I rx ry h
  obtain ⟨z, n, rfl, rfl, h1, h2, h3, h4, q⟩ := h
  obtain ⟨t, rfl⟩ := rx
  obtain ⟨t', rfl⟩ := ry
  have hs : sizeLine = 16777216 := sizeLine_eq
  have hc : (n == 1 || z.length == 0) = false := by
    rw [Bool.or_eq_false_iff]
    exact ⟨beq_eq_false_iff_ne.mpr (by omega), beq_eq_false_iff_ne.mpr h3⟩
  have hz : z.length ≤ 16777216 := by
    have : z.length * 1 ≤ z.length * n.toNat := Nat.mul_le_mul_left _ (by omega)
    omega
  refine PySem.P.mul_str ?_ ?_ ?_ ?_
  · rw [decide_eq_false (show ¬ n < -(2 ^ 63 : Int) by omega), decide_eq_false (show ¬ n ≥ 2 ^ 63 by omega)]; rfl
  · intro _ _ hgt
    have : (16777216 : Int) ≤ (2 ^ 63 - 1) / n := Int.le_ediv_of_mul_le (by omega) (by omega)
    omega
  · intro _ _
    exact decide_eq_false (by omega)
  · rw [if_neg (show ¬ n < 1 by omega), if_neg (by rw [hc]; exact Bool.false_ne_true), repS_eq]
    exact ⟨by rw [repS_len]; omega, ⟨.str _, H, I.tok _, ⟨_, rfl⟩, q⟩⟩
/-! ### lists: clear, list(..), items set -/
theorem rSetL_r {p : Addr} {k : Int} {v : V} {H : Hp} {Q : Hp → Prop} : rSetL (.ref p) (.int k) v H Q = ∃ xs j, H p = some (.lst xs) ∧ ixN xs.length k = some j ∧ Q (upd H p (.lst (xs.set j v))) := by
  apply propext; constructor
  · rintro ⟨p', xs, k', j, e1, e2, h⟩; cases e1; cases e2; exact ⟨xs, j, h⟩
  · rintro ⟨xs, j, h⟩; exact ⟨p, xs, k, j, rfl, rfl, h⟩
def uListOf : List V → Hp → VK → Prop := fun xs H Q => ∃ p ys, xs = [.ref p] ∧ (H p = some (.lst ys) ∨ H p = some (.tup ys)) ∧ ∀ l H2, New H l (.lst ys) H2 → Q (.ref l) H2
theorem uListOf_r {a : Addr} {H : Hp} {Q : VK} : uListOf [.ref a] H Q = ∃ ys, (H a = some (.lst ys) ∨ H a = some (.tup ys)) ∧ ∀ l H2, New H l (.lst ys) H2 → Q (.ref l) H2 := by
  apply propext; constructor
  · rintro ⟨p, ys, e, h⟩; cases e; exact ⟨ys, h⟩
  · rintro ⟨ys, h⟩; exact ⟨a, ys, rfl, h⟩
/-- xs.clear() -/
def uClear (to : TE) : TE := fun σ H Q => to σ H fun x H1 => uR x fun l => ∃ xs, H1 l = some (.lst xs) ∧ Q .non (upd H1 l (.lst []))
theorem rJoin_sr {z : Str} {p : Addr} {H : Hp} {Q : VK} : rJoin (.str z) [.ref p] H Q = ∃ ys : List Str, H p = some (.lst (ys.map V.str)) ∧ (ys.map (·.length)).sum + ys.length * z.length ≤ 16777216 ∧ Q (.str (Txt.join z ys)) H := by
  apply propext; constructor
  · rintro ⟨z', p', ys, e1, e2, h⟩; cases e1; cases e2; exact ⟨ys, h⟩
  · rintro ⟨ys, h⟩; exact ⟨z, p, ys, rfl, rfl, h⟩
end
end L2
set_option Elab.async false
set_option linter.all false
set_option maxRecDepth 100000
set_option maxHeartbeats 4000000
namespace L2
open PySem PySem.Spec PyProof.Rows
/-! ### for i, x in enumerate(list) -/
def Ite (K : PySem.W.Frag) (a : Addr) : It :=
  ⟨fun i H => ∃ xs x, SqL K H a xs ∧ xs[i]? = some x, fun i H v H' => ∃ T x, H T = none ∧ v = .ref T ∧ H' = upd H T (.tup [.int i, x]) ∧ ∀ xs, SqL K H a xs → xs[i]? = some x, fun i H => ∃ xs, SqL K H a xs ∧ xs.length ≤ i⟩
structure EnumSt (e it l : Addr) (i : Nat) (h : Heap) : Prop where
  z : ∃ old, IsEnum h e it i old
  a : h.IsListIter it l i
theorem turn_enum {P : Program} {w : World} {K : PySem.W.Frag} {elts : List Expr} {kk : Nat} {tp : Pos} {l e it : Addr} (hne : e ≠ it) :
    Turn true P w K (.Tuple elts kk tp) (Ite K l) [e, it] e (EnumSt e it l) where
  mem := by simp
  obj := fun i h st b hb => by
    obtain ⟨⟨old, a1⟩, ⟨o4, a4, _, d4⟩⟩ := st
    simp only [List.mem_cons, List.not_mem_nil, or_false] at hb
    rcases hb with rfl | rfl
    · exact ⟨_, a1, fun v q => nomatch q⟩
    · exact ⟨_, a4, fun v q => by rw [d4] at q; cases q⟩
  keep := fun i h h' st k => by
    obtain ⟨⟨old, a1⟩, a4⟩ := st
    exact ⟨⟨old, k _ (by simp) _ a1⟩, a4.at fun o e => k _ (by simp) o e⟩
  item := by
    intro X hP hw hK hc i pins s σ H E I hf st hg
    subst hP hw hK
    obtain ⟨xs, x, hq1, hx⟩ := hg
    obtain ⟨is1, rv1, p1, hz1⟩ := I.list hq1
    obtain ⟨u1, hu1, ru1⟩ := rv1.get hx
    obtain ⟨⟨old, a1⟩, a4⟩ := st
    refine wpAny_pyNext_enum_item a1 a4 p1.isList (x := u1) (by simpa using hu1) hne fun h' b1 b2 b3 b4 b5 => ?_
    refine ⟨_, rfl, wpAny_letOwnedTupleGo_enum (s := { s with heap := h', toks := s.toks + 1 }) b1 fun h2 c1 c2 => ?_⟩
    have zlt : e < s.heap.objs.size := Heap.lt_size a1
    have nz : s.heap.objs.size ≠ e := Nat.ne_of_gt zlt
    have all : ∀ c o, c ≠ e → c ≠ it → s.heap.get? c = some o → h2.get? c = some o := fun c o n1 n2 q => c2.extBut c o n1 (b5 c o n1 n2 q)
    have tT : h2.get? s.heap.objs.size = some { cls := .type "tuple", data := .seq #[.int i s.toks, u1] } := c2.extBut _ _ nz b3
    have hfr : H s.heap.objs.size = none := I.hok.fresh (Nat.le_refl _)
    have hok0 : HOk X.prog X.w H h2 := fun b u q0 => by
      refine (I.hok b u q0).stay (fun c v hc q => ?_) (fun _ q => q) fun _ _ q => q
      have hnn : ∀ d ∈ [e, it], c ≠ d := fun d hd w => by
        have fd := (hf d hd).1
        rcases hc with k | k
        · rw [k] at w; rw [w, fd] at q0; cases q0
        · rw [w, fd] at k; cases k
      exact all c v (hnn e (by simp)) (hnn it (by simp)) q
    have lt0 : ∀ b o, s.heap.get? b = some o → b ≠ s.heap.objs.size := fun b o e => Nat.ne_of_lt (Heap.lt_size e)
    have I2 : Inv X pins σ (upd H s.heap.objs.size (.tup [.int i, x])) { s with heap := h2, toks := s.toks + 1 } := by
      refine I.step (g' := s.gens) (d' := s.drawn) (t' := s.toks + 1) (ch := [e, it]) (fun b hb => ?_) (fun b o _ _ hb q _ => ?_) (fun b o _ _ hb q _ => ?_) (fun b o _ q n => ?_) (fun b o hb q => ?_) (fun b ps q => ?_) (fun b o u q => ?_) (fun b ps q => ?_) (fun m hm => ?_) (hok0.add hfr ?_) I.bare
      · obtain ⟨f0, f1, f2, f3, f4, f5⟩ := hf b hb
        exact ⟨f3, f1, f4, f5⟩
      · simp only [List.mem_cons, List.not_mem_nil, or_false, not_or] at hb
        exact all b o hb.1 hb.2 q
      · simp only [List.mem_cons, List.not_mem_nil, or_false, not_or] at hb
        exact ⟨o.slots, all b o hb.1 hb.2 q⟩
      · rw [upd_ne (lt0 b o q)]; exact n
      · simp only [List.mem_cons, List.not_mem_nil, or_false, not_or] at hb
        exact ⟨o, all b o hb.1 hb.2 q⟩
      · rw [upd_ne (ne_of_none q hfr)]; exact q
      · rw [upd_ne (ne_of_none q hfr)]; exact q
      · exact ⟨#[], by rw [upd_ne (ne_of_none q hfr), q]; simp⟩
      · obtain ⟨o, es, ep, ho, r⟩ := hm
        exact ⟨o, es, ep, all _ o (Ne.symm (hf e (by simp)).2.1) (Ne.symm (hf it (by simp)).2.1) ho, r⟩
      · exact ⟨by show 2 ≤ sizeLine; decide, [.int i s.toks, u1], .cons ⟨_, rfl⟩ (.cons ru1 .nil), ⟨_, tT, rfl, _, rfl⟩⟩
    refine ⟨.ref s.heap.objs.size, _, I2, rfl, ⟨_, x, hfr, rfl, rfl, fun zs hz => by rw [I.list_inj hz hq1]; exact hx⟩, ?_, fun b hb => ?_⟩
    · exact ⟨⟨_, c1⟩, b2.extBut c2.extBut (Ne.symm hne)⟩
    · have ne : b ≠ s.heap.objs.size := fun q => by
        have : b < s.heap.objs.size := by
          simp only [List.mem_cons, List.not_mem_nil, or_false] at hb
          obtain ⟨o4, a4, _⟩ := a4
          rcases hb with rfl | rfl
          · exact zlt
          · exact Heap.lt_size a4
        exact absurd (q ▸ this) (Nat.lt_irrefl _)
      rw [upd_ne ne]
      exact (hf b hb).1
  done := by
    intro X hP hw hK hc i pins s σ H E I hf st hg
    subst hP hw hK
    obtain ⟨xs, hq1, hx⟩ := hg
    obtain ⟨is1, rv1, p1, hz1⟩ := I.list hq1
    have hl := rv1.length
    obtain ⟨⟨old, a1⟩, a4⟩ := st
    refine wpAny_pyNext_enum_end (I.ok.hd (hc rfl)) a1 a4 p1.isList (by simp; omega) fun h' up => ⟨rfl, ?_⟩
    refine I.step (g' := s.gens) (d' := s.drawn) (t' := s.toks) (ch := [it]) (fun b hb => ?_) (fun b o _ _ hb q _ => ?_) (fun b o _ _ hb q _ => ?_) (fun _ _ _ _ n => n) (fun b o hb q => ?_) (fun _ _ q => q) (fun _ _ _ q => q) (fun b ps q => ⟨#[], by rw [q]; simp⟩) (fun m hm => ?_) (fun b u q0 => ?_) I.bare
    · have hb' : b ∈ [e, it] := by simp only [List.mem_cons, List.not_mem_nil, or_false] at hb ⊢; exact .inr hb
      obtain ⟨f0, f1, f2, f3, f4, f5⟩ := hf b hb'
      exact ⟨f3, f1, f4, f5⟩
    · simp only [List.mem_cons, List.not_mem_nil, or_false] at hb
      exact up b o hb q
    · simp only [List.mem_cons, List.not_mem_nil, or_false] at hb
      exact ⟨o.slots, up b o hb q⟩
    · simp only [List.mem_cons, List.not_mem_nil, or_false] at hb
      exact ⟨o, up b o hb q⟩
    · obtain ⟨o, es, ep, ho, r⟩ := hm
      exact ⟨o, es, ep, up _ o (Ne.symm (hf it (by simp)).2.1) ho, r⟩
    · refine (I.hok b u q0).stay (fun c v hc q => ?_) (fun _ q => q) fun _ _ q => q
      have hnn : c ≠ it := fun w => by
        have fd := (hf it (by simp)).1
        rcases hc with k | k
        · rw [k] at w; rw [w, fd] at q0; cases q0
        · rw [w, fd] at k; cases k
      exact up c v hnn q
  self := fun _ _ _ _ _ st h => by
    obtain ⟨old, a1⟩ := st.z
    exact wpAny_pyIter_enum a1 h
section
variable {X : Cx}
def iEnum (K : PySem.W.Frag) (ta : TA) : TI := fun σ H R => ta σ H fun vs H1 => ∃ a, vs = [.ref a] ∧ (∃ xs, SqL K H1 a xs) ∧ R (Ite K a) H1
theorem pi_enumL {elts : List Expr} {kk : Nat} {tp p pos : Pos} {a : Expr} {ta : TA} (hg : Gl X "enumerate") (hm : X.mg "enumerate" = none) (ha : PA X [a] ta) (hp : plainE a = true := by rfl) :
    PIc true X (.Tuple elts kk tp) (.Call (.Name "enumerate" p) [a] [] pos) (iEnum X.K ta) := by
  intro pins s σ H R I h
  have hs : starEach [a] X.env = [(false, eval a X.env)] := star1 hp
  refine Call_ (ld_blt I hg hm boot_enumerate (PyProof.Rows.callWith_type1 (thn (ha pos pins s σ H _ I h) fun us s1 ⟨vs, H1, I1, r1, q1⟩ => ?_) hs rfl))
  obtain ⟨l1, e, ⟨xs, h1⟩, q⟩ := q1
  subst e
  cases r1 with
  | cons r rr =>
    cases rr
    cases (show _ = Value.ref l1 from r)
    obtain ⟨is1, rv1, p1, _⟩ := I1.list h1
    refine call_enumerate_list p1.isList fun h' a1 a4 a6 a7 => wpAny_pyIter_enum (s := { s1 with heap := h' }) a1 ?_
    refine ⟨_, _, _, _, H1, rfl, I1.kept (t' := s1.toks) a7, turn_enum (Nat.succ_ne_self _), ⟨⟨_, a1⟩, a4⟩, fun b hb => ?_, q⟩
    have le : s1.heap.objs.size ≤ b := by
      simp only [List.mem_cons, List.not_mem_nil, or_false] at hb
      rcases hb with rfl | rfl <;> omega
    exact I1.fpOk le (I1.hok.fresh le)
end
section
variable {K : PySem.W.Frag} {g : TG} {tb : TS} {D : Ends} {σ : St} {H : Hp} {ta : TA} {R : It → Hp → Prop}
def uR1 (vs : List V) (q : Addr → Prop) : Prop := ∃ a, vs = [.ref a] ∧ q a
theorem uR1_r {q : Addr → Prop} {a : Addr} : uR1 [.ref a] q = q a := by
  apply propext; constructor
  · rintro ⟨c, e, h⟩; cases e; exact h
  · exact fun h => ⟨a, rfl, h⟩
theorem iEnum_eq : iEnum K ta σ H R = ta σ H fun vs H1 => uR1 vs fun a => (∃ xs, SqL K H1 a xs) ∧ R (Ite K a) H1 := rfl
/-- for i, x in enumerate(a list that stays) -/
theorem ForJ.enum {a : Addr} {xs : List V} (Pv : Nat → St → Hp → Prop) (h0 : Pv 0 σ H) (hl : ∀ i σ H, i ≤ xs.length → Pv i σ H → SqL K H a xs)
    (hs : ∀ i x p σ H, xs[i]? = some x → Pv i σ H → H p = none → g (.ref p) σ (upd H p (.tup [.int i, x])) fun σ2 H2 => tb { D with nx := Pv (i + 1), ct := Pv (i + 1), bk := D.nx } σ2 H2) (hd : ∀ σ H, Pv xs.length σ H → D.nx σ H) : ForJ (Ite K a) g tb D σ H := by
  refine ⟨fun i m σ H => m = xs.length - i ∧ i ≤ xs.length ∧ Pv i σ H, ⟨xs.length, by simp, Nat.zero_le _, h0⟩, ?_⟩
  rintro i m σ H ⟨rfl, hi, p⟩
  have q := hl i σ H hi p
  by_cases hlt : i < xs.length
  · refine .inr ⟨⟨xs, xs[i], q, by simp [hlt]⟩, Pv (i + 1), fun σ' H' p' => ⟨xs.length - (i + 1), by omega, rfl, hlt, p'⟩, fun x H' y => ?_⟩
    obtain ⟨T, z, hT, rfl, rfl, hz⟩ := y
    exact hs i z T σ _ (hz xs q) p hT
  · have e : i = xs.length := by omega
    subst e
    exact .inl ⟨⟨xs, q, Nat.le_refl _⟩, hd σ H p⟩
end
end L2
set_option Elab.async false
set_option linter.all false
set_option maxRecDepth 100000
set_option maxHeartbeats 4000000
namespace L2
open PySem PySem.Spec PyProof.Rows
section
variable {X : Cx}
/-- o.f op= value where the class is known -/
def uAugF (C : Addr) (ta tv : TE) (rd : V → V → Hp → VK → Prop) (f : Str) : TS := fun D σ H => ta σ H fun x H1 => uR x fun a => ∃ dx fs v, H1 a = some (.ins C dx fs) ∧ fs.lookup f = some v ∧
  tv σ H1 fun y H2 => rd v y H2 fun z H3 => ∃ dx' fs', H3 a = some (.ins C dx' fs') ∧ fs'.length < 1000 ∧ D.nx σ (upd H3 a (.ins C dx' (putF f z fs')))
theorem ps_augFU {C : Addr} {o value : Expr} {f : Str} {tpos pos : Pos} {ta tv : TE} {op : Operator} {rd : V → V → Hp → VK → Prop} (c : Cls X.K C) (n : NoAttr X.K C f) (ha : PE X o ta) (hv : PE X value tv) (hop : InOp X op rd) : PS X (.AugAssign (.Attribute o f tpos) op value pos) (uAugF C ta tv rd f) := by
  intro pins s σ H D I h
  refine wpAny_AugAssign_AttributeAny (thn (ha pins s σ H _ I h) fun ov s1 ⟨x, H1, I1, rx, a, ex, dx, fs, v, ea, l, q⟩ => ?_)
  subst ex
  obtain rfl : ov = Value.ref a := rx
  refine getattr_ok I1 ea c n l fun u s2 I2 ru => thn (hv pins s2 σ H1 _ I2 q) fun w3 s3 ⟨y, H2, I3, ry, q3⟩ => thn (hop pins s3 σ H2 v y u w3 _ I3 ru ry q3) fun w4 s4 ⟨z, H3, I4, rz, dx', fs', ea', l', q4⟩ => ?_
  exact setattr_ok I4 ea' c n l' rz fun s5 I5 => ⟨σ, _, I5, q4⟩
theorem rAdd_ii {i j : Int} {H : Hp} {Q : VK} : rAdd (.int i) (.int j) H Q = Q (.int (i + j)) H := by simp [rAdd]
theorem rSub_ii {i j : Int} {H : Hp} {Q : VK} : rSub (.int i) (.int j) H Q = Q (.int (i - j)) H := by simp [rSub]
/-- is, is not None -/
def uIsN (neg : Bool) : R2 := fun x y H Q => y = .non ∧ Q (.bl (if neg then !decide (x = .non) else decide (x = .non))) H
theorem op_isnU : OpR X (compareOp .IsNot) (uIsN true) := op_notN.weak fun x y H Q h => ⟨h.1, by simpa using h.2⟩
theorem uIsN_n {c : Bool} {H : Hp} {Q : VK} : uIsN c .non .non H Q = Q (.bl (if c then false else true)) H := by simp [uIsN]
theorem uIsN_i {c : Bool} {i : Int} {H : Hp} {Q : VK} : uIsN c (.int i) .non H Q = Q (.bl (if c then true else false)) H := by simp [uIsN]
/-- text * n beside the rest -/
def uMulS : R2 := fun x y H Q => uMul x y H Q ∨ rRepS x y H Q
theorem op_mulS : OpR X (binaryOp .Mult) uMulS := op_mulU.or op_repS
theorem uMulS_ii {i j : Int} {H : Hp} {Q : VK} : uMulS (.int i) (.int j) H Q = (CMul i j ∧ Q (.int (i * j)) H) := by simp [uMulS, uMul_ii, rRepS]
theorem uMulS_ri {a : Addr} {i : Int} {H : Hp} {Q : VK} : uMulS (.ref a) (.int i) H Q = uMul (.ref a) (.int i) H Q := by simp [uMulS, rRepS]
theorem uMulS_si {z : Str} {i : Int} {H : Hp} {Q : VK} : uMulS (.str z) (.int i) H Q = (1 < i ∧ i < 2 ^ 31 ∧ z.length ≠ 0 ∧ z.length * i.toNat ≤ sizeLine ∧ Q (.str (repS z i.toNat)) H) := by
  simp [uMulS, uMul, rRepS]
/-- x.join(e) -/
def uS (v : V) (q : Str → Prop) : Prop := ∃ z, v = .str z ∧ q z
theorem uS_s {z : Str} {q : Str → Prop} : uS (.str z) q = q z := by simp [uS]
def uJoinE (to te : TE) : TE := fun σ H Q => to σ H fun x H1 => uS x fun z => te σ H1 fun y H2 => rJoin (.str z) [y] H2 Q
theorem pe_b_join {o e : Expr} {to te : TE} {apos cpos : Pos} (ho : PE X o to) (he : PE X e te) (hbase : attributeBase o "join" X.env (eval o X.env) = eval o X.env := by rfl) (hline : (apos.endLine == cpos.line) = true := by rfl) (hp : plainE e = true := by rfl) :
    PE X (.Call (.Attribute o "join" apos) [e] [] cpos) (uJoinE to te) := by
  intro pins s σ H Q I h
  have hs : starEach [e] X.env = [(false, eval e X.env)] := star1 hp
  refine wpAny_Call_method_late hbase (by rw [hs]; rfl) hline rfl (thn (ho pins s σ H _ I h) fun v s1 ⟨x, H1, I1, r1, z, ex, q1⟩ => ?_)
  subst ex
  obtain ⟨h1, h2⟩ := tyV_is (T := "str") I1 r1 rfl
  refine ⟨"str", "str.join", PySem.F.plainAttrs_str, PySem.F.slot_str_join, PySem.F.type_str_join, h1, h2, ?_⟩
  rw [hs]
  refine Calls.callWith_builtin rfl (Calls.evalArgs_plain ?_)
  have hA := pa_cons he pa_nil (hs := hs) cpos pins s1 σ H1 (fun ys H2 => match ys with | [y] => rJoin (.str z) [y] H2 Q | _ => False) I1 q1
  rw [hs] at hA
  refine thn hA fun us s2 ⟨vs, H2, I2, r2, q2⟩ => ?_
  match vs, q2, r2 with
  | [y], q2, r2 => exact mt_join pins s2 σ H2 (.str z) [y] v us Q I2 r1 r2 q2
/-- xs[::-1]: some list of items of xs -/
def uRev (te : TE) : TE := fun σ H Q => te σ H fun x H1 => uR x fun a => ∃ xs, H1 a = some (.lst xs) ∧ ∀ ys : List V, (∀ y ∈ ys, y ∈ xs) → ys.length ≤ xs.length → ∀ p H2, New H1 p (.lst ys) H2 → Q (.ref p) H2
end
section
variable {K : PySem.W.Frag} {g : TG} {tb : TS} {D : Ends} {σ : St} {H : Hp} {ta : TA} {tl : TE} {wi : TI} {R : It → Hp → Prop} {j : Int} {tt : TT} {te : TE} {ix : List (Option Nat)} {Q : VK}
def uI2 (vs : List V) (q : Int → Int → Prop) : Prop := ∃ i j, vs = [.int i, .int j] ∧ q i j
theorem uI2_i {i : Int} {q : Int → Int → Prop} : uI2 [.int i, .int j] q = q i j := by
  apply propext; constructor
  · rintro ⟨a, b, e, h⟩; cases e; exact h
  · exact fun h => ⟨i, j, rfl, h⟩
theorem iRng2_eq : iRng2 ta σ H R = ta σ H fun vs H1 => uI2 vs fun i j => (-(2 ^ 62) ≤ i ∧ i < 2 ^ 62 ∧ -(2 ^ 62) ≤ j ∧ j < 2 ^ 62) ∧ R (Itr i (j - i).toNat) H1 := rfl
theorem ForJ.tup {a : Addr} {xs : List V} (Pv : Nat → St → Hp → Prop) (h0 : Pv 0 σ H) (hl : ∀ i σ H, i ≤ xs.length → Pv i σ H → SqT K H a xs)
    (hs : ∀ i x σ H, xs[i]? = some x → Pv i σ H → g x σ H fun σ2 H2 => tb { D with nx := Pv (i + 1), ct := Pv (i + 1), bk := D.nx } σ2 H2) (hd : ∀ σ H, Pv xs.length σ H → D.nx σ H) : ForJ (Itt K a) g tb D σ H := for_tup Pv h0 hl hs hd
/-- a comprehension over a list -/
theorem CompJ.lst {a : Addr} {xs : List V} {τ : St} (Pv : Nat → St → List V → Hp → Prop) (hz : ∀ i τ ys H, Pv i τ ys H → ys.length < sizeLine) (ha : ∀ i τ ys H, Pv i τ ys H → SqL K H a xs) (h0 : Pv 0 τ [] H)
    (hs : ∀ (N : St → List V → Hp → Prop) i x τ ys H, xs[i]? = some x → Pv i τ ys H → (∀ τ ys H, Pv (i + 1) τ ys H → N τ ys H) → g x τ H fun τ1 H4 => tt τ1 H4 fun ok H5 => CompN N ys τ1 te ok H5) (hd : ∀ τ ys H, Pv xs.length τ ys H → ∀ D H', New H D (.lst ys) H' → Q (.ref D) H') : CompJ (Itl K a) g tt te τ H Q := by
  refine ⟨fun i m τ ys H => m = xs.length - i ∧ i ≤ xs.length ∧ Pv i τ ys H, ⟨xs.length, by simp, Nat.zero_le _, h0⟩, ?_⟩
  rintro i m τ ys H2 ⟨rfl, hi, p⟩
  refine ⟨hz i τ ys H2 p, ?_⟩
  have q := ha i τ ys H2 p
  by_cases hlt : i < xs.length
  · refine .inr ⟨⟨xs, xs[i], q, by simp [hlt]⟩, fun x H' y => ?_⟩
    obtain ⟨e, y⟩ := y
    subst e
    exact hs (fun τ1 ys H => ∃ m', m' < xs.length - i ∧ m' = xs.length - (i + 1) ∧ i + 1 ≤ xs.length ∧ Pv (i + 1) τ1 ys H) i x τ ys _ (y xs q) p fun τ1 zs H q => ⟨xs.length - (i + 1), by omega, rfl, hlt, q⟩
  · have e : i = xs.length := by omega
    subst e
    exact .inl ⟨⟨xs, q, Nat.le_refl _⟩, fun D hD => hd τ ys H2 p D _ (.mk' hD)⟩
end
end L2
set_option Elab.async false
set_option linter.all false
set_option maxRecDepth 100000
set_option maxHeartbeats 4000000
namespace L2
open PySem PySem.Spec PyProof.Rows
/-- a judgement as one thing (a term of rules is elaborated once, not twice a level) -/
structure W (p : Prop) : Prop where
  h : p
section
variable {X : Cx}
theorem w_pss_nil  : W (PSs X [] tNext) := ⟨pss_nil ⟩
theorem w_pss_cons {st : Stmt} {rest : List Stmt} {t : TS} {u : TS} (h1 : W (PS X st t)) (h2 : W (PSs X rest u)) : W (PSs X (st :: rest) (tSeq t u)) := ⟨pss_cons (h1 := h1.h) (h2 := h2.h)⟩
theorem w_pss_one {st : Stmt} {t : TS} (h1 : W (PS X st t)) : W (PSs X [st] t) := ⟨pss_one (h1 := h1.h)⟩
theorem w_ps_ret {e : Expr} {te : TE} {pos : Pos} (he : W (PE X e te)) : W (PS X (.Return (some e) pos) (tRet te)) := ⟨ps_ret (he := he.h)⟩
theorem w_ps_expr {e : Expr} {te : TE} {pos : Pos} (he : W (PE X e te)) (hs : swapsWith e none pos.line X.env = pure false := by rfl) : W (PS X (.Expr e pos) (tDrop te)) := ⟨ps_expr (he := he.h) (hs := hs)⟩
theorem w_ps_set {pos : Pos} {i : Nat} {x : Str} {e : Expr} {te : TE} {pos' : Pos} (hN : X.N.Nodup) (hi : X.N[i]? = some x) (hx : Loc X.env.scope x) (he : W (PE X e te)) (hs : swapsWith e (some (.Name x pos')) pos.line X.env = pure false := by rfl) (hf : X.fn x = true ∨ X.env.scope.names.lookup x = some .local := by first | exact .inl rfl | exact .inr rfl | assumption) : W (PS X (.Assign [.Name x pos'] e pos) (tAsg te (gName i))) := ⟨ps_set (hN := hN) (hi := hi) (hx := hx) (he := he.h) (hs := hs) (hf := hf)⟩
theorem w_ps_fldU {C : Addr} {o value : Expr} {ta tv : TE} {f : Str} {pos pos' : Pos} (c : Cls X.K C) (n : NoAttr X.K C f) (ha : W (PE X o ta)) (hv : W (PE X value tv)) (hs : swapsWith value (some (.Attribute o f pos')) pos.line X.env = pure false := by rfl) : W (PS X (.Assign [.Attribute o f pos'] value pos) (uSetF C ta tv f)) := ⟨ps_fldU (c := c) (n := n) (ha := ha.h) (hv := hv.h) (hs := hs)⟩
theorem w_ps_asg {pos : Pos} {tg e : Expr} {te : TE} {g : TG} (he : W (PE X e te)) (hg : W (PG X tg g)) (hs : swapsWithSole [tg] e pos.line X.env = pure false := by rfl) (hw : swappedStores [tg] e X.env = pure none := by rfl) (h1 : (assignEach [tg] X.env).map (·.2) = [assign tg X.env] := by rfl) : W (PS X (.Assign [tg] e pos) (tAsg te g)) := ⟨ps_asg (he := he.h) (hg := hg.h) (hs := hs) (hw := hw) (h1 := h1)⟩
theorem w_ps_if {t : TS} {u : TS} {pos : Pos} {c : Expr} {a b : List Stmt} {tc : TT} (hc : W (PT X c tc)) (ha : W (PSs X a t)) (hb : W (PSs X b u)) : W (PS X (.If c a b pos) (tIfS tc t u)) := ⟨ps_if (hc := hc.h) (ha := ha.h) (hb := hb.h)⟩
theorem w_ps_for {tg : Expr} {c : Bool} {iter : Expr} {body : List Stmt} {wi : TI} {g : TG} {tb : TS} {pos : Pos} (hp : PassesOwn (model X.prog X.w) X.A X.env X.xe) (hc : c = true → X.calm = true) (hi : W (PIc c X tg iter wi)) (hg : W (PG X tg g)) (hb : W (PSs X body tb)) (hs : ∀ x, foldedSetIterable iter X.env x = pure x := by intro _; rfl) : W (PS X (.For tg iter body [] pos) (tFor wi g tb)) := ⟨ps_for (hp := hp) (hc := hc) (hi := hi.h) (hg := hg.h) (hb := hb.h) (hs := hs)⟩
theorem w_pi_range1p {tg a : Expr} {ta : TA} {p pos : Pos} (hg : Gl X "range") (hm : X.mg "range" = none) (ha : W (PA X [a] ta)) (hp : plainE a = true := by rfl) : W (PIc true X tg (.Call (.Name "range" p) [a] [] pos) (iRng1 ta)) := ⟨pi_range1p (hg := hg) (hm := hm) (ha := ha.h) (hp := hp)⟩
theorem w_pi_list {tg : Expr} {l : Expr} {tl : TE} (hl : W (PE X l tl)) : W (PI X tg l (iList X.K tl)) := ⟨pi_list (hl := hl.h)⟩
theorem w_pa_nil  : W (PA X [] tNil) := ⟨pa_nil ⟩
theorem w_pa_p {e : Expr} {es : List Expr} {te : TE} {t : TA} (ha : W (PE X e te)) (hr : W (PA X es t)) (hp : plainE e = true := by rfl) : W (PA X (e :: es) (tCons te t)) := ⟨pa_p (ha := ha.h) (hr := hr.h) (hp := hp)⟩
theorem w_pt_not {a : Expr} {pos : Pos} {tA : TT} (ha : W (PT X a tA)) : W (PT X (.UnaryOp .Not a pos) (tNot tA)) := ⟨pt_not (ha := ha.h)⟩
theorem w_pw_and1 {a : Expr} {pos : Pos} {tA : TT} (ha : W (PT X a tA)) : W (PW X (.BoolOp .And [a] pos) tA) := ⟨pw_and1 (ha := ha.h)⟩
theorem w_pw_or1 {a : Expr} {pos : Pos} {tA : TT} (ha : W (PT X a tA)) : W (PW X (.BoolOp .Or [a] pos) tA) := ⟨pw_or1 (ha := ha.h)⟩
theorem w_pw_and {a : Expr} {b : Expr} {pos : Pos} {tA : TT} {tB' : TT} {rest : List Expr} (ha : W (PT X a tA)) (hb : W (PW X (.BoolOp .And (b :: rest) pos) tB')) : W (PW X (.BoolOp .And (a :: b :: rest) pos) (tAnd tA tB')) := ⟨pw_and (ha := ha.h) (hb := hb.h)⟩
theorem w_pw_or {a : Expr} {b : Expr} {pos : Pos} {tA : TT} {tB' : TT} {rest : List Expr} (ha : W (PT X a tA)) (hb : W (PW X (.BoolOp .Or (b :: rest) pos) tB')) : W (PW X (.BoolOp .Or (a :: b :: rest) pos) (tOr tA tB')) := ⟨pw_or (ha := ha.h) (hb := hb.h)⟩
theorem w_pt_cmpR {a : Expr} {b : Expr} {ta : TE} {tb : TE} {pos : Pos} {op : CmpOp} {r : R2} (ho : OpR X (compareOp op) r) (ha : W (PE X a ta)) (hb : W (PE X b tb)) (hm : behindInMarks op b = false) : W (PT X (.Compare a [op] [b] pos) (tTest (tOp r ta tb))) := ⟨pt_cmpR (ho := ho) (ha := ha.h) (hb := hb.h) (hm := hm)⟩
theorem w_pt_tru {a : Expr} {ta : TE} (ha : W (PE X a ta)) (he : ∀ whole, isTrue a X.env whole = (do let v ← whole; standAt a.pos; holding [v] (truthy v)) := by intro _; rfl) : W (PT X a (tTru X.K ta)) := ⟨pt_tru (ha := ha.h) (he := he)⟩
theorem w_pv (i : Nat) {x : Str} {pos : Pos} (hN : X.N[i]? = some x := by rfl) (hv : Vis X.env.scope x := by first | exact Or.inl rfl | exact Or.inr (Or.inl rfl) | exact Or.inr (Or.inr rfl)) (hd : (x == ("__debug__" : Str)) = false := by decide) (hcd : (x == ("__classdict__" : Str)) = false := by decide) : W (PE X (.Name x pos) (tVar i)) := ⟨pv (i := i) (hN := hN) (hv := hv) (hd := hd) (hcd := hcd)⟩
theorem w_pe_gv {x : Str} {v : V} {pos : Pos} (hg : Gl X x) (hm : ∃ u, X.mg x = some u ∧ RelV v u) (hd : (x == ("__debug__" : Str)) = false := by decide) : W (PE X (.Name x pos) (tC v)) := ⟨pe_gv (hg := hg) (hm := hm) (hd := hd)⟩
theorem w_pe_bltn {x : Str} {v : V} {u : Value} {pos : Pos} (hg : Gl X x) (hm : X.mg x = none) (hv : bootBuiltins x = some u) (r : RelV v u) (hn : x ≠ "__name__" := by decide) (hd : (x == ("__debug__" : Str)) = false := by decide) : W (PE X (.Name x pos) (tC v)) := ⟨pe_bltn (hg := hg) (hm := hm) (hv := hv) (r := r) (hn := hn) (hd := hd)⟩
theorem w_pe_non {j pos} : W (PE X (.Constant .none j pos) (tC .non)) := ⟨pe_non ⟩
theorem w_pe_bl {b j pos} : W (PE X (.Constant (.bool b) j pos) (tC (.bl b))) := ⟨pe_bl ⟩
theorem w_pe_int {i j pos} : W (PE X (.Constant (.int i) j pos) (tC (.int i))) := ⟨pe_int ⟩
theorem w_pe_str {x j pos} : W (PE X (.Constant (.str x) j pos) (tC (.str x))) := ⟨pe_str ⟩
theorem w_pe_op {a : Expr} {b : Expr} {ta : TE} {tb : TE} {pos : Pos} {op : Operator} {r : R2} (ho : OpR X (binaryOp op) r) (ha : W (PE X a ta)) (hb : W (PE X b tb)) : W (PE X (.BinOp a op b pos) (tOp r ta tb)) := ⟨pe_op (ho := ho) (ha := ha.h) (hb := hb.h)⟩
theorem w_pe_not {a : Expr} {ta : TE} {pos : Pos} (ha : W (PE X a ta)) : W (PE X (.UnaryOp .Not a pos) (tNotV ta)) := ⟨pe_not (ha := ha.h)⟩
theorem w_pe_one {a : Expr} {pos : Pos} {op} {t : TE} (h : W (PE X a t)) : W (PE X (.BoolOp op [a] pos) t) := ⟨pe_one (h := h.h)⟩
theorem w_pe_and {a : Expr} {b : Expr} {ta : TE} {tb : TE} {pos : Pos} {rest : List Expr} (ha : W (PE X a ta)) (hb : W (PE X (.BoolOp .And (b :: rest) pos) tb)) : W (PE X (.BoolOp .And (a :: b :: rest) pos) (tAndV ta tb)) := ⟨pe_and (ha := ha.h) (hb := hb.h)⟩
theorem w_pe_or {a : Expr} {b : Expr} {ta : TE} {tb : TE} {pos : Pos} {rest : List Expr} (ha : W (PE X a ta)) (hb : W (PE X (.BoolOp .Or (b :: rest) pos) tb)) : W (PE X (.BoolOp .Or (a :: b :: rest) pos) (tOrV ta tb)) := ⟨pe_or (ha := ha.h) (hb := hb.h)⟩
theorem w_pe_cmpR {a : Expr} {b : Expr} {ta : TE} {tb : TE} {pos : Pos} {op : CmpOp} {r : R2} (ho : OpR X (compareOp op) r) (ha : W (PE X a ta)) (hb : W (PE X b tb)) (hm : behindInMarks op b = false) : W (PE X (.Compare a [op] [b] pos) (tOp r ta tb)) := ⟨pe_cmpR (ho := ho) (ha := ha.h) (hb := hb.h) (hm := hm)⟩
theorem w_pe_chain {a : Expr} {b : Expr} {c : Expr} {ta : TE} {tb : TE} {tc : TE} {pos : Pos} {op op' : CmpOp} {r r' : R2} (ho : OpR X (compareOp op) r) (ho' : OpR X (compareOp op') r') (ha : W (PE X a ta)) (hb : W (PE X b tb)) (hc : W (PE X c tc)) (hm : lastMarks [op, op'] [b, c] = false := by with_unfolding_all rfl) : W (PE X (.Compare a [op, op'] [b, c] pos) (tChain r r' ta tb tc)) := ⟨pe_chain (ho := ho) (ho' := ho') (ha := ha.h) (hb := hb.h) (hc := hc.h) (hm := hm)⟩
theorem w_pe_ifExp {a : Expr} {b : Expr} {ta : TE} {tb : TE} {pos : Pos} {tA : TT} {c : Expr} (hc : W (PT X c tA)) (ha : W (PE X a ta)) (hb : W (PE X b tb)) : W (PE X (.IfExp c a b pos) (tIf tA ta tb)) := ⟨pe_ifExp (hc := hc.h) (ha := ha.h) (hb := hb.h)⟩
theorem w_pe_lstA {es : List Expr} {t : TA} {pos : Pos} (h : W (PA X es t)) : W (PE X (.List es pos) (tLstA t)) := ⟨pe_lstA (h := h.h)⟩
theorem w_pe_tupA {es : List Expr} {t : TA} {x1} {pos : Pos} (h : W (PA X es t)) : W (PE X (.Tuple es x1 pos) (tTupA t)) := ⟨pe_tupA (h := h.h)⟩
theorem w_pe_dnewA {pos : Pos} : W (PE X (.Dict [] [] pos) tDNewA) := ⟨pe_dnewA ⟩
theorem w_pe_fldU {C : Addr} {e : Expr} {ta : TE} {f : Str} {pos : Pos} (c : Cls X.K C) (n : NoAttr X.K C f) (he : W (PE X e ta)) (hb : attributeBase e f X.env (eval e X.env) = eval e X.env := by rfl) : W (PE X (.Attribute e f pos) (uFld C ta f)) := ⟨pe_fldU (c := c) (n := n) (he := he.h) (hb := hb)⟩
theorem w_pe_ix {a : Expr} {b : Expr} {ta : TE} {tb : TE} {pos : Pos} {r : R2} (hr : IxR X r) (ha : W (PE X a ta)) (hb : W (PE X b tb)) (hs : PlainIx b) : W (PE X (.Subscript a b pos) (tOp r ta tb)) := ⟨pe_ix (hr := hr) (ha := ha.h) (hb := hb.h) (hs := hs)⟩
theorem w_pe_slice {e : Expr} {te : TE} {lo : Option Expr} {hi : Option Expr} {tl : TO} {th : TO} {pos : Pos} {p2 : Pos} {r : V → Option Int → Option Int → Hp → VK → Prop} (hr : SlR X r) (he : W (PE X e te)) (hl : W (PO X lo tl)) (hu : W (PO X hi th)) : W (PE X (.Subscript e (.Slice lo hi none p2) pos) (tSl r te tl th)) := ⟨pe_slice (hr := hr) (he := he.h) (hl := hl.h) (hu := hu.h)⟩
theorem w_pe_g {cm : Bool} {k : Nat} {j : Nat} {x : Str} {ps : List Str} {sp : Sp} {e : Expr} {es : List Expr} {t : TA} {p : Pos} {pos : Pos} (G : GF X.prog X.w X.K X.mg X.base cm j x ps sp) (hr : Room cm k X.A) (hg : Gl X x) (ha : W (PA X (e :: es) t)) (hj : j ≤ k := by decide) (hdb : (x == ("__debug__" : Str)) = false := by decide) (hp : plainE e = true := by rfl) (hps : plainEs es = true := by rfl) : W (PE X (.Call (.Name x p) (e :: es) [] pos) (tCall sp [] E0 t)) := ⟨pe_g (G := G) (hr := hr) (hg := hg) (ha := ha.h) (hj := hj) (hdb := hdb) (hp := hp) (hps := hps)⟩
theorem w_pe_c {cm : Bool} {k : Nat} {j : Nat} {x : Str} {C : Addr} {ps : List Str} {sp : Sp} {e : Expr} {es : List Expr} {t : TA} {p : Pos} {pos : Pos} (G : GC X.prog X.w X.K X.mg X.base cm j x C ps sp) (hr : Room cm k X.A) (hg : Gl X x) (ha : W (PA X (e :: es) t)) (hj : j + 1 ≤ k := by decide) (hdb : (x == ("__debug__" : Str)) = false := by decide) (hp : plainE e = true := by rfl) (hps : plainEs es = true := by rfl) : W (PE X (.Call (.Name x p) (e :: es) [] pos) (tMakeA C sp t)) := ⟨pe_c (G := G) (hr := hr) (hg := hg) (ha := ha.h) (hj := hj) (hdb := hdb) (hp := hp) (hps := hps)⟩
theorem w_pe_callBp {id : String} {r : List V → Hp → VK → Prop} {x : Str} {e : Expr} {es : List Expr} {t : TA} {p pos : Pos} (hc : CallR X (.builtin id) r) (hg : Gl X x) (hm : X.mg x = none) (hv : bootBuiltins x = some (.builtin id)) (ha : W (PA X (e :: es) t)) (hp : plainE e = true := by rfl) (hps : plainEs es = true := by rfl) (hn : x ≠ "__name__" := by decide) (hdb : (x == ("__debug__" : Str)) = false := by decide) : W (PE X (.Call (.Name x p) (e :: es) [] pos) (tCB r t)) := ⟨pe_callBp (hc := hc) (hg := hg) (hm := hm) (hv := hv) (ha := ha.h) (hp := hp) (hps := hps) (hn := hn) (hdb := hdb)⟩
theorem w_pe_callTyp {T : String} {r : List V → Hp → VK → Prop} {x : Str} {e : Expr} {es : List Expr} {t : TA} {p pos : Pos} (hc : CallR X (.type T) r) (hg : Gl X x) (hm : X.mg x = none) (hv : bootBuiltins x = some (.type T)) (ha : W (PA X (e :: es) t)) (hp : plainE e = true := by rfl) (hps : plainEs es = true := by rfl) (hn : x ≠ "__name__" := by decide) (hdb : (x == ("__debug__" : Str)) = false := by decide) : W (PE X (.Call (.Name x p) (e :: es) [] pos) (tCB r t)) := ⟨pe_callTyp (hc := hc) (hg := hg) (hm := hm) (hv := hv) (ha := ha.h) (hp := hp) (hps := hps) (hn := hn) (hdb := hdb)⟩
theorem w_pe_m {cm : Bool} {k : Nat} {j : Nat} {m : Str} {C : Addr} {ps : List Str} {sp : Sp} {e : Expr} {o : Expr} {es : List Expr} {t : TA} {ta : TE} {pos : Pos} {apos : Pos} {pl : Sem Bool} (he : W (PE X o ta)) (c : Cls X.K C) (G : GM X.prog X.w X.K X.mg X.base cm j C m ps sp) (hr : Room cm k X.A) (ha : W (PA X (e :: es) t)) (hj : j ≤ k := by decide) (hp : plainE e = true := by rfl) (hps : plainEs es = true := by rfl) (ht : eval (.Call (.Attribute o m apos) (e :: es) [] pos) X.env = (do
      let ov ← eval o X.env
      standAt apos.atName
      let (f, first) ← holding [ov] (getMethod ov m pl)
      callWith pos f first (backTo pos (starEach (e :: es) X.env)) (backToKw pos (keywordEach [] X.env))) := by rfl) : W (PE X (.Call (.Attribute o m apos) (e :: es) [] pos) (tMeth C m sp [] E0 ta t)) := ⟨pe_m (he := he.h) (c := c) (G := G) (hr := hr) (ha := ha.h) (hj := hj) (hp := hp) (hps := hps) (ht := ht)⟩
theorem w_pe_m0 {cm : Bool} {k : Nat} {j : Nat} {m : Str} {C : Addr} {ps : List Str} {sp : Sp} {o : Expr} {ta : TE} {pos : Pos} {apos : Pos} {pl : Sem Bool} (he : W (PE X o ta)) (c : Cls X.K C) (G : GM X.prog X.w X.K X.mg X.base cm j C m ps sp) (hr : Room cm k X.A) (hj : j ≤ k := by decide) (ht : eval (.Call (.Attribute o m apos) [] [] pos) X.env = (do
      let ov ← eval o X.env
      standAt apos.atName
      let (f, first) ← holding [ov] (getMethod ov m pl)
      callWith pos f first (backTo pos (starEach [] X.env)) (backToKw pos (keywordEach [] X.env))) := by rfl) : W (PE X (.Call (.Attribute o m apos) [] [] pos) (tMeth C m sp [] E0 ta tNil)) := ⟨pe_m0 (he := he.h) (c := c) (G := G) (hr := hr) (hj := hj) (ht := ht)⟩
theorem w_pe_append {o e : Expr} {to te : TE} {apos cpos : Pos} (ho : W (PE X o to)) (he : W (PE X e te)) (hbase : attributeBase o "append" X.env (eval o X.env) = eval o X.env := by rfl) (hline : (apos.endLine == cpos.line) = true := by rfl) (hp : plainE e = true := by rfl) : W (PE X (.Call (.Attribute o "append" apos) [e] [] cpos) (uApp to te)) := ⟨pe_append (ho := ho.h) (he := he.h) (hbase := hbase) (hline := hline) (hp := hp)⟩
theorem w_pe_lc {c : Bool} {X : Cx} {elt tg iter : Expr} {ifs : List Expr} {sc : Scope} {pos : Pos} {N' : List Str} {ix : List (Option Nat)} {wi : TI} {g : TG} {tt : TT} {te : TE} (hc : c = true → X.calm = true) (L : LcOk X sc N' ix) (hi : W (PIc c X tg iter wi)) (hg : ∀ pins C fp s H, W (PG (cxLC X sc N' pins C fp s H) tg g)) (ht : ∀ pins C fp s H, W (PTs (cxLC X sc N' pins C fp s H) ifs tt)) (he : ∀ pins C fp s H, W (PE (cxLC X sc N' pins C fp s H) elt te)) (hs : ∀ x, foldedSetIterable iter X.env x = pure x := by intro _; rfl) : W (PE X (.ListComp elt [⟨tg, iter, ifs, 0⟩] sc pos) (tLC ix wi g tt te)) := ⟨pe_lc (hc := hc) (L := L) (hi := hi.h) (hg := fun z0 z1 z2 z3 z4 => (hg z0 z1 z2 z3 z4).h) (ht := fun z0 z1 z2 z3 z4 => (ht z0 z1 z2 z3 z4).h) (he := fun z0 z1 z2 z3 z4 => (he z0 z1 z2 z3 z4).h) (hs := hs)⟩
theorem w_pg_name {pos : Pos} {i : Nat} {x : Str} (hN : X.N.Nodup) (hi : X.N[i]? = some x) (hx : Loc X.env.scope x) (hf : X.fn x = true ∨ X.env.scope.names.lookup x = some .local := by first | exact .inl rfl | exact .inr rfl | assumption) : W (PG X (.Name x pos) (gName i)) := ⟨pg_name (hN := hN) (hi := hi) (hx := hx) (hf := hf)⟩
theorem w_pg_tupA {X : Cx} {pos : Pos} {es : List Expr} {k : Nat} {t : TGs} {n : Nat} (h : W (PGs X es t)) (hl : (assignEach es X.env).length = n := by rfl) (hst : (assignEach es X.env).findIdx? (·.1) = none := by rfl) : W (PG X (.Tuple es k pos) (gTup X.K n t)) := ⟨pg_tupA (h := h.h) (hl := hl) (hst := hst)⟩
theorem w_pgs_nil  : W (PGs X [] gNil) := ⟨pgs_nil ⟩
theorem w_pgs_cons {e : Expr} {es : List Expr} {t : TG} {u : TGs} (h1 : W (PG X e t)) (h2 : W (PGs X es u)) (hs : (assignEach (e :: es) X.env).map (·.2) = assign e X.env :: (assignEach es X.env).map (·.2) := by rfl) : W (PGs X (e :: es) (gCons t u)) := ⟨pgs_cons (h1 := h1.h) (h2 := h2.h) (hs := hs)⟩
theorem w_pts_nil {X : Cx} : W (PTs X [] tAll) := ⟨pts_nil ⟩
theorem w_pe_b_join {o e : Expr} {to te : TE} {apos cpos : Pos} (ho : W (PE X o to)) (he : W (PE X e te)) (hbase : attributeBase o "join" X.env (eval o X.env) = eval o X.env := by rfl) (hline : (apos.endLine == cpos.line) = true := by rfl) (hp : plainE e = true := by rfl) : W (PE X (.Call (.Attribute o "join" apos) [e] [] cpos) (uJoinE to te)) := ⟨pe_b_join (ho := ho.h) (he := he.h) (hbase := hbase) (hline := hline) (hp := hp)⟩
theorem w_pi_enumL {elts : List Expr} {kk : Nat} {tp p pos : Pos} {a : Expr} {ta : TA} (hg : Gl X "enumerate") (hm : X.mg "enumerate" = none) (ha : W (PA X [a] ta)) (hp : plainE a = true := by rfl) : W (PIc true X (.Tuple elts kk tp) (.Call (.Name "enumerate" p) [a] [] pos) (iEnum X.K ta)) := ⟨pi_enumL (hg := hg) (hm := hm) (ha := ha.h) (hp := hp)⟩
theorem w_ps_augFU {C : Addr} {o value : Expr} {f : Str} {tpos pos : Pos} {ta tv : TE} {op : Operator} {rd : V → V → Hp → VK → Prop} (c : Cls X.K C) (n : NoAttr X.K C f) (ha : W (PE X o ta)) (hv : W (PE X value tv)) (hop : InOp X op rd) : W (PS X (.AugAssign (.Attribute o f tpos) op value pos) (uAugF C ta tv rd f)) := ⟨ps_augFU (c := c) (n := n) (ha := ha.h) (hv := hv.h) (hop := hop)⟩
theorem w_pg_sub {pos : Pos} {o i : Expr} {to ti : TE} {t : TSet} (ho : W (PE X o to)) (hi : W (PE X i ti)) (hs : PSet X t) (ha : ∀ v, assign (.Subscript o i pos) X.env v = (do
      let ov ← holding [v] (eval o X.env)
      let iv ← holding [v, ov] (eval i X.env)
      standAt pos
      holding [v, ov, iv] (setItem ov iv v)
      release [v, ov, iv] []) := by intro _; rfl) : W (PG X (.Subscript o i pos) (gSub to ti t)) := ⟨pg_sub (ho := ho.h) (hi := hi.h) (hs := hs) (ha := ha)⟩
theorem w_po_none  : W (PO X none tNoPart) := ⟨po_none ⟩
theorem w_po_some {e : Expr} {te : TE} (h : W (PE X e te)) : W (PO X (some e) (tPart te)) := ⟨po_some (h := h.h)⟩
theorem w_pt {e : Expr} {t : TT} (h : W (PW X e t)) : W (PT X e t) := ⟨PW.pt h.h⟩
end
end L2
set_option Elab.async false
set_option linter.all false
set_option maxRecDepth 100000
set_option maxHeartbeats 4000000
namespace L2
open PySem PySem.Spec PyProof.Rows
/-! ### for c in text -/
def asc (z : Str) : Bool := z.cps.all (· < 128)
def Its (z : Str) : It := ⟨fun i _ => i < z.cps.size, fun i H x H' => H' = H ∧ ∃ c, z.cps[i]? = some c ∧ x = .str ⟨#[c]⟩, fun i _ => z.cps.size ≤ i⟩
theorem turn_str {P : Program} {w : World} {K : PySem.W.Frag} {tg : Expr} (z : Str) (it : Addr) : Turn true P w K tg (Its z) [it] it (fun i h => ∃ t, h.IsStrIter it "str_ascii_iterator" z t i) where
  mem := by simp
  obj := fun i h st b hb => by
    have e : b = it := by simpa using hb
    subst e
    obtain ⟨t, o, e, c, d⟩ := st
    exact ⟨o, e, fun v z => by rw [d] at z; cases z⟩
  keep := fun i h h' st k => by
    obtain ⟨t, o, e, r⟩ := st
    exact ⟨t, o, k it (by simp) o e, r⟩
  item := by
    intro X hP hw hK hc i pins s σ H E I hf st hg
    subst hP hw hK
    obtain ⟨t, st⟩ := st
    obtain ⟨f0, f1, f2, f3, f4, f5⟩ := hf it (by simp)
    have hi : i < z.cps.size := hg
    refine wpAny_pyNext_ascii_item st (c := z.cps[i]) (by simp [hi]) fun h' st' sb => ?_
    have I1 : Inv X pins σ H { s with heap := h', toks := s.toks + 1 } := I.turned (fun b o hb e => (sb.2 b hb).trans e) f0 f1 f3 f4 f5
    obtain ⟨o, e, c, d⟩ := id st'
    exact ⟨_, rfl, go_of (s := { s with heap := h', toks := s.toks + 1 }) e c d (by decide) ⟨.str ⟨#[z.cps[i]]⟩, H, I1, ⟨_, rfl⟩, ⟨rfl, _, by simp [hi], rfl⟩, ⟨t, st'⟩, fun b hb => (hf b hb).1⟩⟩
  done := by
    intro X hP hw hK hc i pins s σ H E I hf st hg
    subst hP hw hK
    obtain ⟨t, st⟩ := st
    obtain ⟨f0, f1, f2, f3, f4, f5⟩ := hf it (by simp)
    have hi : z.cps.size ≤ i := hg
    exact wpAny_pyNext_ascii_end (I.ok.hd (hc rfl)) st (by simp [hi]) fun h' eb => ⟨rfl, I.turned (t' := s.toks) (fun b o hb e => eb b o hb e) f0 f1 f3 f4 f5⟩
  self := fun _ _ _ _ _ st h => by
    obtain ⟨t, st⟩ := st
    exact wpAny_pyIter_striter_ascii st h
section
variable {X : Cx} {tg : Expr}
def iStr (tl : TE) : TI := fun σ H R => tl σ H fun x H1 => uS x fun z => asc z = true ∧ R (Its z) H1
theorem iStr_eq {tl : TE} {σ : St} {H : Hp} {R : It → Hp → Prop} : iStr tl σ H R = tl σ H fun x H1 => uS x fun z => asc z = true ∧ R (Its z) H1 := rfl
theorem pi_str {l : Expr} {tl : TE} (hl : PE X l tl) : PIc true X tg l (iStr tl) := by
  intro pins s σ H R I h
  refine thn (hl pins s σ H _ I h) fun v s1 ⟨x, H1, I1, r1, q1⟩ => ?_
  obtain ⟨z, e, ha, q⟩ := q1
  subst e
  obtain ⟨t, rfl⟩ := r1
  refine wpAny_pyIter_ascii ha ?_
  refine ⟨s1.heap.objs.size, [s1.heap.objs.size], _, _, H1, rfl, I1.kept (t' := s1.toks) fun b o e => Heap.get?_push_of_some _ e, turn_str z _, ⟨t, _, Heap.get?_push_size _ rfl, rfl, rfl⟩, fun b hb => ?_, q⟩
  have e : b = s1.heap.objs.size := by simpa using hb
  subst e
  exact I1.fpOk (Nat.le_refl _) (I1.hok.fresh (Nat.le_refl _))
end
/-! ### for i, c in enumerate(text), enumerate(text, start=1) -/
theorem Draws.later {prog : Program} {w : World} {A : Around} {it : Addr} {fp : List Addr} {n k : Nat} {P : Nat → Value → Prop} {St : Nat → Heap → Prop} (D : Draws prog w A it fp n P St) :
    Draws prog w A it fp (n + k) (fun i v => P (i - k) v) (fun i h => k ≤ i ∧ St (i - k) h) where
  live := fun _ _ st => D.live _ _ st.2
  frame := fun _ _ _ st hk => ⟨st.1, D.frame _ _ _ st.2 hk⟩
  item := fun i s Q E hi st hQ => D.item (i - k) s Q E (by have := st.1; omega) st.2 fun x h' tk p st' sb => hQ x h' tk p ⟨by have := st.1; omega, by
    have e : i + 1 - k = i - k + 1 := by have := st.1; omega
    rw [e]; exact st'⟩ sb
  done := fun s Q E st hE => D.done s Q E (by
    have e : n + k - k = n := by omega
    have := st.2; rwa [e] at this) hE
def IteS (z : Str) (k : Nat) : It :=
  ⟨fun i _ => i < z.cps.size, fun i H v H' => ∃ T c, H T = none ∧ v = .ref T ∧ z.cps[i]? = some c ∧ H' = upd H T (.tup [.int ((i : Nat) + k : Nat), .str ⟨#[c]⟩]), fun i _ => i = z.cps.size⟩
end L2
set_option Elab.async false
set_option linter.all false
set_option maxRecDepth 100000
set_option maxHeartbeats 4000000
namespace L2
open PySem PySem.Spec PyProof.Rows
section
variable {prog : Program} {w : World} {A : Around} {E : Value → Shared → Prop} {s : Shared}
end
end L2
set_option Elab.async false
set_option linter.all false
set_option maxRecDepth 100000
set_option maxHeartbeats 4000000
namespace L2
open PySem PySem.Spec PyProof.Rows
section
variable {prog : Program} {w : World} {A : Around} {E : Value → Shared → Prop} {s : Shared}
end
section
variable {X : Cx}
def iEnumS (k : Nat) (ta : TE) : TI := fun σ H R => ta σ H fun x H1 => uS x fun z => asc z = true ∧ R (IteS z k) H1
theorem iEnumS_eq {k : Nat} {ta : TE} {σ : St} {H : Hp} {R : It → Hp → Prop} : iEnumS k ta σ H R = ta σ H fun x H1 => uS x fun z => asc z = true ∧ R (IteS z k) H1 := rfl
end
section
variable {K : PySem.W.Frag} {g : TG} {tb : TS} {D : Ends} {σ : St} {H : Hp} {tt : TT} {te : TE} {Q : VK}
theorem ForJ.enumS {z : Str} {k : Nat} (Pv : Nat → St → Hp → Prop) (h0 : Pv 0 σ H)
    (hs : ∀ i c p σ H, z.cps[i]? = some c → Pv i σ H → H p = none → g (.ref p) σ (upd H p (.tup [.int ((i + k : Nat) : Int), .str ⟨#[c]⟩])) fun σ2 H2 => tb { D with nx := Pv (i + 1), ct := Pv (i + 1), bk := D.nx } σ2 H2) (hd : ∀ σ H, Pv z.cps.size σ H → D.nx σ H) : ForJ (IteS z k) g tb D σ H := by
  refine ⟨fun i m σ H => m = z.cps.size - i ∧ i ≤ z.cps.size ∧ Pv i σ H, ⟨z.cps.size, by simp, Nat.zero_le _, h0⟩, ?_⟩
  rintro i m σ H ⟨rfl, hi, p⟩
  by_cases hlt : i < z.cps.size
  · refine .inr ⟨hlt, Pv (i + 1), fun σ' H' p' => ⟨z.cps.size - (i + 1), by omega, rfl, hlt, p'⟩, fun x H' y => ?_⟩
    obtain ⟨T, c, hT, rfl, hc, rfl⟩ := y
    exact hs i c T σ _ hc p hT
  · have e : i = z.cps.size := by omega
    subst e
    exact .inl ⟨rfl, hd σ H p⟩
/-- a comprehension over a text -/
theorem CompJ.str {z : Str} {τ : St} (Pv : Nat → St → List V → Hp → Prop) (hz : ∀ i τ ys H, Pv i τ ys H → ys.length < sizeLine) (h0 : Pv 0 τ [] H)
    (hs : ∀ (N : St → List V → Hp → Prop) i c τ ys H, z.cps[i]? = some c → Pv i τ ys H → (∀ τ ys H, Pv (i + 1) τ ys H → N τ ys H) → g (.str ⟨#[c]⟩) τ H fun τ1 H4 => tt τ1 H4 fun ok H5 => CompN N ys τ1 te ok H5) (hd : ∀ τ ys H, Pv z.cps.size τ ys H → ∀ D H', New H D (.lst ys) H' → Q (.ref D) H') : CompJ (Its z) g tt te τ H Q := by
  refine ⟨fun i m τ ys H => m = z.cps.size - i ∧ i ≤ z.cps.size ∧ Pv i τ ys H, ⟨z.cps.size, by simp, Nat.zero_le _, h0⟩, ?_⟩
  rintro i m τ ys H2 ⟨rfl, hi, p⟩
  refine ⟨hz i τ ys H2 p, ?_⟩
  by_cases hlt : i < z.cps.size
  · refine .inr ⟨hlt, fun x H' y => ?_⟩
    obtain ⟨e, c, hc, rfl⟩ := y
    subst e
    exact hs (fun τ1 ys H => ∃ m', m' < z.cps.size - i ∧ m' = z.cps.size - (i + 1) ∧ i + 1 ≤ z.cps.size ∧ Pv (i + 1) τ1 ys H) i c τ ys _ hc p fun τ1 zs H q => ⟨z.cps.size - (i + 1), by omega, rfl, hlt, q⟩
  · have e : i = z.cps.size := by omega
    subst e
    exact .inl ⟨Nat.le_refl _, fun D hD => hd τ ys H2 p D _ (.mk' hD)⟩
end
end L2
set_option Elab.async false
set_option linter.all false
set_option maxRecDepth 100000
set_option maxHeartbeats 4000000
namespace L2
open PySem PySem.Spec PyProof.Rows
section
variable {X : Cx}
/-! ### all(list of bools) -/
def uAll : List V → Hp → VK → Prop := fun xs H Q => uR1 xs fun p => ∃ bs : List Bool, H p = some (.lst (bs.map V.bl)) ∧ Q (.bl (bs.all id)) H
theorem vals_bl {bs : List Bool} : ∀ {us : List Value}, Vals (bs.map V.bl) us → us = bs.map Value.bool := by
  induction bs with
  | nil => intro us r; rw [List.map_nil] at r; cases r; rfl
  | cons b bs ih =>
    intro us r
    rw [List.map_cons] at r
    cases r with
    | cons r1 r2 => rw [show _ = Value.bool b from r1, ih r2]; rfl
theorem call_allU (hc : X.calm = true) : CallR X (.builtin "all") uAll := by
  intro pins s σ H xs us Q I r h
  obtain ⟨p, rfl, bs, hp, q⟩ := h
  cases r with
  | cons r1 rr =>
    cases rr
    cases (show _ = Value.ref p from r1)
    obtain ⟨its, rv, pl, _⟩ := I.list (SqL.of (K := X.K) hp)
    have e := vals_bl rv
    subst e
    have hne : p ≠ s.heap.objs.size := by obtain ⟨o, e, _⟩ := pl.isList; exact Nat.ne_of_lt (Heap.lt_size e)
    refine call_all_walk (wpAny_pyIter_list pl.isList ?_)
    have hl : ∀ k : Nat, k = bs.length → (List.range k).all (fun i => bs.getD i true) = bs.all id := by
      intro k e
      subst e
      rw [Bool.eq_iff_iff, List.all_eq_true, List.all_eq_true]
      constructor
      · intro h x hx
        obtain ⟨i, hi, rfl⟩ := List.getElem_of_mem hx
        have := h i (List.mem_range.mpr hi)
        rw [List.getD_eq_getElem?_getD, List.getElem?_eq_getElem hi] at this
        exact this
      · intro h i hi
        have hi := List.mem_range.mp hi
        rw [List.getD_eq_getElem?_getD, List.getElem?_eq_getElem hi]
        exact h _ (List.getElem_mem hi)
    refine ⟨s.heap.objs.size, _, _, _, _, _, fun i => bs.getD i true, rfl, Walks.list (prog := X.prog) (w := X.w) (A := X.A.in1) (show X.A.in1.handled = none from I.ok.hd hc) s.heap.objs.size p hne (bs.map Value.bool).toArray, ⟨⟨_, Heap.get?_push_size _ rfl, rfl, rfl⟩, pl.isList.push _⟩, ?_, fun h' tk kp => ?_⟩
    · intro i v s2 Q2 E2 hv hQ
      have hv : (bs.map Value.bool)[i]? = some v := by simpa using hv
      rw [List.getElem?_map] at hv
      cases e : bs[i]? with
      | none => rw [e] at hv; cases hv
      | some b =>
        rw [e] at hv
        cases hv
        have e2 : bs.getD i true = b := by rw [List.getD_eq_getElem?_getD, e]; rfl
        have hQ : Q2 (bs.getD i true) s2 := hQ
        rw [e2] at hQ
        exact wpAny_pure hQ
    · refine ⟨.bl _, H, I.kept (t' := tk) fun b o e => kp b o ?_ (Heap.get?_push_of_some _ e), rfl, ?_⟩
      · simpa using Nat.ne_of_lt (Heap.lt_size e)
      · rw [hl _ (by simp)]; exact q
theorem uAll_r {p : Addr} {H : Hp} {Q : VK} : uAll [.ref p] H Q = ∃ bs : List Bool, H p = some (.lst (bs.map V.bl)) ∧ Q (.bl (bs.all id)) H := uR1_r
/-! ### is True, is False, is None -/
def uIs (neg : Bool) : R2 := fun x y H Q => (y = .non ∨ ∃ b, y = .bl b ∧ flatV x = true) ∧ Q (.bl (if neg then !decide (x = y) else decide (x = y))) H
theorem uIs_b {c b : Bool} {x : V} {H : Hp} {Q : VK} : uIs c x (.bl b) H Q = (flatV x = true ∧ Q (.bl (if c then !decide (x = .bl b) else decide (x = .bl b))) H) := by simp [uIs]
theorem uIs_n {c : Bool} {x : V} {H : Hp} {Q : VK} : uIs c x .non H Q = Q (.bl (if c then !decide (x = .non) else decide (x = .non))) H := by simp [uIs]
/-! ### in -/
def uIn : R2 := fun x y H Q => (∃ i j, x = .str i ∧ y = .str j ∧ Q (.bl (!(Builtin.Str.occurrences j i 0 j.length 1).isEmpty)) H) ∨ ∃ p xs, y = .ref p ∧ (H p = some (.lst xs) ∨ H p = some (.tup xs)) ∧ flatV x = true ∧ xs.all flatV = true ∧ Q (.bl (inV x xs)) H
theorem op_inU (hu : X.A.units < cLine) : OpR X (compareOp .In) uIn := (op_in_str.or op_in_seq).weak fun x y H Q h => by
  rcases h with h | ⟨p, xs, e, h, f1, f2, q⟩
  · exact .inl h
  · exact .inr ⟨p, xs, e, h.elim (fun h => .inl (SqL.of h)) (fun h => .inr (SqT.of h)), f1, f2, by simpa using q⟩
theorem uIn_ss {x y : Str} {H : Hp} {Q : VK} : uIn (.str x) (.str y) H Q = Q (.bl (!(Builtin.Str.occurrences y x 0 y.length 1).isEmpty)) H := by simp [uIn]
theorem uIn_r {x : V} {p : Addr} {H : Hp} {Q : VK} : uIn x (.ref p) H Q = ∃ xs, (H p = some (.lst xs) ∨ H p = some (.tup xs)) ∧ flatV x = true ∧ xs.all flatV = true ∧ Q (.bl (inV x xs)) H := by simp [uIn]
/-! ### rfind, split -/
def uM1 (to te : TE) (r : Str → V → Hp → VK → Prop) : TE := fun σ H Q => to σ H fun x H1 => uS x fun z => te σ H1 fun y H2 => r z y H2 Q
theorem uM1_eq {to te : TE} {r : Str → V → Hp → VK → Prop} {σ : St} {H : Hp} {Q : VK} : uM1 to te r σ H Q = to σ H fun x H1 => uS x fun z => te σ H1 fun y H2 => r z y H2 Q := rfl
theorem pe_sm1 {o e : Expr} {to te : TE} {apos cpos : Pos} {m : Str} {id : String} {r : Str → V → Hp → VK → Prop} (hs1 : Slot "str" m id) (hs2 : typeOf (.builtin id) = pure (.type "method_descriptor"))
    (hr : ∀ (pins : List (Addr × Obj)) (s : Shared) (σ : St) (H : Hp) (z : Str) (y : V) (t : Tok) (v : Value) (Q : VK), Inv X pins σ H s → RelV y v → r z y H Q → wpAny (model X.prog X.w) X.A (call (.builtin id) [.str z t, v]) (fun u s1 => ∃ x H', Inv X pins σ H' s1 ∧ RelV x u ∧ Q x H') X.xe s)
    (ho : PE X o to) (he : PE X e te) (hbase : attributeBase o m X.env (eval o X.env) = eval o X.env := by rfl) (hline : (apos.endLine == cpos.line) = true := by rfl) (hp : plainE e = true := by rfl) :
    PE X (.Call (.Attribute o m apos) [e] [] cpos) (uM1 to te r) := by
  intro pins s σ H Q I h
  have hs : starEach [e] X.env = [(false, eval e X.env)] := star1 hp
  refine wpAny_Call_method_late hbase (by rw [hs]; rfl) hline rfl (thn (ho pins s σ H _ I h) fun v s1 ⟨x, H1, I1, r1, z, ex, q1⟩ => ?_)
  subst ex
  obtain ⟨h1, h2⟩ := tyV_is (T := "str") I1 r1 rfl
  refine ⟨"str", id, PySem.F.plainAttrs_str, hs1, hs2, h1, h2, ?_⟩
  rw [hs]
  refine Calls.callWith_builtin rfl (Calls.evalArgs_plain ?_)
  have hA := pa_cons he pa_nil (hs := hs) cpos pins s1 σ H1 (fun ys H2 => match ys with | [y] => r z y H2 Q | _ => False) I1 q1
  rw [hs] at hA
  refine thn hA fun us s2 ⟨vs, H2, I2, r2, q2⟩ => ?_
  obtain ⟨t, rfl⟩ := r1
  match vs, q2, r2 with
  | [y], q2, .cons ry .nil => exact hr pins s2 σ H2 z y t _ Q I2 ry q2
def rRfind : Str → V → Hp → VK → Prop := fun z y H Q => uS y fun q => Q (.int (PySem.Txt.rfind z q)) H
theorem rRfind_s {z q : Str} {H : Hp} {Q : VK} : rRfind z (.str q) H Q = Q (.int (PySem.Txt.rfind z q)) H := uS_s
theorem vals_strsFrom : ∀ (k : Nat) (ys : List Str), Vals (ys.map V.str) (strsFrom k ys)
  | _, [] => .nil
  | k, y :: ys => .cons ⟨k, rfl⟩ (vals_strsFrom (k + 1) ys)
def rSplit : Str → V → Hp → VK → Prop := fun z y H Q => uS y fun q => (q.length == 0) = false ∧ z.length < sizeLine ∧ (PySem.Txt.split z q).length ≤ sizeLine ∧ ∀ p H2, New H p (.lst ((PySem.Txt.split z q).map V.str)) H2 → Q (.ref p) H2
theorem pe_b_split {o e : Expr} {to te : TE} {apos cpos : Pos} (ho : PE X o to) (he : PE X e te) (hbase : attributeBase o "split" X.env (eval o X.env) = eval o X.env := by rfl) (hline : (apos.endLine == cpos.line) = true := by rfl) (hp : plainE e = true := by rfl) :
    PE X (.Call (.Attribute o "split" apos) [e] [] cpos) (uM1 to te rSplit) :=
  pe_sm1 PySem.F.slot_str_split PySem.F.type_str_split (fun pins s σ H z y t v Q I ry q => by
    obtain ⟨w, rfl, hw, hz, hn, q⟩ := q
    obtain ⟨u, rfl⟩ := ry
    have lay : ∀ (ys : List Str) (us : List Value) (k : Nat), ys = PySem.Txt.split z w → Vals (ys.map V.str) us → ∃ x H', Inv X pins σ H' { s with heap := s.heap.push { cls := .type "list", data := .seq us.toArray }, toks := k } ∧ RelV x (.ref s.heap.objs.size) ∧ Q x H' := fun ys us k e rv => by
      subst e
      have hl := rv.length
      rw [List.length_map] at hl
      exact ⟨.ref s.heap.objs.size, _, I.laid (t' := k) (o := .lst _) (fun b ob q => Heap.get?_push_of_some _ q) (Nat.le_refl _) ⟨by rw [List.length_map]; exact hn, us, 0, rv, Heap.get?_push_size _ rfl⟩, rfl, q _ _ (.mk' (I.hok.fresh (Nat.le_refl _)))⟩
    cases h1 : (decide (z.length < w.length) || decide (Builtin.Str.strKind z < Builtin.Str.strKind w))
    · cases hf : (Builtin.Str.occurrences z w 0 z.length (z.length + 1)).isEmpty
      · have es : PySem.Txt.split z w = Builtin.Str.partsBetween z (Builtin.Str.occurrences z w 0 z.length (z.length + 1)) w.length := (if_neg (ne_true_of_eq_false h1)).trans (if_neg (ne_true_of_eq_false hf))
        rw [es] at hn
        exact call_meets PySem.F.slot_str_split (typeIs_str _ _ _) PySem.F.entry_str_split (PySem.F.args_str_split_2 _ _) (meets_str_split_sep z w t u h1 hw hf (Nat.le_of_lt hz) hn) (lay _ _ _ es.symm (vals_strsFrom _ _))
      · exact call_meets PySem.F.slot_str_split (typeIs_str _ _ _) PySem.F.entry_str_split (PySem.F.args_str_split_2 _ _) (meets_str_split_not_found z w t u h1 hw hf) (lay [z] [.str z t] s.toks ((if_neg (ne_true_of_eq_false h1)).trans (if_pos hf)).symm (.cons ⟨t, rfl⟩ .nil))
    · exact call_meets PySem.F.slot_str_split (typeIs_str _ _ _) PySem.F.entry_str_split (PySem.F.args_str_split_2 _ _) (meets_str_split_cannot_occur z w t u h1) (lay [z] [.str z t] s.toks (if_pos h1).symm (.cons ⟨t, rfl⟩ .nil))) ho he hbase hline hp
theorem rSplit_s {z q : Str} {H : Hp} {Q : VK} : rSplit z (.str q) H Q = ((q.length == 0) = false ∧ z.length < sizeLine ∧ (PySem.Txt.split z q).length ≤ sizeLine ∧ ∀ p H2, New H p (.lst ((PySem.Txt.split z q).map V.str)) H2 → Q (.ref p) H2) := uS_s
/-! ### f"{a}{b}c" -/
def uFmt (te : TE) : TE := fun σ H Q => te σ H fun x H1 => (∃ z, x = .str z ∧ z.length ≤ sizeLine ∧ Q (.str z) H1) ∨ ∃ i, x = .int i ∧ i.natAbs.log2 < 1920 ∧ Q (.str (toString i)) H1
def rFmt : V → Hp → VK → Prop := fun x H1 Q => (∃ z, x = .str z ∧ z.length ≤ sizeLine ∧ Q (.str z) H1) ∨ ∃ i, x = .int i ∧ i.natAbs.log2 < 1920 ∧ Q (.str (toString i)) H1
theorem uFmt_eq {te : TE} {σ : St} {H : Hp} {Q : VK} : uFmt te σ H Q = te σ H fun x H1 => rFmt x H1 Q := rfl
theorem rFmt_s {z : Str} {H : Hp} {Q : VK} : rFmt (.str z) H Q = (z.length ≤ sizeLine ∧ Q (.str z) H) := by simp [rFmt]
theorem rFmt_i {i : Int} {H : Hp} {Q : VK} : rFmt (.int i) H Q = (i.natAbs.log2 < 1920 ∧ Q (.str (toString i)) H) := by simp [rFmt]
abbrev TJ := Str → TE
def jNil : TJ := fun out _ H Q => out.length ≤ sizeLine ∧ Q (.str out) H
def jCons (te : TE) (tj : TJ) : TJ := fun out σ H Q => te σ H fun x H1 => uS x fun y => (out ++ y).length ≤ sizeLine ∧ tj (out ++ y) σ H1 Q
def tJoined (tj : TJ) : TE := tj Str.empty
theorem tJoined_eq {tj : TJ} : tJoined tj = tj Str.empty := rfl
/-! ### int(text), str(text), tuple(list) -/
def uIntT : List V → Hp → VK → Prop := fun xs H Q => uInt xs H Q ∨ ∃ z n, xs = [.str z] ∧ z.length ≤ 640 ∧ PySem.intText? z = some n ∧ Q (.int n) H
theorem call_intT : CallR X (.type "int") uIntT := by
  intro pins s σ H xs us Q I r h
  rcases h with h | ⟨z, n, rfl, hl, hn, q⟩
  · exact call_intU pins s σ H xs us Q I r h
  · cases r with
    | cons r1 rr =>
      cases rr
      obtain ⟨t, rfl⟩ := r1
      exact PySem.W.KIN.call_text hn hl ⟨.int n, H, I.tok _, ⟨_, rfl⟩, q⟩
theorem uIntT_i {i : Int} {H : Hp} {Q : VK} : uIntT [.int i] H Q = Q (.int i) H := by simp [uIntT, uInt]
theorem uIntT_b {k : Bool} {H : Hp} {Q : VK} : uIntT [.bl k] H Q = Q (.int (if k then 1 else 0)) H := by simp [uIntT, uInt]
theorem uIntT_s {z : Str} {H : Hp} {Q : VK} : uIntT [.str z] H Q = ∃ n, z.length ≤ 640 ∧ PySem.intText? z = some n ∧ Q (.int n) H := by simp [uIntT, uInt]
def uStrT : List V → Hp → VK → Prop := fun xs H Q => uStr xs H Q ∨ ∃ z, xs = [.str z] ∧ Q (.str z) H
theorem call_strT : CallR X (.type "str") uStrT := by
  intro pins s σ H xs us Q I r h
  rcases h with h | ⟨z, rfl, q⟩
  · exact call_strU pins s σ H xs us Q I r h
  · cases r with
    | cons r1 rr =>
      cases rr
      obtain ⟨t, rfl⟩ := r1
      exact PySem.P.str_of_str ⟨.str z, H, I, ⟨_, rfl⟩, q⟩
theorem uStrT_i {i : Int} {H : Hp} {Q : VK} : uStrT [.int i] H Q = (i.natAbs.log2 < 1920 ∧ Q (.str (toString i)) H) := by simp [uStrT, uStr]
theorem uStrT_s {z : Str} {H : Hp} {Q : VK} : uStrT [.str z] H Q = Q (.str z) H := by simp [uStrT, uStr]
def uTupOf : List V → Hp → VK → Prop := fun xs H Q => uR1 xs fun p => ∃ ys, H p = some (.lst ys) ∧ ∀ l H2, New H l (.tup ys) H2 → Q (.ref l) H2
theorem uTupOf_r {p : Addr} {H : Hp} {Q : VK} : uTupOf [.ref p] H Q = ∃ ys, H p = some (.lst ys) ∧ ∀ l H2, New H l (.tup ys) H2 → Q (.ref l) H2 := uR1_r
def uOrd : List V → Hp → VK → Prop := fun xs H Q => ∃ x, xs = [.str x] ∧ x.length = 1 ∧ Q (.int (x.cps.getD 0 0 : Nat)) H
theorem uOrd_s {x : Str} {H : Hp} {Q : VK} : uOrd [.str x] H Q = (x.length = 1 ∧ Q (.int (x.cps.getD 0 0 : Nat)) H) := by simp [uOrd]
end
end L2
set_option Elab.async false
set_option linter.all false
set_option maxRecDepth 100000
set_option maxHeartbeats 4000000
namespace L2
open PySem PySem.Spec PyProof.Rows
/-! ### == of tuples of flat things -/
section
variable {X : Cx}
def uEqT : R2 := fun x y H Q => uEq false x y H Q ∨ ∃ a b xs ys, x = .ref a ∧ y = .ref b ∧ H a = some (.tup xs) ∧ H b = some (.tup ys) ∧ xs.all flatV = true ∧ ys.all flatV = true ∧ Q (.bl (eqL xs ys)) H
theorem uEqT_ii {i j : Int} {H : Hp} {Q : VK} : uEqT (.int i) (.int j) H Q = Q (.bl (decide (i = j))) H := by simp [uEqT, uEq, scal]
theorem uEqT_ss {x y : Str} {H : Hp} {Q : VK} : uEqT (.str x) (.str y) H Q = Q (.bl (decide (x = y))) H := by simp [uEqT, uEq, scal]
theorem uEqT_bb {x y : Bool} {H : Hp} {Q : VK} : uEqT (.bl x) (.bl y) H Q = Q (.bl (decide (x = y))) H := by simp [uEqT, uEq, scal]
theorem uEqT_rr {a b : Addr} {H : Hp} {Q : VK} : uEqT (.ref a) (.ref b) H Q = ∃ xs ys, ((H a = some (.lst xs) ∧ H b = some (.lst ys)) ∨ (H a = some (.tup xs) ∧ H b = some (.tup ys))) ∧ xs.all flatV = true ∧ ys.all flatV = true ∧ Q (.bl (eqL xs ys)) H := by
  apply propext; constructor
  · rintro (h | ⟨a', b', xs, ys, e1, e2, h1, h2, f1, f2, q⟩)
    · rw [uEq_rr] at h
      obtain ⟨xs, ys, h1, h2, f1, f2, q⟩ := h
      exact ⟨xs, ys, .inl ⟨h1, h2⟩, f1, f2, q⟩
    · cases e1; cases e2; exact ⟨xs, ys, .inr ⟨h1, h2⟩, f1, f2, q⟩
  · rintro ⟨xs, ys, ⟨h1, h2⟩ | ⟨h1, h2⟩, f1, f2, q⟩
    · exact .inl (by rw [uEq_rr]; exact ⟨xs, ys, h1, h2, f1, f2, q⟩)
    · exact .inr ⟨a, b, xs, ys, rfl, rfl, h1, h2, f1, f2, q⟩
end
end L2
set_option Elab.async false
set_option linter.all false
set_option maxRecDepth 100000
set_option maxHeartbeats 4000000
namespace L2
open PySem PySem.Spec PyProof.Rows
section
variable {X : Cx}
/-! ### a dict of the text, texts to objects: D.get(e) -/
def getK (kvs : List (Str × Addr)) (z : Str) : V := match kvs.find? (fun p => p.1 = z) with | some p => .ref p.2 | none => .non
def tGetK (kvs : List (Str × Addr)) (te : TE) : TE := fun σ H Q => te σ H fun y H1 => uS y fun z => Q (getK kvs z) H1
theorem tGetK_eq {kvs : List (Str × Addr)} {te : TE} {σ : St} {H : Hp} {Q : VK} : tGetK kvs te σ H Q = te σ H fun y H1 => uS y fun z => Q (getK kvs z) H1 := rfl
end
end L2
set_option Elab.async false
set_option linter.all false
set_option maxRecDepth 100000
set_option maxHeartbeats 4000000
namespace L2
open PySem PySem.Spec PyProof.Rows
/-! ### range(0, n, 3) -/
def Itr3 (lo st : Int) (n : Nat) : It := ⟨fun i _ => i < n, fun i H x H' => H' = H ∧ x = .int (lo + i * st), fun i _ => n ≤ i⟩
section
variable {X : Cx} {tg : Expr}
def uI3 (vs : List V) (q : Int → Int → Int → Prop) : Prop := ∃ i j k, vs = [.int i, .int j, .int k] ∧ q i j k
theorem uI3_i {i j k : Int} {q : Int → Int → Int → Prop} : uI3 [.int i, .int j, .int k] q = q i j k := by
  apply propext; constructor
  · rintro ⟨a, b, c, e, h⟩; cases e; exact h
  · exact fun h => ⟨i, j, k, rfl, h⟩
def iRng3 (ta : TA) : TI := fun σ H R => ta σ H fun vs H1 => uI3 vs fun i j k => (0 ≤ i ∧ i ≤ j ∧ j < 2 ^ 20 ∧ 0 < k ∧ k < 2 ^ 20) ∧ R (Itr3 i k ((j - i + k - 1) / k).toNat) H1
theorem iRng3_eq {ta : TA} {σ : St} {H : Hp} {R : It → Hp → Prop} : iRng3 ta σ H R = ta σ H fun vs H1 => uI3 vs fun i j k => (0 ≤ i ∧ i ≤ j ∧ j < 2 ^ 20 ∧ 0 < k ∧ k < 2 ^ 20) ∧ R (Itr3 i k ((j - i + k - 1) / k).toNat) H1 := rfl
end
section
variable {g : TG} {tb : TS} {D : Ends} {σ : St} {H : Hp}
end
end L2
set_option Elab.async false
set_option linter.all false
set_option maxRecDepth 100000
set_option maxHeartbeats 4000000
namespace L2
open PySem PySem.Spec PyProof.Rows
section
variable {prog : Program} {w : World} {A : Around} {E : Value → Shared → Prop} {s : Shared}

end

section
variable {prog : Program} {w : World} {A : Around} {E : Value → Shared → Prop} {s : Shared}
end
/-- the pairs of the lists at a, b -/
def ItzT (K : PySem.W.Frag) (a b : Addr) : It :=
  ⟨fun i H => ∃ xs ys x y, SqT K H a xs ∧ SqL K H b ys ∧ xs[i]? = some x ∧ ys[i]? = some y, fun i H v H' => ∃ T x y, H T = none ∧ v = .ref T ∧ H' = upd H T (.tup [x, y]) ∧ (∀ xs, SqT K H a xs → xs[i]? = some x) ∧ ∀ ys, SqL K H b ys → ys[i]? = some y,
    fun i H => ∃ xs ys, SqT K H a xs ∧ SqL K H b ys ∧ xs.length ≤ i⟩
structure ZipTSt (z TI TO i1 i2 l1 l2 : Addr) (i : Nat) (h : Heap) : Prop where
  z : IsZip h z TI TO .none
  ti : IsPair h TI (.ref i1) (.ref i2)
  to : ∃ a b, IsPair h TO a b
  a : h.IsTupleIter i1 l1 i
  b : h.IsListIter i2 l2 i
theorem ZipTSt.keep {z TI TO i1 i2 l1 l2 : Addr} {i : Nat} {h h' : Heap} (x : ZipTSt z TI TO i1 i2 l1 l2 i h) (k : ∀ b ∈ [z, TI, TO, i1, i2], ∀ o, h.get? b = some o → h'.get? b = some o) : ZipTSt z TI TO i1 i2 l1 l2 i h' := by
  obtain ⟨a1, a2, ⟨u, v, a3⟩, a4, a5⟩ := x
  exact ⟨k _ (by simp) _ a1, k _ (by simp) _ a2, ⟨u, v, k _ (by simp) _ a3⟩, a4.at fun o e => k _ (by simp) o e, a5.at fun o e => k _ (by simp) o e⟩
section
variable {X : Cx}
def iZipT (K : PySem.W.Frag) (ta : TA) : TI := fun σ H R => ta σ H fun vs H1 => ∃ a b, vs = [.ref a, .ref b] ∧ (∃ xs, SqT K H1 a xs) ∧ (∃ ys, SqL K H1 b ys) ∧ R (ItzT K a b) H1
end

section
variable {K : PySem.W.Frag} {g : TG} {tb : TS} {D : Ends} {σ : St} {H : Hp} {ta : TA} {R : It → Hp → Prop}
theorem iZipT_eq : iZipT K ta σ H R = ta σ H fun vs H1 => uR2 vs fun a b => (∃ xs, SqT K H1 a xs) ∧ (∃ ys, SqL K H1 b ys) ∧ R (ItzT K a b) H1 := by
  apply propext
  constructor
  · intro h
    exact h
  · intro h
    exact h
end
end L2
set_option Elab.async false
set_option linter.all false
set_option maxRecDepth 100000
set_option maxHeartbeats 4000000
namespace L2
open PySem PySem.Spec PyProof.Rows
section
variable {X : Cx}
theorem w_pi_str {tg : Expr} {l : Expr} {tl : TE} (hl : W (PE X l tl)) : W (PIc true X tg l (iStr tl)) := ⟨pi_str (hl := hl.h)⟩
theorem w_pe_b_split {o e : Expr} {to te : TE} {apos cpos : Pos} (ho : W (PE X o to)) (he : W (PE X e te)) (hbase : attributeBase o "split" X.env (eval o X.env) = eval o X.env := by rfl) (hline : (apos.endLine == cpos.line) = true := by rfl) (hp : plainE e = true := by rfl) : W (PE X (.Call (.Attribute o "split" apos) [e] [] cpos) (uM1 to te rSplit)) := ⟨pe_b_split (ho := ho.h) (he := he.h) (hbase := hbase) (hline := hline) (hp := hp)⟩
end
end L2
set_option Elab.async false
set_option linter.all false
set_option maxRecDepth 100000
set_option maxHeartbeats 4000000
namespace L2
open PySem PySem.Spec PyProof.Rows
/-! ### texts as lists of signs -/
def tx (l : List Nat) : Str := ⟨l.toArray⟩
def sg (z : Str) : List Nat := z.cps.toList
theorem sg_tx (l : List Nat) : sg (tx l) = l := by simp [sg, tx]
theorem tx_sg (z : Str) : tx (sg z) = z := by cases z; simp [sg, tx]
theorem sg_inj {a b : Str} (h : sg a = sg b) : a = b := by rw [← tx_sg a, h, tx_sg]
theorem sg_append (a b : Str) : sg (a ++ b) = sg a ++ sg b := by simp [sg, Str.cps_append]
theorem sg_len (z : Str) : (sg z).length = z.length := by simp [sg, Str.length]
theorem tx_len (l : List Nat) : (tx l).length = l.length := by simp [tx, Str.length]
def c1 (c : Nat) : Str := ⟨#[c]⟩
theorem at_one {x : Str} {c i : Nat} : StrLaws.At x (c1 c) x.length i ↔ (sg x)[i]? = some c := by
  unfold StrLaws.At
  rw [StrLaws.subAt_eq]
  show i + 1 ≤ x.length ∧ ((((sg x).drop i).take 1) == [c]) = true ↔ _
  rw [← sg_len x]
  constructor
  · rintro ⟨h1, h2⟩
    have h2 := eq_of_beq h2
    rw [List.getElem?_eq_getElem (by omega)]
    have h3 : ((sg x).drop i).take 1 = [(sg x)[i]'(by omega)] := by
      rw [List.drop_eq_getElem_cons (by omega)]; rfl
    rw [h3] at h2
    injection h2 with h2 _
    rw [h2]
  · intro h
    obtain ⟨h1, h2⟩ := List.getElem?_eq_some_iff.mp h
    refine ⟨by omega, ?_⟩
    rw [List.drop_eq_getElem_cons h1, h2]
    simp
theorem in_one (y : Str) (c : Nat) : (!(Builtin.Str.occurrences y ⟨#[c]⟩ 0 y.length 1).isEmpty) = (sg y).contains c := by
  rcases StrLaws.occ_head y (c1 c) 1 (Nat.le_refl _) with ⟨h, hn⟩ | ⟨i, r, h, ha, _⟩
  · rw [show Builtin.Str.occurrences y ⟨#[c]⟩ 0 y.length 1 = [] from h]
    symm
    show (sg y).contains c = false
    rw [Bool.eq_false_iff]
    intro hc
    obtain ⟨i, hi, e⟩ := List.getElem_of_mem (List.contains_iff_mem.mp hc)
    exact hn i (at_one.mpr (by rw [List.getElem?_eq_getElem hi, e]))
  · rw [show Builtin.Str.occurrences y ⟨#[c]⟩ 0 y.length 1 = i :: r from h]
    symm
    exact List.contains_iff_mem.mpr (List.mem_of_getElem? (at_one.mp ha))
/-! #### split -/
def splitL (c : Nat) : List Nat → List (List Nat)
  | [] => [[]]
  | x :: t => if x = c then [] :: splitL c t else match splitL c t with
    | [] => [[x]]
    | h :: r => (x :: h) :: r
def preH (p : List Nat) : List (List Nat) → List (List Nat)
  | [] => [p]
  | h :: r => (p ++ h) :: r
theorem splitL_ne (c : Nat) : ∀ l, ∃ h r, splitL c l = h :: r
  | [] => ⟨_, _, rfl⟩
  | x :: t => by
    unfold splitL
    split
    · exact ⟨_, _, rfl⟩
    · obtain ⟨h, r, e⟩ := splitL_ne c t
      rw [e]; exact ⟨_, _, rfl⟩
theorem splitL_cons (c x : Nat) (t : List Nat) (h : x ≠ c) : splitL c (x :: t) = preH [x] (splitL c t) := by
  obtain ⟨a, r, e⟩ := splitL_ne c t
  show (if x = c then _ else _) = _
  rw [if_neg h, e]
  rfl
theorem preH_preH (p q : List Nat) (l : List (List Nat)) : preH p (preH q l) = preH (p ++ q) l := by
  cases l <;> simp [preH]
theorem occ_one_aux (s : Str) (c hi limit : Nat) : ∀ (l : List Nat) (st : Array Nat × Nat), (∀ i ∈ l, st.2 ≤ i) → l.Pairwise (· < ·) → st.1.size + l.length ≤ limit →
    (forIn l st (StrLaws.occBody s (c1 c) hi limit)).run.fst.toList = st.1.toList ++ l.filter fun i => decide (i + 1 ≤ hi) && Builtin.Str.subAt s (c1 c) i
  | [], st, _, _, _ => by simp
  | a :: l, st, h1, h2, h3 => by
    rw [List.forIn_cons]
    unfold StrLaws.occBody
    have ha := h1 a (List.mem_cons_self ..)
    rw [List.pairwise_cons] at h2
    simp only [List.length_cons] at h3
    split
    · rename_i hc
      have ih := occ_one_aux s c hi limit l (st.1.push a, a + (c1 c).length) (fun i hi => by have := h2.1 i hi; show a + 1 ≤ i; omega) h2.2 (by simp; omega)
      have e2 : (decide (a + 1 ≤ hi) && Builtin.Str.subAt s (c1 c) a) = true := by rw [Bool.and_eq_true]; exact ⟨decide_eq_true hc.1.2, hc.2⟩
      rw [List.filter_cons, e2, if_pos rfl]
      refine Eq.trans ih ?_
      simp
    · rename_i hc
      have ih := occ_one_aux s c hi limit l st (fun i hi => h1 i (List.mem_cons_of_mem _ hi)) h2.2 (by omega)
      have e2 : (decide (a + 1 ≤ hi) && Builtin.Str.subAt s (c1 c) a) = false := by
        rw [Bool.eq_false_iff]
        intro h
        rw [Bool.and_eq_true] at h
        exact hc ⟨⟨⟨by omega, ha⟩, of_decide_eq_true h.1⟩, h.2⟩
      rw [List.filter_cons, e2, if_neg (by simp)]
      exact ih
theorem occ_one (x : Str) (c : Nat) : Builtin.Str.occurrences x (c1 c) 0 x.length (x.length + 1) = (List.range' 0 (x.length + 1)).filter fun i => (sg x)[i]? == some c := by
  rw [StrLaws.occ_eq]
  rw [occ_one_aux x c x.length (x.length + 1) _ _ (fun _ _ => Nat.zero_le _) (List.pairwise_lt_range' (s := 0) (n := x.length + 1 - 0)) (by simp)]
  simp only [List.nil_append, Nat.sub_zero]
  refine List.filter_congr fun i _ => ?_
  rw [Bool.eq_iff_iff]
  have := at_one (x := x) (c := c) (i := i)
  unfold StrLaws.At at this
  rw [Bool.and_eq_true, decide_eq_true_eq, beq_iff_eq]
  exact this
theorem parts_one (x : Str) (c : Nat) : ∀ (k a i : Nat), i + k = x.length → a ≤ i → StrLaws.partsFrom x 1 a ((List.range' i (k + 1)).filter fun i => (sg x)[i]? == some c) = (preH (((sg x).drop a).take (i - a)) (splitL c ((sg x).drop i))).map tx
  | 0, a, i, h, ha => by
    have hl := sg_len x
    have e1 : (sg x)[i]? = none := List.getElem?_eq_none (by omega)
    have e2 : (sg x).drop i = [] := List.drop_eq_nil_of_le (by omega)
    have e3 : (List.range' i (0 + 1)).filter (fun i => (sg x)[i]? == some c) = [] := by
      show List.filter _ [i] = []
      rw [List.filter_cons, e1]; rfl
    rw [e2, e3]
    show [Builtin.Str.strSub x a x.length] = [tx _]
    refine congrArg (· :: []) (sg_inj ?_)
    rw [sg_tx]
    show (Builtin.Str.strSub x a x.length).cps.toList = _
    rw [StrLaws.strSub_toList, show x.length = i by omega]
    simp [splitL, sg]
  | k + 1, a, i, h, ha => by
    have hl := sg_len x
    have hi : i < (sg x).length := by omega
    have e0 : (sg x)[i]? = some ((sg x)[i]) := List.getElem?_eq_getElem hi
    have ed : (sg x).drop i = (sg x)[i] :: (sg x).drop (i + 1) := List.drop_eq_getElem_cons hi
    rw [List.range'_succ, List.filter_cons, e0, ed]
    by_cases hc : (sg x)[i] = c
    · rw [if_pos (by simp [hc])]
      have ih := parts_one x c k (i + 1) (i + 1) (by omega) (Nat.le_refl _)
      show Builtin.Str.strSub x a i :: StrLaws.partsFrom x 1 (i + 1) _ = _
      rw [ih]
      have e4 : splitL c ((sg x)[i] :: (sg x).drop (i + 1)) = [] :: splitL c ((sg x).drop (i + 1)) := by
        show (if _ = c then _ else _) = _
        rw [if_pos hc]
      rw [e4]
      obtain ⟨p, r, e⟩ := splitL_ne c ((sg x).drop (i + 1))
      rw [e]
      simp only [Nat.sub_self, List.take_zero, preH, List.nil_append, List.append_nil, List.map_cons]
      refine congrArg (· :: _) (sg_inj ?_)
      rw [sg_tx]
      exact StrLaws.strSub_toList x a i
    · rw [if_neg (by simp [hc])]
      rw [parts_one x c k a (i + 1) (by omega) (by omega), splitL_cons c _ _ hc, preH_preH]
      have e5 : ((sg x).drop a).take (i + 1 - a) = ((sg x).drop a).take (i - a) ++ [(sg x)[i]] := by
        rw [show i + 1 - a = (i - a) + 1 by omega, List.take_add_one]
        congr 1
        rw [List.getElem?_drop, show a + (i - a) = i by omega, e0]
        rfl
      rw [e5]
theorem splitL_no {c : Nat} : ∀ {l : List Nat}, c ∉ l → splitL c l = [l]
  | [], _ => rfl
  | x :: t, h => by
    rw [List.mem_cons, not_or] at h
    rw [splitL_cons c x t (Ne.symm h.1), splitL_no h.2]
    rfl
theorem split_one (x : Str) {c : Nat} (hc : c < 128) : PySem.Txt.split x (c1 c) = (splitL c (sg x)).map tx := by
  have hk : Builtin.Str.strKind (c1 c) = 1 := by
    unfold Builtin.Str.strKind
    rw [if_pos]
    show (#[c] : Array Nat).all (· < 256) = true
    simp; omega
  have hk2 : ¬ Builtin.Str.strKind x < Builtin.Str.strKind (c1 c) := by
    rw [hk]
    unfold Builtin.Str.strKind
    split <;> (try split) <;> omega
  have whole : c ∉ sg x → [x] = (splitL c (sg x)).map tx := fun h => by rw [splitL_no h]; show [x] = [tx (sg x)]; rw [tx_sg]
  unfold PySem.Txt.split
  split
  · rename_i h
    rw [decide_eq_false hk2, Bool.or_false, decide_eq_true_eq] at h
    have h : x.length < 1 := h
    rw [← sg_len] at h
    refine whole ?_
    have e0 : sg x = [] := List.eq_nil_of_length_eq_zero (by omega)
    rw [e0]
    exact List.not_mem_nil
  · split
    · rename_i h
      refine whole fun hm => ?_
      obtain ⟨i, hi, e⟩ := List.getElem_of_mem hm
      rw [occ_one] at h
      have : i ∈ (List.range' 0 (x.length + 1)).filter fun i => (sg x)[i]? == some c := by
        rw [List.mem_filter]
        refine ⟨?_, by rw [List.getElem?_eq_getElem hi, e]; simp⟩
        rw [List.mem_range'_1]
        rw [sg_len] at hi
        omega
      rw [List.isEmpty_iff.mp h] at this
      exact absurd this List.not_mem_nil
    · rw [StrLaws.partsBetween_eq, occ_one]
      show StrLaws.partsFrom x 1 0 _ = _
      rw [parts_one x c x.length 0 0 (by omega) (Nat.le_refl _)]
      simp only [Nat.sub_self, List.take_zero, List.drop_zero]
      obtain ⟨h, r, e⟩ := splitL_ne c (sg x)
      rw [e]; rfl
/-- words without the sign, it behind each but the last, are split so -/
theorem splitL_words {c : Nat} : ∀ (w : List Nat) (ws : List (List Nat)), (∀ v ∈ w :: ws, c ∉ v) → splitL c (w ++ (ws.map (c :: ·)).flatten) = w :: ws
  | [], [], _ => rfl
  | [], v :: ws, h => by
    have ih := splitL_words v ws fun u hu => h u (List.mem_cons_of_mem _ hu)
    show splitL c (c :: (v ++ (ws.map (c :: ·)).flatten)) = _
    show (if c = c then _ else _) = _
    rw [if_pos rfl, ih]
  | x :: w, ws, h => by
    have hx := h _ (List.mem_cons_self ..)
    rw [List.mem_cons, not_or] at hx
    have ih := splitL_words w ws fun u hu => by
      rcases List.mem_cons.mp hu with rfl | hu
      · exact hx.2
      · exact h u (List.mem_cons_of_mem _ hu)
    show splitL c (x :: (w ++ (ws.map (c :: ·)).flatten)) = _
    rw [splitL_cons c x _ (Ne.symm hx.1), ih]
    rfl
/-! #### rfind -/
/-! #### slices -/
/-! #### texts of numbers -/
theorem sg_num (m : Nat) : sg (toString ((m : Nat) : Int) : Str) = (Nat.toDigits 10 m).map Char.toNat := PySem.W.KIN.signs_num m
end L2
set_option Elab.async false
set_option linter.all false
set_option maxRecDepth 100000
set_option maxHeartbeats 4000000
namespace L2
open PySem PySem.Spec PyProof.Rows
section
variable {X : Cx} {tg : Expr}
/-! ### for x in a list or a tuple -/
def iSeq (K : PySem.W.Frag) (tl : TE) : TI := fun σ H R => tl σ H fun x H1 => uR x fun a => (∃ xs, SqL K H1 a xs ∧ R (Itl K a) H1) ∨ ∃ xs, SqT K H1 a xs ∧ R (Itt K a) H1
theorem iSeq_eq {K : PySem.W.Frag} {tl : TE} {σ : St} {H : Hp} {R : It → Hp → Prop} : iSeq K tl σ H R = tl σ H fun x H1 => uR x fun a => (∃ xs, SqL K H1 a xs ∧ R (Itl K a) H1) ∨ ∃ xs, SqT K H1 a xs ∧ R (Itt K a) H1 := rfl
end
section
variable {K : PySem.W.Frag} {g : TG} {tt : TT} {te : TE} {H : Hp} {Q : VK} {R : It → Hp → Prop}
/-- a comprehension over a tuple -/
theorem CompJ.tup {a : Addr} {xs : List V} {τ : St} (Pv : Nat → St → List V → Hp → Prop) (hz : ∀ i τ ys H, Pv i τ ys H → ys.length < sizeLine) (ha : ∀ i τ ys H, Pv i τ ys H → SqT K H a xs) (h0 : Pv 0 τ [] H)
    (hs : ∀ (N : St → List V → Hp → Prop) i x τ ys H, xs[i]? = some x → Pv i τ ys H → (∀ τ ys H, Pv (i + 1) τ ys H → N τ ys H) → g x τ H fun τ1 H4 => tt τ1 H4 fun ok H5 => CompN N ys τ1 te ok H5) (hd : ∀ τ ys H, Pv xs.length τ ys H → ∀ D H', New H D (.lst ys) H' → Q (.ref D) H') : CompJ (Itt K a) g tt te τ H Q := by
  refine ⟨fun i m τ ys H => m = xs.length - i ∧ i ≤ xs.length ∧ Pv i τ ys H, ⟨xs.length, by simp, Nat.zero_le _, h0⟩, ?_⟩
  rintro i m τ ys H2 ⟨rfl, hi, p⟩
  refine ⟨hz i τ ys H2 p, ?_⟩
  have q := ha i τ ys H2 p
  by_cases hlt : i < xs.length
  · refine .inr ⟨⟨xs, xs[i], q, by simp [hlt]⟩, fun x H' y => ?_⟩
    obtain ⟨e, y⟩ := y
    subst e
    exact hs (fun τ1 ys H => ∃ m', m' < xs.length - i ∧ m' = xs.length - (i + 1) ∧ i + 1 ≤ xs.length ∧ Pv (i + 1) τ1 ys H) i x τ ys _ (y xs q) p fun τ1 zs H q => ⟨xs.length - (i + 1), by omega, rfl, hlt, q⟩
  · have e : i = xs.length := by omega
    subst e
    exact .inl ⟨⟨xs, q, Nat.le_refl _⟩, fun D hD => hd τ ys H2 p D _ (.mk' hD)⟩
theorem uIsN_r {c : Bool} {a : Addr} {H : Hp} {Q : VK} : uIsN c (.ref a) .non H Q = Q (.bl (if c then true else false)) H := by simp [uIsN]
theorem uIsN_s {c : Bool} {a : Str} {H : Hp} {Q : VK} : uIsN c (.str a) .non H Q = Q (.bl (if c then true else false)) H := by simp [uIsN]
theorem asc_sg (z : Str) : asc z = (sg z).all (· < 128) := by simp [asc, sg]
end
end L2
set_option Elab.async false
set_option linter.all false
set_option maxRecDepth 100000
set_option maxHeartbeats 4000000
namespace L2
open PySem PySem.Spec PyProof.Rows
section
variable {M : Model} {A : Around} {E : Value → Shared → Prop} {s : Shared} {B : Heap} {env : Env} {outer l : List Env} {L e : Addr} {cls fl : Value}
end
end L2
set_option Elab.async false
set_option linter.all false
set_option maxRecDepth 100000
set_option maxHeartbeats 4000000
namespace L2
open PySem PySem.Spec PyProof.Rows
section
variable {X : Cx}
/-! ### != of tuples of flat things -/
def uNeT : R2 := fun x y H Q => uEq true x y H Q ∨ ∃ a b xs ys, x = .ref a ∧ y = .ref b ∧ H a = some (.tup xs) ∧ H b = some (.tup ys) ∧ xs.all flatV = true ∧ ys.all flatV = true ∧ Q (.bl (!eqL xs ys)) H
theorem uNeT_rr {a b : Addr} {H : Hp} {Q : VK} : uNeT (.ref a) (.ref b) H Q = ∃ xs ys, ((H a = some (.lst xs) ∧ H b = some (.lst ys)) ∨ (H a = some (.tup xs) ∧ H b = some (.tup ys))) ∧ xs.all flatV = true ∧ ys.all flatV = true ∧ Q (.bl (!eqL xs ys)) H := by
  apply propext; constructor
  · rintro (h | ⟨a', b', xs, ys, e1, e2, h1, h2, f1, f2, q⟩)
    · rw [uEq_rr] at h
      obtain ⟨xs, ys, h1, h2, f1, f2, q⟩ := h
      exact ⟨xs, ys, .inl ⟨h1, h2⟩, f1, f2, q⟩
    · cases e1; cases e2; exact ⟨xs, ys, .inr ⟨h1, h2⟩, f1, f2, q⟩
  · rintro ⟨xs, ys, ⟨h1, h2⟩ | ⟨h1, h2⟩, f1, f2, q⟩
    · exact .inl (by rw [uEq_rr]; exact ⟨xs, ys, h1, h2, f1, f2, q⟩)
    · exact .inr ⟨a, b, xs, ys, rfl, rfl, h1, h2, f1, f2, q⟩
/-! ### find -/
def rFind : Str → V → Hp → VK → Prop := fun z y H Q => uS y fun q => Q (.int (PySem.Txt.find z q)) H
theorem rFind_s {z q : Str} {H : Hp} {Q : VK} : rFind z (.str q) H Q = Q (.int (PySem.Txt.find z q)) H := uS_s
end
end L2
set_option Elab.async false
set_option linter.all false
set_option maxRecDepth 100000
set_option maxHeartbeats 4000000
namespace L2
open PySem PySem.Spec PyProof.Rows
section
variable {X : Cx}
/-! ### repr of anything, str of a truth -/
def uStrB : List V → Hp → VK → Prop := fun xs H Q => uStrT xs H Q ∨ ∃ b : Bool, xs = [.bl b] ∧ Q (.str (if b then "True" else "False")) H
theorem uStrB_i {i : Int} {H : Hp} {Q : VK} : uStrB [.int i] H Q = (i.natAbs.log2 < 1920 ∧ Q (.str (toString i)) H) := by simp [uStrB, uStrT_i]
theorem uStrB_s {z : Str} {H : Hp} {Q : VK} : uStrB [.str z] H Q = Q (.str z) H := by simp [uStrB, uStrT_s]
theorem uStrB_b {b : Bool} {H : Hp} {Q : VK} : uStrB [.bl b] H Q = Q (.str (if b then "True" else "False")) H := by simp [uStrB, uStrT, uStr]
end
end L2
set_option Elab.async false
set_option linter.all false
set_option maxRecDepth 100000
set_option maxHeartbeats 4000000
namespace L2
open PySem PySem.Spec PyProof.Rows
/-! ### x = [a comprehension], x a local name: the store is exchanged with the letting go -/
end L2
set_option Elab.async false
set_option linter.all false
set_option maxRecDepth 100000
set_option maxHeartbeats 4000000
namespace L2
open PySem PySem.Spec PyProof.Rows
/-! ### lists of pairs as tables -/
section
variable {κ : Type} [DecidableEq κ]
def valV (kvs : List (κ × V)) (k : κ) : Option V := (kvs.find? fun kv => decide (kv.1 = k)).map (·.2)
/-- in its place, or at the end -/
def putK (kvs : List (κ × V)) (k : κ) (v : V) : List (κ × V) :=
  if (kvs.any fun kv => decide (kv.1 = k)) = true then kvs.map (fun kv => if kv.1 = k then (kv.1, v) else kv) else kvs ++ [(k, v)]
def dropK (kvs : List (κ × V)) (k : κ) : List (κ × V) := kvs.filter fun kv => decide (kv.1 ≠ k)

theorem valV_pos {p : κ × V} {r : List (κ × V)} {k : κ} (e : p.1 = k) : valV (p :: r) k = some p.2 := by simp [valV, List.find?_cons, e]
theorem valV_neg {p : κ × V} {r : List (κ × V)} {k : κ} (e : ¬ p.1 = k) : valV (p :: r) k = valV r k := by simp [valV, List.find?_cons, e]
theorem valV_any (k : κ) : ∀ kvs : List (κ × V), (kvs.any fun kv => decide (kv.1 = k)) = (valV kvs k).isSome
  | [] => rfl
  | p :: r => by
    rw [List.any_cons]
    by_cases e : p.1 = k
    · simp only [valV_pos e, decide_eq_true e, Bool.true_or, Option.isSome_some]
    · rw [valV_neg e, decide_eq_false e, Bool.false_or]; exact valV_any k r
theorem length_putK (kvs : List (κ × V)) (k : κ) (v : V) : (putK kvs k v).length ≤ kvs.length + 1 := by
  unfold putK
  split
  · rw [List.length_map]; omega
  · rw [List.length_append, List.length_cons, List.length_nil]; omega
theorem RelO.isSome_eq {o : Option V} {u : Option Value} (r : RelO o u) : o.isSome = u.isSome := by
  cases o with
  | none => cases u with
    | none => rfl
    | some _ => exact (show False from r).elim
  | some _ => cases u with
    | none => exact (show False from r).elim
    | some _ => rfl
theorem RelO.getD {o : Option V} {u : Option Value} {d : V} {d' : Value} (r : RelO o u) (rd : RelV d d') : RelV (o.getD d) (u.getD d') := by
  cases o with
  | none => cases u with
    | none => exact rd
    | some _ => exact (show False from r).elim
  | some _ => cases u with
    | none => exact (show False from r).elim
    | some _ => exact r

/-- raw tables of the same keys -/
theorem KV.val {kvs : List (κ × V)} {vs : List (κ × Value)} (r : KV kvs vs) (k : κ) : RelO (valV kvs k) (valueAt vs k) := by
  unfold KV at r
  induction r with
  | nil => exact True.intro
  | @cons p q ps qs h t ih =>
    obtain ⟨h1, h2⟩ := h
    by_cases e : p.1 = k
    · have e' : q.1 = k := h1.symm.trans e
      have b : valueAt (q :: qs) k = some q.2 := by simp [valueAt, List.find?_cons, e']
      rw [valV_pos e, b]; exact h2
    · have e' : ¬ q.1 = k := fun z => e (h1.trans z)
      have b : valueAt (q :: qs) k = valueAt qs k := by simp [valueAt, List.find?_cons, e']
      rw [valV_neg e, b]; exact ih
theorem KV.any {kvs : List (κ × V)} {vs : List (κ × Value)} (r : KV kvs vs) (k : κ) : (kvs.any fun kv => decide (kv.1 = k)) = vs.any fun kv => decide (kv.1 = k) := by
  unfold KV at r
  induction r with
  | nil => rfl
  | cons h t ih => rw [List.any_cons, List.any_cons, ih, h.1]
theorem KV.repl {kvs : List (κ × V)} {vs : List (κ × Value)} (r : KV kvs vs) (k : κ) {y : V} {u : Value} (ry : RelV y u) :
    KV (kvs.map fun kv => if kv.1 = k then (kv.1, y) else kv) (vs.map fun kv => if kv.1 = k then (kv.1, u) else kv) := by
  unfold KV at r ⊢
  induction r with
  | nil => exact .nil
  | @cons p q ps qs h t ih =>
    rw [List.map_cons, List.map_cons]
    refine .cons ?_ ih
    obtain ⟨h1, h2⟩ := h
    by_cases e : p.1 = k
    · rw [if_pos e, if_pos (h1.symm.trans e)]; exact ⟨h1, ry⟩
    · rw [if_neg e, if_neg (fun z => e (h1.trans z))]; exact ⟨h1, h2⟩
theorem KV.put {kvs : List (κ × V)} {vs : List (κ × Value)} (r : KV kvs vs) (k : κ) {y : V} {u : Value} (ry : RelV y u) : KV (putK kvs k y) (stored vs k u) := by
  unfold putK stored
  rw [r.any k]
  by_cases e : (vs.any fun kv => decide (kv.1 = k)) = true
  · rw [if_pos e, if_pos e]; exact r.repl k ry
  · rw [if_neg e, if_neg e]; exact Paired.snoc r ⟨rfl, ry⟩
theorem KV.drop {kvs : List (κ × V)} {vs : List (κ × Value)} (r : KV kvs vs) (k : κ) : KV (dropK kvs k) (without vs k) := by
  unfold KV at r ⊢
  unfold dropK without
  induction r with
  | nil => exact .nil
  | @cons p q ps qs h t ih =>
    obtain ⟨h1, h2⟩ := h
    rw [List.filter_cons, List.filter_cons]
    by_cases e : p.1 = k
    · have a : ¬ decide (p.1 ≠ k) = true := by simp [e]
      have b : ¬ decide (q.1 ≠ k) = true := by simp [h1.symm.trans e]
      rw [if_neg a, if_neg b]; exact ih
    · have e' : ¬ q.1 = k := fun z => e (h1.trans z)
      have a : decide (p.1 ≠ k) = true := by simp [e]
      have b : decide (q.1 ≠ k) = true := by simp [e']
      rw [if_pos a, if_pos b]; exact .cons ⟨h1, h2⟩ ih
theorem KV.keys {kvs : List (κ × V)} {vs : List (κ × Value)} (r : KV kvs vs) : kvs.map (·.1) = vs.map (·.1) := by
  unfold KV at r
  induction r with
  | nil => rfl
  | cons h t ih => rw [List.map_cons, List.map_cons, ih, h.1]
theorem KV.length {kvs : List (κ × V)} {vs : List (κ × Value)} (r : KV kvs vs) : kvs.length = vs.length := Paired.length r
theorem dropK_le (kvs : List (κ × V)) (k : κ) : (dropK kvs k).length ≤ kvs.length := List.length_filter_le _ _
end


/-! ### a tracked dict, its keys ints and texts or tuples of these -/
theorem kV_is {P : Program} {w : World} {k : Key} {u : Value} (r : RelV (kV k) u) : (mixKind P w).is k u = true := by
  cases k with
  | inl i => obtain ⟨t, e⟩ := (show ∃ t, u = Value.int i t from r); subst e; exact mixKind_int P w i t
  | inr x => obtain ⟨t, e⟩ := (show ∃ t, u = Value.str x t from r); subst e; exact mixKind_str P w x t
theorem items_are {P : Program} {w : World} : ∀ {ks : List Key} {us : List Value}, Vals (ks.map kV) us → ItemsAre (mixKind P w) ks us
  | [], _, r => by rw [List.map_nil] at r; cases r; exact .nil
  | k :: ks, _, r => by
    rw [List.map_cons] at r
    cases r with
    | cons h t => exact .cons (kV_is h) (items_are t)

/-- raw entries of a dict with tuple keys -/
abbrev KT (H : Hp) : List (List Key × V) → List (List Key × Addr × Value) → Prop := Paired fun p q => p.1 = q.1 ∧ H q.2.1 = some (.tup (p.1.map kV)) ∧ RelV p.2 q.2.2
theorem KT.val {H : Hp} {kvs : List (List Key × V)} {xs : List (List Key × Addr × Value)} (r : KT H kvs xs) (k : List Key) : RelO (valV kvs k) ((atKey xs k).map (·.2)) := by
  induction r with
  | nil => exact True.intro
  | @cons p q ps qs h t ih =>
    obtain ⟨h1, _, h2⟩ := h
    by_cases e : p.1 = k
    · have e' : q.1 = k := h1.symm.trans e
      have b : atKey (q :: qs) k = some q.2 := by simp [atKey, List.find?_cons, e']
      rw [valV_pos e, b]; exact h2
    · have e' : ¬ q.1 = k := fun z => e (h1.trans z)
      have b : atKey (q :: qs) k = atKey qs k := by simp [atKey, List.find?_cons, e']
      rw [valV_neg e, b]; exact ih
theorem KT.repl {H : Hp} {kvs : List (List Key × V)} {xs : List (List Key × Addr × Value)} (r : KT H kvs xs) (k : List Key) {y : V} {u : Value} (ry : RelV y u) :
    KT H (kvs.map fun kv => if kv.1 = k then (kv.1, y) else kv) (xs.map (putAt k u)) := by
  induction r with
  | nil => exact .nil
  | @cons p q ps qs h t ih =>
    rw [List.map_cons, List.map_cons]
    refine .cons ?_ ih
    obtain ⟨h1, h2, h3⟩ := h
    unfold putAt
    by_cases e : p.1 = k
    · rw [if_pos e, if_pos (h1.symm.trans e)]; exact ⟨h1, h2, ry⟩
    · rw [if_neg e, if_neg (fun z => e (h1.trans z))]; exact ⟨h1, h2, h3⟩
theorem KT.put {H : Hp} {kvs : List (List Key × V)} {xs : List (List Key × Addr × Value)} (r : KT H kvs xs) (k : List Key) {b : Addr} {y : V} {u : Value} (hb : H b = some (.tup (k.map kV))) (ry : RelV y u) :
    KT H (putK kvs k y) (storedH xs k b u) := by
  have e : (kvs.any fun kv => decide (kv.1 = k)) = (atKey xs k).isSome := by
    rw [valV_any, (r.val k).isSome_eq, Option.isSome_map]
  unfold putK storedH
  rw [e]
  by_cases q : (atKey xs k).isSome = true
  · rw [if_pos q, if_pos q]; exact r.repl k ry
  · rw [if_neg q, if_neg q]; exact Paired.snoc r ⟨rfl, hb, ry⟩
theorem KT.keeps {H H' : Hp} {kvs : List (List Key × V)} {xs : List (List Key × Addr × Value)} (r : KT H kvs xs) (ht : ∀ b ys, H b = some (.tup ys) → H' b = some (.tup ys)) : KT H' kvs xs :=
  Paired.mapP r fun _ _ z => ⟨z.1, ht _ _ z.2.1, z.2.2⟩

section
variable {P : Program} {w : World} {H : Hp} {h : Heap} {a : Addr}
theorem rd_of {u : HO} (ok : HOk P w H h) (e : Rd H a u) : ObjOk P w H h a u := e.ok ok
theorem dk_rd {kvs : List (Key × V)} (ok : HOk P w H h) (e : Rd H a (.dK kvs)) : kvs.length ≤ sizeLine ∧ (a == sysModules) = false ∧ ∃ vs, KV kvs vs ∧ h.DictOf (mixKind P w) a vs :=
  show ObjOk P w H h a (.dK kvs) from rd_of ok e
theorem dk_of {kvs : List (Key × V)} (ok : HOk P w H h) (e : H a = some (.dK kvs)) : kvs.length ≤ sizeLine ∧ (a == sysModules) = false ∧ ∃ vs, KV kvs vs ∧ h.DictOf (mixKind P w) a vs := dk_rd ok (.inl e)
/-- a tracked tuple of ints and texts is a key -/
theorem key_of {ks : List Key} (ok : HOk P w H h) (e : H a = some (.tup (ks.map kV))) : (tupleKind (mixKind P w)).is h ks a := by
  obtain ⟨_, its, r, o, h1, h2, n, h3⟩ := (show ObjOk P w H h a (.tup (ks.map kV)) from ok a _ e)
  exact ⟨o, its.toArray, n, h1, h2, h3, by simpa using items_are r⟩
theorem dt_rd {kvs : List (List Key × V)} (ok : HOk P w H h) (e : Rd H a (.dT kvs)) : kvs.length ≤ sizeLine ∧ (a == sysModules) = false ∧
    ∃ xs, KT H kvs xs ∧ h.DictOfH (tupleKind (mixKind P w)) a xs := by
  obtain ⟨z, y, xs, r, o, es, ep, h1, h2, h3, h4, h5⟩ := (show ObjOk P w H h a (.dT kvs) from rd_of ok e)
  refine ⟨z, y, xs, r, o, es, ep, h1, h2, h3, h4, fun x hx => ?_, h5⟩
  have all : ∀ {l : List (List Key × V)} {m : List (List Key × Addr × Value)}, KT H l m → ∀ x ∈ m, (tupleKind (mixKind P w)).is h x.1 x.2.1 := by
    intro l m q
    induction q with
    | nil => intro x hx; exact nomatch hx
    | @cons p q ps qs hq t ih =>
      intro x hx
      rcases List.mem_cons.mp hx with e | hx
      · subst e
        exact key_of ok (by rw [← hq.1]; exact hq.2.1)
      · exact ih x hx
  exact all r x hx
theorem dt_of {kvs : List (List Key × V)} (ok : HOk P w H h) (e : H a = some (.dT kvs)) : kvs.length ≤ sizeLine ∧ (a == sysModules) = false ∧
    ∃ xs, KT H kvs xs ∧ h.DictOfH (tupleKind (mixKind P w)) a xs := dt_rd ok (.inl e)
end

/-- what the dict at a holds at the key y -/
def DGet (H : Hp) (a : Addr) (y : V) (r : Option V) : Prop :=
  (∃ kvs k, Rd H a (.dK kvs) ∧ y = kV k ∧ r = valV kvs k) ∨ ∃ kvs k b, Rd H a (.dT kvs) ∧ y = .ref b ∧ H b = some (.tup (k.map kV)) ∧ r = valV kvs k
/-- the heap behind a[y] = v -/
def DPut (H : Hp) (a : Addr) (y v : V) (H' : Hp) : Prop :=
  (∃ kvs k, H a = some (.dK kvs) ∧ y = kV k ∧ kvs.length < sizeLine ∧ H' = upd H a (.dK (putK kvs k v))) ∨
  ∃ kvs k b, H a = some (.dT kvs) ∧ y = .ref b ∧ H b = some (.tup (k.map kV)) ∧ kvs.length < sizeLine ∧ H' = upd H a (.dT (putK kvs k v))
theorem DGet.k {H : Hp} {a : Addr} {kvs : List (Key × V)} {k : Key} (e : H a = some (.dK kvs)) : DGet H a (kV k) (valV kvs k) := .inl ⟨kvs, k, .inl e, rfl, rfl⟩
theorem DGet.t {H : Hp} {a b : Addr} {kvs : List (List Key × V)} {k : List Key} (e : H a = some (.dT kvs)) (eb : H b = some (.tup (k.map kV))) : DGet H a (.ref b) (valV kvs k) := .inr ⟨kvs, k, b, .inl e, rfl, eb, rfl⟩
theorem DPut.k {H : Hp} {a : Addr} {kvs : List (Key × V)} {k : Key} {v : V} (e : H a = some (.dK kvs)) (hl : kvs.length < sizeLine) : DPut H a (kV k) v (upd H a (.dK (putK kvs k v))) := .inl ⟨kvs, k, e, rfl, hl, rfl⟩
theorem DPut.t {H : Hp} {a b : Addr} {kvs : List (List Key × V)} {k : List Key} {v : V} (e : H a = some (.dT kvs)) (eb : H b = some (.tup (k.map kV))) (hl : kvs.length < sizeLine) :
    DPut H a (.ref b) v (upd H a (.dT (putK kvs k v))) := .inr ⟨kvs, k, b, e, rfl, eb, hl, rfl⟩


section
variable {X : Cx} {pins : List (Addr × Obj)} {σ : St} {H : Hp} {s : Shared} {a : Addr} {y v : V} {u r : Value} {o : Option V} {A : Around} {E : Value → Shared → Prop}


/-- d[y], there -/
theorem d_getItem {Q : Value → Shared → Prop} (hu : A.units + 1 < cLine) (I : Inv X pins σ H s) (g : DGet H a y (some v)) (ry : RelV y u) (h : ∀ w' s', Inv X pins σ H s' → RelV v w' → Q w' s') :
    wpAny (model X.prog X.w) A (getItem (.ref a) u) Q E s := by
  rcases g with ⟨kvs, k, e, ey, l⟩ | ⟨kvs, k, b, e, ey, eb, l⟩
  · subst ey
    obtain ⟨z, hd, vs, rel, dd⟩ := dk_rd I.hok e
    obtain ⟨w', hw, rw'⟩ := RelO.some_of (v := v) (o := valueAt vs k) (by rw [l]; exact rel.val k)
    exact wpAny_getItem_of (kV_is ry) dd.mapOf hw (h w' _ (I.tok _) rw')
  · subst ey
    cases (show u = Value.ref b from ry)
    obtain ⟨z, hd, xs, rel, dd⟩ := dt_rd I.hok e
    obtain ⟨w', hw, rw'⟩ := RelO.some_of (v := v) (o := (atKey xs k).map (·.2)) (by rw [l]; exact rel.val k)
    obtain ⟨p, hp, hp2⟩ := Option.map_eq_some_iff.mp hw
    refine wpAny_getItem_heap (tupleKind_room_in1 hu) (key_of I.hok eb) dd hp ?_
    rw [hp2]
    exact h w' _ (I.tok _) rw'
/-- y in d -/
theorem d_in {Q : Value → Shared → Prop} (hu : A.units + 1 < cLine) (I : Inv X pins σ H s) (g : DGet H a y o) (ry : RelV y u) (h : ∀ s', Inv X pins σ H s' → Q (.bool o.isSome) s') :
    wpAny (model X.prog X.w) A (compareOp .In u (.ref a)) Q E s := by
  rcases g with ⟨kvs, k, e, ey, l⟩ | ⟨kvs, k, b, e, ey, eb, l⟩
  · subst ey
    obtain ⟨z, hd, vs, rel, dd⟩ := dk_rd I.hok e
    refine wpAny_in_of (kV_is ry) hd dd.mapOf ?_
    rw [← (rel.val k).isSome_eq, ← l]
    exact h _ (I.tok _)
  · subst ey
    cases (show u = Value.ref b from ry)
    obtain ⟨z, hd, xs, rel, dd⟩ := dt_rd I.hok e
    refine wpAny_in_heap (tupleKind_room_in1 hu) (key_of I.hok eb) hd dd ?_
    have q := (rel.val k).isSome_eq
    rw [Option.isSome_map] at q
    rw [← q, ← l]
    exact h _ (I.tok _)
theorem d_notIn {Q : Value → Shared → Prop} (hu : A.units + 1 < cLine) (I : Inv X pins σ H s) (g : DGet H a y o) (ry : RelV y u) (h : ∀ s', Inv X pins σ H s' → Q (.bool (!o.isSome)) s') :
    wpAny (model X.prog X.w) A (compareOp .NotIn u (.ref a)) Q E s := by
  rcases g with ⟨kvs, k, e, ey, l⟩ | ⟨kvs, k, b, e, ey, eb, l⟩
  · subst ey
    obtain ⟨z, hd, vs, rel, dd⟩ := dk_rd I.hok e
    refine wpAny_notIn_of (kV_is ry) hd dd.mapOf ?_
    rw [← (rel.val k).isSome_eq, ← l]
    exact h _ (I.tok _)
  · subst ey
    cases (show u = Value.ref b from ry)
    obtain ⟨z, hd, xs, rel, dd⟩ := dt_rd I.hok e
    refine wpAny_notIn_heap (tupleKind_room_in1 hu) (key_of I.hok eb) hd dd ?_
    have q := (rel.val k).isSome_eq
    rw [Option.isSome_map] at q
    rw [← q, ← l]
    exact h _ (I.tok _)
/-- a dict's object is replaced -/
theorem d_write {h' : Heap} {t' : Nat} {ob : HO} (I : Inv X pins σ H s) (mu : Mut (H a)) (hs : Heap.SameBut a s.heap h') (he : ∃ q, h'.get? a = some q) (new : ObjOk X.prog X.w (upd H a ob) h' a ob) :
    Inv X pins σ (upd H a ob) { s with heap := h', toks := t' } :=
  I.write (x := a) (e := a) mu (.inl rfl) (fun b q hb z => (hs.2 b hb).trans z) he new
theorem dk_new {P : Program} {w : World} {H' : Hp} {h' : Heap} {kvs : List (Key × V)} {vs : List (Key × Value)} (z : kvs.length ≤ sizeLine) (hd : (a == sysModules) = false) (rel : KV kvs vs) (dd : h'.DictOf (mixKind P w) a vs) :
    ObjOk P w H' h' a (.dK kvs) := ⟨z, hd, vs, rel, dd⟩
/-- d[y] = v -/
theorem d_setItem {H' : Hp} {Q : Unit → Shared → Prop} (hu : A.units + 1 < cLine) (I : Inv X pins σ H s) (g : DPut H a y v H') (ry : RelV y u) (rv : RelV v r) (h : ∀ s', Inv X pins σ H' s' → Q () s') :
    wpAny (model X.prog X.w) A (setItem (.ref a) u r) Q E s := by
  rcases g with ⟨kvs, k, e, ey, l, eH⟩ | ⟨kvs, k, b, e, ey, eb, l, eH⟩
  · subst ey eH
    obtain ⟨z, hd, vs, rel, dd⟩ := dk_of I.hok e
    have hz : vs.length ≤ sizeLine := by rw [← rel.length]; exact z
    have hl : (putK kvs k v).length ≤ sizeLine := by have := length_putK kvs k v; omega
    refine wpAny_setItem_pairs (hsz := hz) (kV_is ry) dd fun h' dd' hs => h _ ?_
    have he : ∃ q, h'.get? a = some q := let ⟨q, _, _, hq, _⟩ := dd'; ⟨q, hq⟩
    exact d_write I (by rw [e]; exact True.intro) hs he (dk_new hl hd (rel.put k rv) dd')
  · subst ey eH
    cases (show u = Value.ref b from ry)
    obtain ⟨z, hd, xs, rel, dd⟩ := dt_of I.hok e
    have hz : xs.length ≤ sizeLine := by rw [← Paired.length rel]; exact z
    have hl : (putK kvs k v).length ≤ sizeLine := by have := length_putK kvs k v; omega
    refine wpAny_setItem_heap (hsz := hz) (tupleKind_room_in1 hu) (key_of I.hok eb) dd fun h' dd' hs => h _ ?_
    obtain ⟨q, es, ep, hq, h2, h3, h4, _, h5⟩ := dd'
    refine d_write I (by rw [e]; exact True.intro) hs ⟨q, hq⟩ ⟨hl, hd, _, (rel.put k eb rv).keeps fun c ys ec => ?_, q, es, ep, hq, h2, h3, h4, h5⟩
    rw [upd_ne (ne_of ec e (fun z => nomatch z))]
    exact ec
end

section
variable {X : Cx} {pins : List (Addr × Obj)} {σ : St} {H : Hp} {s : Shared} {a : Addr} {kvs : List (Key × V)} {k : Key} {u : Value} {A : Around} {E : Value → Shared → Prop}
/-- del d[k] -/
theorem d_delItem {Q : Unit → Shared → Prop} (I : Inv X pins σ H s) (e : H a = some (.dK kvs)) (ry : RelV (kV k) u) (l : (valV kvs k).isSome = true) (h : ∀ s', Inv X pins σ (upd H a (.dK (dropK kvs k))) s' → Q () s') :
    wpAny (model X.prog X.w) A (delItem (.ref a) u) Q E s := by
  obtain ⟨z, hd, vs, rel, dd⟩ := dk_of I.hok e
  refine wpAny_delItem_slot dd.typeIs (by decide) PySem.F.slot_dict_delitem
    (call_meetsIn PySem.F.slot_dict_delitem dd.typeIs PySem.F.entry_dict_delitem (PySem.F.args_dict_delitem_2 _ _) (meets_dict_delitem_pairs (mixKind X.prog X.w) a (kV_is ry)) ⟨vs, dd, by rw [← rel.length]; exact z, by rw [← (rel.val k).isSome_eq]; exact l, fun h' dd' hs => h _ ?_⟩)
  have he : ∃ q, h'.get? a = some q := let ⟨q, _, _, hq, _⟩ := dd'; ⟨q, hq⟩
  exact d_write I (by rw [e]; exact True.intro) hs he (dk_new (Nat.le_trans (dropK_le kvs k) z) hd (rel.drop k) dd')
/-- len(d) -/
theorem d_len {Q : Value → Shared → Prop} (I : Inv X pins σ H s) (e : Rd H a (.dK kvs)) (h : ∀ t s', Inv X pins σ H s' → Q (.int kvs.length t) s') : wpAny (model X.prog X.w) A (call (.builtin "len") [.ref a]) Q E s := by
  obtain ⟨z, hd, vs, rel, dd⟩ := dk_rd I.hok e
  refine call_len_dict hd dd (by rw [← rel.length]; rw [sizeLine_eq] at z; omega) ?_
  rw [← rel.length]
  exact h _ _ (I.tok _)
end


/-! ### readings and rules -/
theorem dict_typeIs {X : Cx} {pins : List (Addr × Obj)} {σ : St} {H : Hp} {s : Shared} {a : Addr} {y : V} {o : Option V} (I : Inv X pins σ H s) (g : DGet H a y o) : s.TypeIs (.ref a) "dict" := by
  rcases g with ⟨kvs, k, e, _, _⟩ | ⟨kvs, k, b, e, _, _, _⟩
  · obtain ⟨_, _, vs, _, dd⟩ := dk_rd I.hok e
    exact dd.typeIs
  · obtain ⟨_, _, xs, _, dd⟩ := dt_rd I.hok e
    exact dd.typeIs
section
variable {X : Cx} {o i e value : Expr} {pos pos' tpos : Pos} {td ty tv : TE}
end


/-! ### displays -/
section
variable {X : Cx} {pos : Pos}
end

/-! ### methods -/
structure M2 (X : Cx) (o : Expr) (m : Str) (apos : Pos) (e f : Expr) (cpos : Pos) : Prop where
  base : attributeBase o m X.env (eval o X.env) = eval o X.env
  few : ((backTo cpos (starEach [e, f] X.env)).all (fun x => !x.1) && (backToKw cpos (keywordEach [] X.env)).all (fun x => x.1.isSome)
    && decide (([e, f] : List Expr).length + ([] : List Keyword).length + (if ([] : List Keyword).isEmpty then 0 else 1) < 30)) = true
  line : (apos.endLine == cpos.line) = true
  trees : backTo cpos (starEach [e, f] X.env) = [(false, eval e X.env), (false, eval f X.env)]

/-- a is a dict, whatever its keys -/
def IsD (H : Hp) (a : Addr) : Prop := (∃ kvs, Rd H a (.dK kvs)) ∨ ∃ kvs, Rd H a (.dT kvs)
theorem isD_at {X : Cx} {pins : List (Addr × Obj)} {σ : St} {H : Hp} {s : Shared} {a : Addr} (I : Inv X pins σ H s) (d : IsD H a) :
    s.TypeIs (.ref a) "dict" ∧ (∀ b, Value.ref a = .ref b → ∃ ob, s.heap.get? b = some ob ∧ ob.dict = none) ∧ (a == sysModules) = false := by
  rcases d with ⟨kvs, e⟩ | ⟨kvs, e⟩
  · obtain ⟨_, hd, vs, _, dd⟩ := dk_rd I.hok e
    refine ⟨dd.typeIs, fun b q => ?_, hd⟩
    cases q
    obtain ⟨ob, _, _, h1, h2, _⟩ := dd
    exact ⟨ob, h1, h2.2.1⟩
  · obtain ⟨_, hd, xs, _, dd⟩ := dt_rd I.hok e
    refine ⟨dd.typeIs, fun b q => ?_, hd⟩
    cases q
    obtain ⟨ob, _, _, h1, h2, _⟩ := dd
    exact ⟨ob, h1, h2.2.1⟩

section
variable {X : Cx} {pins : List (Addr × Obj)} {σ : St} {H : Hp} {s : Shared} {a : Addr} {y d : V} {u r : Value} {o : Option V} {A : Around} {E : Value → Shared → Prop}
/-- d.get(y, x) -/
theorem d_get2 {Q : Value → Shared → Prop} (hu : A.units + 1 < cLine) (I : Inv X pins σ H s) (g : DGet H a y o) (ry : RelV y u) (rd : RelV d r) (h : ∀ w' s', Inv X pins σ H s' → RelV (o.getD d) w' → Q w' s') :
    wpAny (model X.prog X.w) A (call (.builtin "dict.get") [.ref a, u, r]) Q E s := by
  rcases g with ⟨kvs, k, e, ey, l⟩ | ⟨kvs, k, b, e, ey, eb, l⟩
  · subst ey
    obtain ⟨z, hd, vs, rel, dd⟩ := dk_rd I.hok e
    refine call_meetsIn PySem.F.slot_dict_get dd.typeIs PySem.F.entry_dict_get (PySem.F.args_dict_get_3 _ _ _) (meets_dict_get_default (mixKind X.prog X.w) a (kV_is ry) hd r) ⟨_, dd.mapOf, h _ _ (I.tok _) ?_⟩
    rw [l]
    exact (rel.val k).getD rd
  · subst ey
    cases (show u = Value.ref b from ry)
    obtain ⟨z, hd, xs, rel, dd⟩ := dt_rd I.hok e
    refine call_meetsIn PySem.F.slot_dict_get dd.typeIs PySem.F.entry_dict_get (PySem.F.args_dict_get_3 _ _ _) (meetsH_dict_get_default (tupleKind (mixKind X.prog X.w)) a b hd r) ⟨tupleKind_room_in1 hu, k, xs, key_of I.hok eb, dd, h _ _ (I.tok _) ?_⟩
    rw [l]
    exact (rel.val k).getD rd
end

section
variable {X : Cx} {o e f : Expr} {apos cpos : Pos} {td ty tx : TE}
end

/-! ### dict(d): a copy -/
section
variable {X : Cx} {pins : List (Addr × Obj)} {σ : St} {H : Hp} {s : Shared} {a : Addr} {kvs : List (Key × V)} {A : Around} {E : Value → Shared → Prop}
theorem d_copyOf {Q : Value → Shared → Prop} (I : Inv X pins σ H s) (e : Rd H a (.dK kvs)) (h : ∀ p s', H p = none → Inv X pins σ (upd H p (.dK kvs)) s' → Q (.ref p) s') : wpAny (model X.prog X.w) A (call (.type "dict") [.ref a]) Q E s := by
  obtain ⟨z, hd, vs, rel, dd⟩ := dk_rd I.hok e
  refine kt_call_dict hd dd (by rw [← rel.length]; exact z) fun h' dd' hs => ?_
  refine h _ _ (I.hok.fresh (Nat.le_refl _)) (I.laid (a := s.heap.objs.size) (o := .dK kvs) (t' := s.toks) (fun b q hq => ?_) (Nat.le_refl _) (dk_new z (beq_eq_false_iff_ne.mpr (Ne.symm (Nat.ne_of_lt I.big))) rel dd'))
  exact (hs.2 b (Nat.ne_of_lt (Heap.lt_size hq))).trans (Heap.get?_push_of_some _ hq)
end


section
variable {X : Cx} {pins : List (Addr × Obj)} {σ : St} {H : Hp} {s : Shared} {a : Addr} {y : V} {u : Value} {A : Around} {E : Value → Shared → Prop}
end
section
variable {X : Cx}
end
section
variable {κ : Type} [DecidableEq κ]
theorem dropK_pos {p : κ × V} {r : List (κ × V)} {k : κ} (e : p.1 = k) : dropK (p :: r) k = dropK r k := by
  unfold dropK
  rw [List.filter_cons, if_neg (by simp [e])]
theorem dropK_neg {p : κ × V} {r : List (κ × V)} {k : κ} (e : ¬ p.1 = k) : dropK (p :: r) k = p :: dropK r k := by
  unfold dropK
  rw [List.filter_cons, if_pos (by simp [e])]
end
end L2
set_option Elab.async false
set_option linter.all false
set_option maxRecDepth 100000
set_option maxHeartbeats 4000000
namespace L2
open PySem PySem.Spec PyProof.Rows
/-! ### a dict is held still while it is walked -/
section
variable {X : Cx} {pins : List (Addr × Obj)} {σ : St} {H : Hp} {s : Shared} {a : Addr} {o : Obj} {kvs : List (Key × V)}
theorem Inv.swap {o1 o2 : HO} (I : Inv X pins σ H s) (e : H a = some o1) (h1 : ∀ x, o1 ≠ .own x) (h2 : ∀ xs, o1 ≠ .tup xs) (h3 : ∀ ob, o1 ≠ .frz ob (.own 0)) (h4 : ∀ ps, o1 ≠ .tbl ps) (h5 : ∀ ob u, X.H₀ a ≠ some (.frz ob u))
    (new : ∀ H', ObjOk X.prog X.w H' s.heap a o2) : Inv X pins σ (upd H a o2) s := by
  have ne : ∀ b, H b = none → b ≠ a := fun b n z => by subst z; rw [e] at n; cases n
  have kn : ∀ b, H b = none → upd H a o2 b = none := fun b n => by rw [upd_ne (ne b n)]; exact n
  refine ⟨I.ok, I.os, I.bare, ⟨I.base.keep, I.base.slot, fun b ob q n hx => kn b (I.base.free b ob q n hx), I.base.there, fun b xs q => ?_, fun b ob u q => ?_, fun b ps q => ?_⟩, I.loc, I.cell, kn _ I.free, fun x c q => kn c (I.freeC x c q), fun p hp => ?_, fun b u q => ?_, I.len, ?_⟩
  · have z := I.base.tups b xs q
    rw [upd_ne (fun y => by subst y; rw [e] at z; cases z; exact h2 _ rfl)]; exact z
  · by_cases hb : b = a
    · subst hb; exact absurd q (h5 ob u)
    · rw [upd_ne hb]; exact I.base.frzs b ob u q
  · obtain ⟨more, z⟩ := I.base.tbls b ps q
    exact ⟨more, by rw [upd_ne (fun y => by subst y; rw [e] at z; cases z; exact h4 _ rfl)]; exact z⟩
  · obtain ⟨p1, p2, p3⟩ := I.pin p hp
    exact ⟨p1, kn _ p2, p3⟩
  · by_cases hb : b = a
    · subst hb; rw [upd_same] at q; cases q; exact new _
    · rw [upd_ne hb] at q
      exact (I.hok b u q).stay (fun c z _ y => y) (fun c z => by rw [upd_ne (fun y => by subst y; rw [e] at z; cases z; exact h1 _ rfl)]; exact z) (fun c xs z => by rw [upd_ne (fun y => by subst y; rw [e] at z; cases z; exact h2 _ rfl)]; exact z)
  · rcases I.hdk with z | ⟨b, ob, vs, q1, q2, q3⟩
    · exact .inl z
    · exact .inr ⟨b, ob, vs, q1, by rw [upd_ne (fun y => by subst y; rw [e] at q2; cases q2; exact h3 _ rfl)]; exact q2, q3⟩
theorem Inv.freeze (I : Inv X pins σ H s) (e : H a = some (.dK kvs)) : (∀ ob u, X.H₀ a ≠ some (.frz ob u)) ∧ ∃ o, Inv X pins σ (upd H a (.frz o (.dK kvs))) s := by
  have h5 : ∀ ob u, X.H₀ a ≠ some (.frz ob u) := fun ob u q => by
    have z := I.base.frzs a ob u q
    rw [e] at z; cases z
  refine ⟨h5, ?_⟩
  obtain ⟨z, hd, vs, rel, dd⟩ := dk_of I.hok e
  obtain ⟨o, es, ep, ho, r⟩ := id dd
  exact ⟨o, I.swap e (fun _ q => nomatch q) (fun _ q => nomatch q) (fun _ q => nomatch q) (fun _ q => nomatch q) h5 fun H' => ⟨ho, z, hd, vs, rel, dd⟩⟩
theorem Inv.thaw (I : Inv X pins σ H s) (e : H a = some (.frz o (.dK kvs))) (h5 : ∀ ob u, X.H₀ a ≠ some (.frz ob u)) : Inv X pins σ (upd H a (.dK kvs)) s := by
  obtain ⟨ho, z⟩ := I.hok a _ e
  exact I.swap e (fun _ q => nomatch q) (fun _ q => nomatch q) (fun _ q => by injection q with _ q; cases q) (fun _ q => nomatch q) h5 fun H' => z
end
def Thawed (a : Addr) (kvs : List (Key × V)) (H : Hp) (R : Hp → Prop) : Prop := ∃ o, H a = some (.frz o (.dK kvs)) ∧ R (upd H a (.dK kvs))
def Ends.thaw (D : Ends) (a : Addr) (kvs : List (Key × V)) : Ends := ⟨fun σ H => Thawed a kvs H (D.nx σ), fun v H => Thawed a kvs H (D.rt v), fun σ H => Thawed a kvs H (D.bk σ), fun σ H => Thawed a kvs H (D.ct σ)⟩
def tFz (t : TS) : TS := fun D σ H => ∃ a kvs, H a = some (.dK kvs) ∧ ∀ o, t (D.thaw a kvs) σ (upd H a (.frz o (.dK kvs)))
def tFzE (t : TE) : TE := fun σ H Q => ∃ a kvs, H a = some (.dK kvs) ∧ ∀ o, t σ (upd H a (.frz o (.dK kvs))) fun v H' => Thawed a kvs H' (Q v)
theorem ps_fz {X : Cx} {st : Stmt} {t : TS} (h : PS X st t) : PS X st (tFz t) := by
  rintro pins s σ H D I ⟨a, kvs, e, q⟩
  obtain ⟨h5, o, I1⟩ := I.freeze e
  refine thn (h pins s σ _ _ I1 (q o)) fun f s' z => ?_
  cases f with
  | next => obtain ⟨σ', H', I', o', e', d⟩ := z; exact ⟨σ', _, I'.thaw e' h5, d⟩
  | brk => obtain ⟨σ', H', I', o', e', d⟩ := z; exact ⟨σ', _, I'.thaw e' h5, d⟩
  | cont => obtain ⟨σ', H', I', o', e', d⟩ := z; exact ⟨σ', _, I'.thaw e' h5, d⟩
  | ret u => obtain ⟨v, σ', H', I', r, o', e', d⟩ := z; exact ⟨v, σ', _, I'.thaw e' h5, r, d⟩
theorem pe_fz {X : Cx} {e : Expr} {t : TE} (h : PE X e t) : PE X e (tFzE t) := by
  rintro pins s σ H Q I ⟨a, kvs, e, q⟩
  obtain ⟨h5, o, I1⟩ := I.freeze e
  refine thn (h pins s σ _ _ I1 (q o)) fun u s' z => ?_
  obtain ⟨v, H', I', r, o', e', d⟩ := z
  exact ⟨v, _, I'.thaw e' h5, r, d⟩
/-! ### its keys, its values, one by one -/
theorem KV.at {kvs : List (Key × V)} {vs : List (Key × Value)} (r : KV kvs vs) : ∀ {i : Nat} {p : Key × V}, kvs[i]? = some p → ∃ u, vs[i]? = some (p.1, u) ∧ RelV p.2 u := by
  induction r with
  | nil => intro i p h; simp at h
  | @cons x y l m r t ih =>
    intro i p h
    cases i with
    | zero =>
      have e : x = p := by simpa using h
      subst e
      exact ⟨y.2, by rw [r.1]; rfl, r.2⟩
    | succ i => exact ih (by simpa using h)
def Itd (a : Addr) (o : Obj) (kvs : List (Key × V)) : It := ⟨fun i H => H a = some (.frz o (.dK kvs)) ∧ i < kvs.length, fun i H x H' => H' = H ∧ ∃ p, kvs[i]? = some p ∧ x = kV p.1, fun i H => H a = some (.frz o (.dK kvs)) ∧ kvs.length ≤ i⟩
def Itw (a : Addr) (o : Obj) (kvs : List (Key × V)) : It := ⟨fun i H => H a = some (.frz o (.dK kvs)) ∧ i < kvs.length, fun i H x H' => H' = H ∧ ∃ p, kvs[i]? = some p ∧ x = p.2, fun i H => H a = some (.frz o (.dK kvs)) ∧ kvs.length ≤ i⟩
theorem frz_at {X : Cx} {pins : List (Addr × Obj)} {σ : St} {H : Hp} {s : Shared} {a : Addr} {o : Obj} {kvs : List (Key × V)} {es : Array DictEntry} {ep : Nat} (I : Inv X pins σ H s) (e : H a = some (.frz o (.dK kvs))) (hd : o.data = .dict es ep) :
    (a == sysModules) = false ∧ ∃ vs, KV kvs vs ∧ s.heap.DictAt (mixKind X.prog X.w) a vs ep ∧ vs.length = kvs.length := by
  obtain ⟨ho, z, hm, vs, rel, o', es', ep', ho', hc, hd', r⟩ := I.hok a _ e
  rw [ho] at ho'
  cases ho'
  rw [hd] at hd'
  cases hd'
  exact ⟨hm, vs, rel, ⟨o, es, ho, hc, hd, r⟩, rel.length.symm⟩
theorem frz_data {X : Cx} {pins : List (Addr × Obj)} {σ : St} {H : Hp} {s : Shared} {a : Addr} {o : Obj} {kvs : List (Key × V)} (I : Inv X pins σ H s) (e : H a = some (.frz o (.dK kvs))) : ∃ es ep, o.data = .dict es ep := by
  obtain ⟨ho, z, hm, vs, rel, o', es', ep', ho', hc, hd', r⟩ := I.hok a _ e
  rw [ho] at ho'
  cases ho'
  exact ⟨_, _, hd'⟩
theorem turn_dict {P : Program} {w : World} {K : PySem.W.Frag} {tg : Expr} (a it : Addr) {o : Obj} {kvs : List (Key × V)} {es : Array DictEntry} {ep : Nat} (hd : o.data = .dict es ep) : Turn true P w K tg (Itd a o kvs) [it] it (fun i h => h.IsKeyIter it a i kvs.length ep) where
  mem := by simp
  obj := fun i h st b hb => by
    have e : b = it := by simpa using hb
    subst e
    obtain ⟨o, e, c, d⟩ := st
    exact ⟨o, e, fun v z => by rw [d] at z; cases z⟩
  keep := fun i h h' st k => st.at fun o e => k it (by simp) o e
  item := by
    intro X hP hw hK hc i pins s σ H E I hf st hg
    subst hP hw hK
    obtain ⟨hq, hi⟩ := hg
    obtain ⟨hm, vs, rel, dd, hl⟩ := frz_at I hq hd
    obtain ⟨p, hp⟩ : ∃ p, kvs[i]? = some p := ⟨kvs[i], by simp [hi]⟩
    obtain ⟨u, hu, ru⟩ := rel.at hp
    obtain ⟨f0, f1, f2, f3, f4, f5⟩ := hf it (by simp)
    rw [← hl] at st
    refine wpAny_pyNext_dict_item st dd hu fun key h' hk st' sb => ?_
    rw [hl] at st'
    have I1 : Inv X pins σ H { s with heap := h' } := I.turned (t' := s.toks) (fun b o hb e => (sb.2 b hb).trans e) f0 f1 f3 f4 f5
    have rk : RelV (kV p.1) key := by
      rcases keyIs_shape (show keyIs p.1 key = true from hk) with ⟨j, t, e1, e2⟩ | ⟨x, t, e1, e2⟩
      · rw [e1, e2]; exact ⟨t, rfl⟩
      · rw [e1, e2]; exact ⟨t, rfl⟩
    obtain ⟨o, e, c, d⟩ := id st'
    exact ⟨key, rfl, go_of (s := { s with heap := h' }) e c d (by decide) ⟨kV p.1, H, I1, rk, ⟨rfl, p, hp, rfl⟩, st', fun b hb => (hf b hb).1⟩⟩
  done := by
    intro X hP hw hK hc i pins s σ H E I hf st hg
    subst hP hw hK
    obtain ⟨hq, hi⟩ := hg
    obtain ⟨hm, vs, rel, dd, hl⟩ := frz_at I hq hd
    obtain ⟨f0, f1, f2, f3, f4, f5⟩ := hf it (by simp)
    rw [← hl] at st
    exact wpAny_pyNext_dict_end (I.ok.hd (hc rfl)) st dd (List.getElem?_eq_none (by omega)) fun h' eb => ⟨rfl, I.turned (t' := s.toks) (fun b o hb e => eb b o hb e) f0 f1 f3 f4 f5⟩
  self := fun _ _ _ _ _ st h => wpAny_pyIter_keyiter st h
section
variable {X : Cx} {tg : Expr}
def iDict (tl : TE) : TI := fun σ H R => tl σ H fun x H1 => ∃ a o kvs, x = .ref a ∧ H1 a = some (.frz o (.dK kvs)) ∧ R (Itd a o kvs) H1
def iVals (tl : TE) : TI := fun σ H R => tl σ H fun x H1 => ∃ a o kvs, x = .ref a ∧ H1 a = some (.frz o (.dK kvs)) ∧ R (Itw a o kvs) H1
theorem pi_dict {l : Expr} {tl : TE} (hl : PE X l tl) : PI X tg l (iDict tl) := by
  intro pins s σ H R I h
  refine thn (hl pins s σ H _ I h) fun v s1 ⟨x, H1, I1, r1, q1⟩ => ?_
  obtain ⟨a, o, kvs, e, hq, q⟩ := q1
  subst e
  cases r1
  obtain ⟨es, ep, hd⟩ := frz_data I1 hq
  obtain ⟨hm, vs, rel, dd, hl⟩ := frz_at I1 hq hd
  refine wpAny_pyIter_dict hm dd ?_
  rw [hl]
  refine ⟨s1.heap.objs.size, [s1.heap.objs.size], _, _, H1, rfl, I1.kept (t' := s1.toks) fun b o e => Heap.get?_push_of_some _ e, turn_dict a _ hd, ⟨_, Heap.get?_push_size _ rfl, rfl, rfl⟩, fun b hb => ?_, q⟩
  have e : b = s1.heap.objs.size := by simpa using hb
  subst e
  exact I1.fpOk (Nat.le_refl _) (I1.hok.fresh (Nat.le_refl _))
end
end L2
set_option Elab.async false
set_option linter.all false
set_option maxRecDepth 100000
set_option maxHeartbeats 4000000
namespace L2
open PySem PySem.Spec PyProof.Rows
/-! ### what may be asked of a list, a tuple, a text or a dict -/
def uK (y : V) (q : Key → Prop) : Prop := ∃ k, y = kV k ∧ q k
theorem uK_s {z : Str} {q : Key → Prop} : uK (.str z) q = q (.inr z) := by
  apply propext; constructor
  · rintro ⟨k, e, h⟩
    cases k with
    | inl i => cases e
    | inr x => cases e; exact h
  · exact fun h => ⟨.inr z, rfl, h⟩
theorem uK_i {i : Int} {q : Key → Prop} : uK (.int i) q = q (.inl i) := by
  apply propext; constructor
  · rintro ⟨k, e, h⟩
    cases k with
    | inl i => cases e; exact h
    | inr x => cases e
  · exact fun h => ⟨.inl i, rfl, h⟩
section
variable {X : Cx}
def rIxD : R2 := fun x y H Q => ∃ a k kvs v, x = .ref a ∧ y = kV k ∧ Rd H a (.dK kvs) ∧ valV kvs k = some v ∧ Q v H
theorem ix_dict (hu : X.A.units + 1 < cLine) : IxR X rIxD := by
  intro value slice pins s σ H x y v u Q I rx ry h hs
  obtain ⟨a, k, kvs, z, rfl, rfl, hq, he, q⟩ := h
  obtain rfl : v = Value.ref a := rx
  have g : DGet H a (kV k) (some z) := .inl ⟨kvs, k, hq, rfl, he.symm⟩
  unfold subscriptTail
  refine wpAny_bind ?_
  rw [getitemInPython_of_ne (dict_typeIs I g).not_modules]
  refine wpAny_bind (wpAny_specialOf (dict_typeIs I g) PySem.F.slot_dict_getitem.lookup ?_)
  have fin : wpAny (model X.prog X.w) X.A (subscripted slice false (.ref a) u) (fun r s₃ => wpAny (model X.prog X.w) X.A (letTemporaryGo value (.ref a) r >>= fun _ => pure r) (EP X pins σ Q) X.xe s₃) X.xe s := by
    rw [hs]
    exact wpAny_operating (d_getItem hu I g ry fun w' s3 I3 rw' => wpAny_bind (wpAny_letTemporaryGo (wpAny_pure ⟨z, H, I3, rw', q⟩)))
  first
    | exact wpAny_pure (wpAny_bind fin)
    | exact wpAny_bind (wpAny_pure (wpAny_bind fin))
    | exact wpAny_bind fin
def uIxD : R2 := fun x y H Q => uIx x y H Q ∨ rIxD x y H Q
theorem uIxD_rs {a : Addr} {z : Str} {H : Hp} {Q : VK} : uIxD (.ref a) (.str z) H Q = ∃ kvs, Rd H a (.dK kvs) ∧ ∃ v, valV kvs (.inr z) = some v ∧ Q v H := by
  apply propext; constructor
  · rintro (h | ⟨a', k, kvs, v, e1, e2, h1, h2, q⟩)
    · rcases h with ⟨_, _, _, _, _, e, _⟩ | ⟨_, _, _, _, _, e, _⟩ | ⟨_, _, _, e, _⟩ <;> cases e
    · cases e1
      cases k with
      | inl i => cases e2
      | inr x => cases e2; exact ⟨kvs, h1, v, h2, q⟩
  · rintro ⟨kvs, h1, v, h2, q⟩
    exact .inr ⟨a, .inr z, kvs, v, rfl, rfl, h1, h2, q⟩
theorem uIxD_ri {a : Addr} {i : Int} {H : Hp} {Q : VK} : uIxD (.ref a) (.int i) H Q = ((∃ xs, (H a = some (.lst xs) ∨ H a = some (.tup xs)) ∧ ∃ v, atI xs i = some v ∧ Q v H) ∨ ∃ kvs, Rd H a (.dK kvs) ∧ ∃ v, valV kvs (.inl i) = some v ∧ Q v H) := by
  apply propext
  unfold uIxD
  rw [uIx_r]
  constructor
  · rintro (h | ⟨a', k, kvs, v, e1, e2, h1, h2, q⟩)
    · exact .inl h
    · cases e1
      cases k with
      | inl i => cases e2; exact .inr ⟨kvs, h1, v, h2, q⟩
      | inr x => cases e2
  · rintro (h | ⟨kvs, h1, v, h2, q⟩)
    · exact .inl h
    · exact .inr ⟨a, .inl i, kvs, v, rfl, rfl, h1, h2, q⟩
theorem uIxD_si {x : Str} {i : Int} {H : Hp} {Q : VK} : uIxD (.str x) (.int i) H Q = (x.length ≤ sizeLine ∧ ∃ c, atI x.cps.toList i = some c ∧ Q (.str ⟨#[c]⟩) H) := by
  rw [← uIx_s]
  apply propext; constructor
  · rintro (h | ⟨a', k, kvs, v, e1, _⟩)
    · exact h
    · cases e1
  · exact .inl
/-- k in d -/
def rInD (c : Bool) : R2 := fun y x H Q => ∃ a k kvs, x = .ref a ∧ y = kV k ∧ Rd H a (.dK kvs) ∧ Q (.bl (if c then !(valV kvs k).isSome else (valV kvs k).isSome)) H
theorem op_in_dict (hu : X.A.units + 1 < cLine) : OpR X (compareOp .In) (rInD false) := by
  intro pins s σ H x y v u Q I rx ry h
  obtain ⟨a, k, kvs, rfl, rfl, hq, q⟩ := h
  obtain rfl : u = Value.ref a := ry
  exact d_in hu I (.inl ⟨kvs, k, hq, rfl, rfl⟩) rx fun s3 I3 => ⟨.bl (valV kvs k).isSome, H, I3, rfl, q⟩
theorem op_nin_dict (hu : X.A.units + 1 < cLine) : OpR X (compareOp .NotIn) (rInD true) := by
  intro pins s σ H x y v u Q I rx ry h
  obtain ⟨a, k, kvs, rfl, rfl, hq, q⟩ := h
  obtain rfl : u = Value.ref a := ry
  exact d_notIn hu I (.inl ⟨kvs, k, hq, rfl, rfl⟩) rx fun s3 I3 => ⟨.bl (!(valV kvs k).isSome), H, I3, rfl, q⟩
def uInD : R2 := fun x y H Q => uIn x y H Q ∨ rInD false x y H Q
theorem uInD_ss {x y : Str} {H : Hp} {Q : VK} : uInD (.str x) (.str y) H Q = Q (.bl (!(Builtin.Str.occurrences y x 0 y.length 1).isEmpty)) H := by
  rw [← uIn_ss (x := x) (y := y) (H := H) (Q := Q)]
  apply propext; constructor
  · rintro (h | ⟨a, k, kvs, e, _⟩)
    · exact h
    · cases e
  · exact .inl
theorem uInD_sr {x : Str} {p : Addr} {H : Hp} {Q : VK} : uInD (.str x) (.ref p) H Q = ((∃ xs, (H p = some (.lst xs) ∨ H p = some (.tup xs)) ∧ xs.all flatV = true ∧ Q (.bl (inV (.str x) xs)) H) ∨ ∃ kvs, Rd H p (.dK kvs) ∧ Q (.bl (valV kvs (.inr x)).isSome) H) := by
  apply propext
  unfold uInD
  rw [uIn_r]
  constructor
  · rintro (⟨xs, h, _, f, q⟩ | ⟨a, k, kvs, e1, e2, h, q⟩)
    · exact .inl ⟨xs, h, f, q⟩
    · cases e1
      cases k with
      | inl i => cases e2
      | inr x => cases e2; exact .inr ⟨kvs, h, q⟩
  · rintro (⟨xs, h, f, q⟩ | ⟨kvs, h, q⟩)
    · exact .inl ⟨xs, h, rfl, f, q⟩
    · exact .inr ⟨p, .inr x, kvs, rfl, rfl, h, q⟩
theorem rInD_sr {c : Bool} {x : Str} {p : Addr} {H : Hp} {Q : VK} : rInD c (.str x) (.ref p) H Q = ∃ kvs, Rd H p (.dK kvs) ∧ Q (.bl (if c then !(valV kvs (.inr x)).isSome else (valV kvs (.inr x)).isSome)) H := by
  apply propext; constructor
  · rintro ⟨a, k, kvs, e1, e2, h, q⟩
    cases e1
    cases k with
    | inl i => cases e2
    | inr x => cases e2; exact ⟨kvs, h, q⟩
  · rintro ⟨kvs, h, q⟩; exact ⟨p, .inr x, kvs, rfl, rfl, h, q⟩
/-- len -/
def uLenD : List V → Hp → VK → Prop := fun xs H Q => uLen xs H Q ∨ ∃ a kvs, xs = [V.ref a] ∧ Rd H a (.dK kvs) ∧ Q (.int kvs.length) H
theorem uLenD_r {a : Addr} {H : Hp} {Q : VK} : uLenD [.ref a] H Q = ((∃ ys, (H a = some (.lst ys) ∨ H a = some (.tup ys)) ∧ Q (.int ys.length) H) ∨ ∃ kvs, Rd H a (.dK kvs) ∧ Q (.int kvs.length) H) := by
  apply propext
  unfold uLenD
  rw [uLen_r]
  constructor
  · rintro (h | ⟨a, kvs, e, h⟩)
    · exact .inl h
    · cases e; exact .inr ⟨kvs, h⟩
  · rintro (h | ⟨kvs, h⟩)
    · exact .inl h
    · exact .inr ⟨a, kvs, rfl, h⟩
theorem uLenD_s {x : Str} {H : Hp} {Q : VK} : uLenD [.str x] H Q = (x.length ≤ sizeLine ∧ Q (.int x.length) H) := by
  rw [← uLen_s]
  apply propext; constructor
  · rintro (h | ⟨a, kvs, e, h⟩)
    · exact h
    · cases e
  · exact .inl
/-- x[y] = v -/
def rSetD : V → V → V → Hp → (Hp → Prop) → Prop := fun o i v H Q => rSetL o i v H Q ∨ ∃ a k kvs, o = .ref a ∧ i = kV k ∧ H a = some (.dK kvs) ∧ kvs.length < sizeLine ∧ Q (upd H a (.dK (putK kvs k v)))
theorem set_D (hu : X.A.units + 1 < cLine) : PSet X rSetD := by
  intro pins s σ H o i v ov iv u Q I ro ri rv h
  rcases h with h | ⟨a, k, kvs, rfl, rfl, e, l, q⟩
  · exact set_list pins s σ H o i v ov iv u Q I ro ri rv h
  · obtain rfl : ov = Value.ref a := ro
    exact d_setItem hu I (.inl ⟨kvs, k, e, rfl, l, rfl⟩) ri rv fun s' I' => ⟨_, I', q⟩
theorem rSetD_rs {a : Addr} {z : Str} {v : V} {H : Hp} {Q : Hp → Prop} : rSetD (.ref a) (.str z) v H Q = ∃ kvs, H a = some (.dK kvs) ∧ kvs.length < sizeLine ∧ Q (upd H a (.dK (putK kvs (.inr z) v))) := by
  apply propext; constructor
  · rintro (⟨_, _, _, _, _, e, _⟩ | ⟨a', k, kvs, e1, e2, h, l, q⟩)
    · cases e
    · cases e1
      cases k with
      | inl i => cases e2
      | inr x => cases e2; exact ⟨kvs, h, l, q⟩
  · rintro ⟨kvs, h, l, q⟩; exact .inr ⟨a, .inr z, kvs, rfl, rfl, h, l, q⟩
theorem rSetD_ri {a : Addr} {i : Int} {v : V} {H : Hp} {Q : Hp → Prop} : rSetD (.ref a) (.int i) v H Q = ((∃ xs j, H a = some (.lst xs) ∧ ixN xs.length i = some j ∧ Q (upd H a (.lst (xs.set j v)))) ∨ ∃ kvs, H a = some (.dK kvs) ∧ kvs.length < sizeLine ∧ Q (upd H a (.dK (putK kvs (.inl i) v)))) := by
  apply propext
  unfold rSetD
  rw [rSetL_r]
  constructor
  · rintro (h | ⟨a', k, kvs, e1, e2, h, l, q⟩)
    · exact .inl h
    · cases e1
      cases k with
      | inl i => cases e2; exact .inr ⟨kvs, h, l, q⟩
      | inr x => cases e2
  · rintro (h | ⟨kvs, h, l, q⟩)
    · exact .inl h
    · exact .inr ⟨a, .inl i, kvs, rfl, rfl, h, l, q⟩
/-- del d[k] -/
def tDel (td ty : TE) : TS := fun D σ H => td σ H fun x H1 => ty σ H1 fun y H2 => uR x fun a => uK y fun k => ∃ kvs, H2 a = some (.dK kvs) ∧ (valV kvs k).isSome = true ∧ D.nx σ (upd H2 a (.dK (dropK kvs k)))
theorem ps_del {o i : Expr} {td ty : TE} {tpos pos : Pos} (ho : PE X o td) (hi : PE X i ty) : PS X (.Delete [.Subscript o i tpos] pos) (tDel td ty) := by
  intro pins s σ H D I h
  refine wpAny_Delete (wpAny_deleteEach_cons (wpAny_delete_Subscript (thn (ho pins s σ H _ I h) fun u s1 ⟨x, H1, I1, rx, q1⟩ => thn (hi pins s1 σ H1 _ I1 q1) fun iv s2 ⟨y, H2, I2, ry, a, ex, k, ey, kvs, e, l, q2⟩ => ?_)))
  subst ex ey
  obtain rfl : u = Value.ref a := rx
  exact d_delItem I2 e ry l fun s3 I3 => wpAny_deleteEach_nil ⟨σ, _, I3, q2⟩
theorem tDel_eq {td ty : TE} {D : Ends} {σ : St} {H : Hp} : tDel td ty D σ H = td σ H fun x H1 => ty σ H1 fun y H2 => uR x fun a => uK y fun k => ∃ kvs, H2 a = some (.dK kvs) ∧ (valV kvs k).isSome = true ∧ D.nx σ (upd H2 a (.dK (dropK kvs k))) := rfl
/-- d.get(k, x) -/
def tGetD (td ty tx : TE) : TE := fun σ H Q => td σ H fun x H1 => uR x fun a => (∃ kvs, Rd H1 a (.dK kvs)) ∧ ty σ H1 fun y H2 => tx σ H2 fun z H3 => uK y fun k => ∃ kvs, Rd H3 a (.dK kvs) ∧ Q ((valV kvs k).getD z) H3
theorem tGetD_eq {td ty tx : TE} {σ : St} {H : Hp} {Q : VK} : tGetD td ty tx σ H Q = td σ H fun x H1 => uR x fun a => (∃ kvs, Rd H1 a (.dK kvs)) ∧ ty σ H1 fun y H2 => tx σ H2 fun z H3 => uK y fun k => ∃ kvs, Rd H3 a (.dK kvs) ∧ Q ((valV kvs k).getD z) H3 := rfl
theorem pe_getD {o e f : Expr} {td ty tx : TE} {apos cpos : Pos} (hu : X.A.units + 1 < cLine) (ho : PE X o td) (he : PE X e ty) (hf : PE X f tx) (m : M2 X o "get" apos e f cpos := by exact ⟨rfl, rfl, rfl, rfl⟩) : PE X (.Call (.Attribute o "get" apos) [e, f] [] cpos) (tGetD td ty tx) := by
  intro pins s σ H Q I h
  refine wpAny_Call_method m.base m.few m.line PySem.F.plainAttrs_dict PySem.F.slot_dict_get PySem.F.type_dict_get (thn (ho pins s σ H _ I h) fun u s1 ⟨x, H1, I1, rx, a, ex, d, q1⟩ => ?_)
  subst ex
  obtain rfl : u = Value.ref a := rx
  obtain ⟨t1, t2, _⟩ := isD_at I1 (.inl d)
  refine ⟨t1, t2, ?_⟩
  rw [m.trees]
  refine Calls.callWith_builtin rfl (Calls.evalArgs_plain (Calls.spliced_cons (thn (he pins s1 σ H1 _ I1 q1) fun iv s2 ⟨y, H2, I2, ry, q2⟩ =>
    Calls.spliced_cons (thn (hf pins s2 σ H2 _ I2 q2) fun fv s3 ⟨z, H3, I3, rz, k, ey, kvs, g, q3⟩ => Calls.spliced_nil ?_))))
  subst ey
  exact d_get2 hu I3 (.inl ⟨kvs, k, g, rfl, rfl⟩) ry rz fun w' s4 I4 rw' => ⟨_, H3, I4, rw', q3⟩
/-- d.pop(k) -/
def tPopD (td ty : TE) : TE := fun σ H Q => td σ H fun x H1 => uR x fun a => (∃ kvs, Rd H1 a (.dK kvs)) ∧ ty σ H1 fun y H2 => uK y fun k => ∃ kvs, H2 a = some (.dK kvs) ∧ ∃ v, valV kvs k = some v ∧ Q v (upd H2 a (.dK (dropK kvs k)))
theorem tPopD_eq {td ty : TE} {σ : St} {H : Hp} {Q : VK} : tPopD td ty σ H Q = td σ H fun x H1 => uR x fun a => (∃ kvs, Rd H1 a (.dK kvs)) ∧ ty σ H1 fun y H2 => uK y fun k => ∃ kvs, H2 a = some (.dK kvs) ∧ ∃ v, valV kvs k = some v ∧ Q v (upd H2 a (.dK (dropK kvs k))) := rfl
end
end L2
set_option Elab.async false
set_option linter.all false
set_option maxRecDepth 100000
set_option maxHeartbeats 4000000
namespace L2
open PySem PySem.Spec PyProof.Rows PySem.W PySem.Calls
/-! ### texts in order -/
def leS (a b : Str) : Prop := ltCps b.cps.toList a.cps.toList = false
theorem leS_anti {a b : Str} (h1 : leS a b) (h2 : leS b a) : a = b := by
  unfold leS at h1 h2
  rw [ltCps_eq] at h1 h2
  exact sg_inj (PyProof.Rows.strKind.total a.cps.toList b.cps.toList h2 h1)
theorem pair_of_sortedS : ∀ {l : List Str}, sortedS l = true → l.Pairwise leS := by
  have key : ∀ (r : List Str) (x : Str), risingS x r = true → (x :: r).Pairwise leS := by
    intro r
    induction r with
    | nil => intro x _; simp
    | cons y r ih =>
      intro x h
      have h' : (!ltCps y.cps.toList x.cps.toList && risingS y r) = true := h
      rw [Bool.and_eq_true, Bool.not_eq_true'] at h'
      have ihy := ih y h'.2
      refine List.pairwise_cons.mpr ⟨fun z hz => ?_, ihy⟩
      rcases List.mem_cons.mp hz with rfl | hz
      · exact h'.1
      · have yz := (List.pairwise_cons.mp ihy).1 z hz
        unfold leS at yz ⊢
        have xy := h'.1
        rw [ltCps_eq] at yz xy ⊢
        exact PyProof.Rows.KeyOrd.kle_trans (O := PyProof.Rows.strKind.toKeyOrd) xy yz
  intro l h
  cases l with
  | nil => exact .nil
  | cons x r => exact key r x h
theorem perm_pair_eq : ∀ {l m : List Str}, l.Perm m → l.Pairwise leS → m.Pairwise leS → l = m
  | [], m, p, _, _ => (List.Perm.nil_eq p)
  | x :: l, [], p, _, _ => absurd p.length_eq (by simp)
  | x :: l, y :: m, p, hl, hm => by
    have e : x = y := by
      have h1 : x ∈ y :: m := p.mem_iff.mp (List.mem_cons_self ..)
      have h2 : y ∈ x :: l := p.mem_iff.mpr (List.mem_cons_self ..)
      rcases List.mem_cons.mp h1 with e | h1
      · exact e
      · rcases List.mem_cons.mp h2 with e | h2
        · exact e.symm
        · exact leS_anti ((List.pairwise_cons.mp hl).1 y h2) ((List.pairwise_cons.mp hm).1 x h1)
    subst e
    rw [perm_pair_eq ((List.perm_cons x).mp p) (List.pairwise_cons.mp hl).2 (List.pairwise_cons.mp hm).2]
open Classical in
noncomputable def sortS (ks : List Str) : List Str := if h : ∃ ss : List Str, ss.Perm ks ∧ sortedS ss = true then h.choose else ks
theorem sortS_is {ks ss : List Str} (p : ss.Perm ks) (h : sortedS ss = true) : ss = sortS ks := by
  have ex : ∃ ss : List Str, ss.Perm ks ∧ sortedS ss = true := ⟨ss, p, h⟩
  unfold sortS
  rw [dif_pos ex]
  exact perm_pair_eq (p.trans ex.choose_spec.1.symm) (pair_of_sortedS h) (pair_of_sortedS ex.choose_spec.2)
section
variable {X : Cx}
/-- dict(x) -/
def uDictOf : List V → Hp → VK → Prop := fun xs H Q => uR1 xs fun a => ∃ kvs, Rd H a (.dK kvs) ∧ ∀ p H2, New H p (.dK kvs) H2 → Q (.ref p) H2
theorem uDictOf_r {a : Addr} {H : Hp} {Q : VK} : uDictOf [.ref a] H Q = ∃ kvs, Rd H a (.dK kvs) ∧ ∀ p H2, New H p (.dK kvs) H2 → Q (.ref p) H2 := uR1_r
theorem call_dictU : CallR X (.type "dict") uDictOf := by
  intro pins s σ H xs us Q I r h
  obtain ⟨a, rfl, kvs, ha, q⟩ := h
  obtain ⟨u, rfl, ru⟩ := vals1 r
  cases ru
  exact d_copyOf I ha fun p s' hn I' => ⟨.ref p, _, I', rfl, q _ _ (.mk' hn)⟩
/-- sorted(d), of a dict whose keys are texts -/
def sk (kvs : List (Str × V)) : List (Key × V) := kvs.map fun p => (.inr p.1, p.2)
def uSortD : List V → Hp → VK → Prop := fun xs H Q => uR1 xs fun a => ∃ kvs : List (Str × V), Rd H a (.dK (sk kvs)) ∧ kvs.length < 64 ∧ ∀ p H2, New H p (.lst ((sortS (kvs.map (·.1))).map V.str)) H2 → Q (.ref p) H2
theorem uSortD_r {a : Addr} {H : Hp} {Q : VK} : uSortD [.ref a] H Q = ∃ kvs : List (Str × V), Rd H a (.dK (sk kvs)) ∧ kvs.length < 64 ∧ ∀ p H2, New H p (.lst ((sortS (kvs.map (·.1))).map V.str)) H2 → Q (.ref p) H2 := uR1_r
theorem strsAt : ∀ {vs : List Value} {ss : List Str}, vs.length = ss.length → (∀ (j : Nat) (v : Value), vs[j]? = some v → ∃ t, v = Value.str (ss.getD j "") t) → StrsAre vs ss
  | [], [], _, _ => .nil
  | [], _ :: _, h, _ => absurd h (by simp)
  | _ :: _, [], h, _ => absurd h (by simp)
  | v :: vs, x :: ss, h, f => by
    obtain ⟨t, e⟩ := f 0 v rfl
    have e' : v = Value.str x t := e
    rw [e']
    exact .cons x t (strsAt (by simpa using h) fun j u hu => f (j + 1) u hu)
theorem vals_strs : ∀ {vs : List Value} {ss : List Str}, StrsAre vs ss → Vals (ss.map V.str) vs
  | _, _, .nil => .nil
  | _, _, .cons x t h => .cons ⟨t, rfl⟩ (vals_strs h)
theorem call_sortD (hc : X.calm = true) : CallR X (.builtin "sorted") uSortD := by
  intro pins s σ H xs us Q I r h
  obtain ⟨a, rfl, kvs, hq, h64, q⟩ := h
  obtain ⟨u, rfl, ru⟩ := vals1 r
  cases ru
  obtain ⟨z, hd, vs, rel, dd⟩ := dk_rd I.hok hq
  obtain ⟨ep, hat⟩ := dd.dictAt
  have hlen : vs.length = kvs.length := by rw [← rel.length]; simp [sk]
  refine call_function_entry kind_sorted plain_sorted entry_sorted (args_sorted1 _) ?_
  unfold Builtin.«sorted»
  refine wpAny_bind (m := checkCount "sorted" 1 1 _) (wpAny_pure ?_)
  refine wpAny_bind (kdu_collect (A := X.A.in1) (kdl_dict (knd := mixKind X.prog X.w) (kvs := vs) (ep := ep) hd) (I.ok.hd hc) hat (by rw [hlen, sizeLine_eq]; omega) fun h' tk acc hk hacc => ?_)
  have hl : acc.toList.length = kvs.length := by rw [Array.length_toList, ← hlen]; exact hacc.1
  have hS : StrsAre acc.toList (kvs.map (·.1)) := strsAt (by rw [hl, List.length_map]) fun j v hv => by
    obtain ⟨k, x, hx, hk⟩ := hacc.2 j v (by rw [← Array.getElem?_toList]; exact hv)
    have hj : j < vs.length := (List.getElem?_eq_some_iff.mp hx).1
    have hj' : j < kvs.length := by omega
    have e2 : (sk kvs)[j]? = some (.inr kvs[j].1, kvs[j].2) := by simp [sk, hj']
    obtain ⟨u', hu', _⟩ := rel.at e2
    rw [hx] at hu'
    cases hu'
    rcases keyIs_shape (show keyIs (Sum.inr kvs[j].1) v = true from hk) with ⟨i, t, e1, e2⟩ | ⟨y, t, e1, e2⟩
    · cases e1
    · cases e1
      exact ⟨t, by rw [e2, List.getD_eq_getElem?_getD, List.getElem?_map, List.getElem?_eq_getElem hj']; rfl⟩
  have I1 : Inv X pins σ H { s with heap := h', toks := tk } := I.kept hk
  refine wpAny_bind (wpAny_newList ?_ (by rw [hl, sizeLine_eq]; omega))
  have hoL : (h'.push (seqObj "list" acc.toList.toArray 0)).get? h'.objs.size = some (seqObj "list" acc.toList.toArray 0) := Heap.get?_push_size _ rfl
  refine wpAny_bind (wpAny_holding (wpAny_call_entry slot_list_sort ⟨_, hoL, rfl⟩ entry_list_sort (list_sort_treeK strKind_oneLt hoL hS.keysOf (fun v₁ v₂ rest e => keyKind_strs (by rw [← e]; exact hS)) (by rw [hl]; exact h64) fun st' a1 a2 => ⟨_, rfl, ?_⟩) (args_list_sort _)))
  obtain ⟨ss', b1, b2, b3⟩ := sorted_out_str hS a1 a2
  have e3 := sortS_is b2 b3
  subst e3
  obtain ⟨c, hcz⟩ := sortedHeap_at (vs := acc.toList) (out := (arrOf st').map (·.2)) hoL
  refine wpAny_pure ⟨_, rfl, .ref h'.objs.size, upd H h'.objs.size (.lst ((sortS (kvs.map (·.1))).map V.str)), I1.laid (a := h'.objs.size) (t' := tk) (fun b o e => ?_) (Nat.le_refl _) ⟨?_, ((arrOf st').map (·.2)).toList, c, vals_strs b1, by rw [Array.toArray_toList]; exact hcz⟩, rfl, q _ _ (.mk' (I1.hok.fresh (Nat.le_refl _)))⟩
  · have hb : b < h'.objs.size := Heap.lt_size e
    rw [sortedHeap_old (Nat.ne_of_lt hb) (by rw [size_push']; exact Nat.lt_succ_of_lt hb)]
    exact Heap.get?_push_of_some _ e
  · have := b2.length_eq
    rw [List.length_map, this, List.length_map, sizeLine_eq]
    omega
/-- d.values() as a thing, list() of it -/
def tVals (to : TE) : TE := fun σ H Q => to σ H fun x H1 => uR x fun a => ∃ kvs, Rd H1 a (.dK kvs) ∧ ∀ v H2, New H1 v (.ext fun h => h.IsValuesView v a) H2 → Q (.ref v) H2
theorem tVals_eq {to : TE} {σ : St} {H : Hp} {Q : VK} : tVals to σ H Q = to σ H fun x H1 => uR x fun a => ∃ kvs, Rd H1 a (.dK kvs) ∧ ∀ v H2, New H1 v (.ext fun h => h.IsValuesView v a) H2 → Q (.ref v) H2 := rfl
def uListV : List V → Hp → VK → Prop := fun xs H Q => uR1 xs fun v => ∃ a kvs, H v = some (.ext fun h => h.IsValuesView v a) ∧ Rd H a (.dK kvs) ∧ ∀ p H2, New H p (.lst (kvs.map (·.2))) H2 → Q (.ref p) H2
theorem uListV_r {v : Addr} {H : Hp} {Q : VK} : uListV [.ref v] H Q = ∃ a kvs, H v = some (.ext fun h => h.IsValuesView v a) ∧ Rd H a (.dK kvs) ∧ ∀ p H2, New H p (.lst (kvs.map (·.2))) H2 → Q (.ref p) H2 := uR1_r
end
end L2
set_option Elab.async false
set_option linter.all false
set_option maxRecDepth 100000
set_option maxHeartbeats 4000000
namespace HT
open PySem PySem.Spec PyProof.Rows PySem.Calls
section
variable {prog : Program} {w : World} {A : Around} {E : Value → Shared → Prop} {s : Shared}
theorem getItem_tuple_whole {t sl : Addr} {items : Array Value} {vl vu : Value} {lo hi : Option Int} {Q : Value → Shared → Prop} (ht : IsTup s.heap t items) (hs : s.heap.IsSliceOf sl vl vu .none) (pl : IsPart vl lo) (pu : IsPart vu hi)
    (h0 : sIx items.size 0 lo = 0) (h1 : sIx items.size items.size hi = items.size)
    (h : Q (.ref t) s) : wpAny (model prog w) A (getItem (.ref t) (.ref sl)) Q E s := by
  obtain ⟨os, hos, hcs, hds⟩ := id hs
  have hTs : s.TypeIs (.ref sl) "slice" := ⟨os, hos, hcs⟩
  unfold getItem
  try with_reducible refine wpAny_holding ?_
  first | refine wpAny_bind (wpAny_pure ?_) | skip
  refine wpAny_bind (wpAny_sequenceKey ht.typeIs (by decide) ?_)
  refine wpAny_bind (wpAny_callSpecial?_slot (name := Str.ofString "__getitem__") ht.typeIs PyProof.Rows.slot_tuple_getitem
    (wpAny_call_entry PyProof.Rows.slot_tuple_getitem ht.typeIs entry_tuple_getitem ?_ (args_tuple_getitem _ _)))
  show wpAny _ _ (Builtin.Tuple.tupleItemsOf (.ref t) >>= _) _ _ s
  refine wpAny_bind (tupleItemsOf_ ht ?_)
  refine wpAny_bind (wpAny_typeOf hTs ?_)
  rw [if_pos (by decide)]
  refine wpAny_bind (sliceApplied_gen hs pl pu ?_)
  have hyes : (((sIx items.size 0 lo : Nat) : Int) == 0 && (1 : Int) == 1 && (sIx items.size items.size hi - sIx items.size 0 lo) == items.size) = true := by
    rw [h0, h1]; simp
  show wpAny _ _ (if (((sIx items.size 0 lo : Nat) : Int) == 0 && (1 : Int) == 1 && (sIx items.size items.size hi - sIx items.size 0 lo) == items.size) = true then _ else _) _ _ s
  rw [if_pos hyes]
  have hex : ∀ {R : Bool → Shared → Prop} {A' : Around} {E' : Value → Shared → Prop}, R true s → wpAny (model prog w) A' (Builtin.Tuple.tupleIsExact (.ref t)) R E' s := fun {R A' E'} hr => by
    unfold Builtin.Tuple.tupleIsExact
    first
      | exact wpAny_bind (wpAny_typeOf ht.typeIs (wpAny_pure hr))
      | exact wpAny_map (wpAny_typeOf ht.typeIs hr)
  refine wpAny_bind (hex ?_)
  first
    | exact wpAny_bind (wpAny_rule (wpAny_bind (wpAny_pure (wpAny_pure ⟨_, rfl, wpAny_pure h⟩))))
    | exact wpAny_bind (wpAny_rule (wpAny_pure ⟨_, rfl, wpAny_pure h⟩))
    | exact wpAny_bind (wpAny_rule (wpAny_bind (wpAny_pure ⟨_, rfl, wpAny_pure h⟩)))
end
end HT
namespace L2
open PySem PySem.Spec PyProof.Rows PySem.W PySem.Calls
section
variable {X : Cx}
/-- x[lo:hi] of lists, texts and tuples; what stands may be an old tuple -/
def uSlT : V → Option Int → Option Int → Hp → VK → Prop := fun x lo hi H Q => uSl x lo hi H Q ∨ ∃ a xs, x = .ref a ∧ H a = some (.tup xs) ∧ ∀ p H2, Same H H2 → H2 p = some (.tup (cutV xs lo hi)) → Q (.ref p) H2
theorem sl_T : SlR X uSlT := by
  intro pins s σ H x v vl vu lo hi sl Q I rx hs pl pu h
  rcases h with h | ⟨a, xs, rfl, hx, q⟩
  · exact sl_U pins s σ H x v vl vu lo hi sl Q I rx hs pl pu h
  · by_cases hw : HT.sIx xs.length 0 lo = 0 ∧ HT.sIx xs.length xs.length hi = xs.length
    · cases rx
      obtain ⟨its, r, ht, hz⟩ := I.tuple (SqT.of hx)
      have hlen : its.toArray.size = xs.length := by rw [List.size_toArray]; exact r.length.symm
      refine ⟨"tuple", _, PyProof.Rows.slot_tuple_getitem.lookup, ht.typeIs, ?_⟩
      refine HT.getItem_tuple_whole ht hs pl pu (by rw [hlen]; exact hw.1) (by rw [hlen]; exact hw.2) ⟨.ref a, H, I, rfl, q a H (Same.refl _) ?_⟩
      rw [hx]
      unfold cutV
      rw [hw.1, hw.2]
      simp
    · exact sl_tup pins s σ H _ v vl vu lo hi sl Q I rx hs pl pu ⟨a, xs, rfl, SqT.of hx, hw, fun p hp => q p _ (New.mk' (o := .tup (cutV xs lo hi)) hp).same upd_same⟩
theorem uSlT_s {z : Str} {lo hi : Option Int} {H : Hp} {Q : VK} : uSlT (.str z) lo hi H Q = (z.length ≤ sizeLine ∧ Q (.str (Txt.slice z lo hi)) H) := by simp [uSlT, uSl_s]
theorem uSlT_r {a : Addr} {lo hi : Option Int} {H : Hp} {Q : VK} : uSlT (.ref a) lo hi H Q = ((∃ xs, H a = some (.lst xs) ∧ ∀ p H2, New H p (.lst (cutV xs lo hi)) H2 → Q (.ref p) H2) ∨ ∃ xs, H a = some (.tup xs) ∧ ∀ p H2, Same H H2 → H2 p = some (.tup (cutV xs lo hi)) → Q (.ref p) H2) := by
  unfold uSlT
  rw [uSl_r]
  apply propext; constructor
  · rintro (h | ⟨a', xs, e, h⟩)
    · exact .inl h
    · cases e; exact .inr ⟨xs, h⟩
  · rintro (h | ⟨xs, h⟩)
    · exact .inl h
    · exact .inr ⟨a, xs, rfl, h⟩
/-- x + y, tuples too -/
def rCatU : R2 := fun x y H Q => ∃ a b xs ys, x = .ref a ∧ y = .ref b ∧ H a = some (.tup xs) ∧ H b = some (.tup ys) ∧ xs.length + ys.length ≤ sizeLine ∧ ∀ p H2, Same H H2 → H2 p = some (.tup (xs ++ ys)) → Q (.ref p) H2
theorem op_catU : OpR X (binaryOp .Add) rCatU := by
  intro pins s σ H x y v u Q I rx ry h
  obtain ⟨a, b, xs, ys, rfl, rfl, ha, hb, hz, q⟩ := h
  by_cases hx : xs = []
  · cases rx
    cases ry
    obtain ⟨its, r1, p1, _⟩ := I.tuple (SqT.of ha)
    obtain ⟨its2, r2, p2, _⟩ := I.tuple (SqT.of hb)
    obtain ⟨⟨cls, dd, data, sl⟩, ho, hc, n, hd⟩ := id p1
    obtain ⟨⟨cls2, dd2, data2, sl2⟩, ho2, hc2, n2, hd2⟩ := id p2
    simp only at hc hd hc2 hd2
    subst hc hd hc2 hd2
    have hi : its = [] := r1.nil_iff.mpr hx
    exact concat_meets ⟨_, ho, rfl⟩ ⟨_, ho2, rfl⟩ noFill_tuple_add seq_tuple_add PySem.F.slot_tuple_add PySem.F.entry_tuple_add (PySem.F.args_tuple_add_2 _ _)
      (tuple_addW0 a b its.toArray its2.toArray n n2 dd dd2 sl sl2 (by simp [hi])) ⟨ho, ho2, ⟨.ref b, H, I, rfl, q b H (Same.refl _) (by rw [hb, hx]; rfl)⟩⟩
  · exact op_catT pins s σ H _ _ v u Q I rx ry ⟨a, b, xs, ys, rfl, rfl, SqT.of ha, SqT.of hb, hx, hz, fun e => q a H (Same.refl _) (by rw [ha, e, List.append_nil]), fun _ p hp => q p _ (New.mk' (o := .tup (xs ++ ys)) hp).same upd_same⟩
def uAddT : R2 := fun x y H Q => uAdd x y H Q ∨ rCatU x y H Q
theorem op_addT : OpR X (binaryOp .Add) uAddT := op_addU.or op_catU
theorem uAddT_ii {i j : Int} {H : Hp} {Q : VK} : uAddT (.int i) (.int j) H Q = Q (.int (i + j)) H := by simp [uAddT, rCatU, uAdd]
theorem uAddT_ss {i j : Str} {H : Hp} {Q : VK} : uAddT (.str i) (.str j) H Q = (i.length + j.length ≤ sizeLine ∧ Q (.str (i ++ j)) H) := by simp [uAddT, rCatU, uAdd]
theorem uAddT_rr {a b : Addr} {H : Hp} {Q : VK} : uAddT (.ref a) (.ref b) H Q = ((∃ xs zs, H a = some (.lst xs) ∧ H b = some (.lst zs) ∧ xs.length + zs.length ≤ sizeLine ∧ ∀ p H2, New H p (.lst (xs ++ zs)) H2 → Q (.ref p) H2) ∨
    ∃ xs ys, H a = some (.tup xs) ∧ H b = some (.tup ys) ∧ xs.length + ys.length ≤ sizeLine ∧ ∀ p H2, Same H H2 → H2 p = some (.tup (xs ++ ys)) → Q (.ref p) H2) := by
  unfold uAddT
  rw [uAdd_rr]
  apply propext; constructor
  · rintro (h | ⟨a', b', xs, ys, e1, e2, h⟩)
    · exact .inl h
    · cases e1; cases e2; exact .inr ⟨xs, ys, h⟩
  · rintro (h | ⟨xs, ys, h⟩)
    · exact .inl h
    · exact .inr ⟨a, b, xs, ys, rfl, rfl, h⟩
/-- divmod by what has fewer than 9000 bits -/
def uDivmod : List V → Hp → VK → Prop := fun xs H Q => ∃ i j, xs = [.int i, .int j] ∧ (0 < j ∧ j < 2 ^ 64) ∧ ∀ p H2, New H p (.tup [.int (i / j), .int (i % j)]) H2 → Q (.ref p) H2
theorem uDivmod_ii {i j : Int} {H : Hp} {Q : VK} : uDivmod [.int i, .int j] H Q = ((0 < j ∧ j < 2 ^ 64) ∧ ∀ p H2, New H p (.tup [.int (i / j), .int (i % j)]) H2 → Q (.ref p) H2) := by
  apply propext; constructor
  · rintro ⟨i', j', e, h⟩; cases e; exact h
  · exact fun h => ⟨i, j, rfl, h⟩
theorem call_divmodU : CallR X (.builtin "divmod") uDivmod := by
  intro pins s σ H xs us Q I r h
  obtain ⟨i, j, rfl, ⟨h1, h2⟩, q⟩ := h
  obtain ⟨u, w', rfl, ⟨t, rfl⟩, ⟨t', rfl⟩⟩ := vals2 r
  have hlog : j.natAbs.log2 < 9000 := by
    have : j.natAbs.log2 < 64 := (Nat.log2_lt (by omega)).mpr (by omega)
    omega
  refine divmod_int (by omega) ?_ (.inl (PyProof.noPylong_of_log2 hlog))
  rw [Int.fdiv_eq_ediv_of_nonneg i (by omega), Int.fmod_eq_emod_of_nonneg i (by omega)]
  have hn : H s.heap.objs.size = none := I.hok.fresh (Nat.le_refl _)
  refine ⟨.ref s.heap.objs.size, _, ?_, rfl, q _ _ (.mk' hn)⟩
  refine I.laid (fun b o e => Heap.get?_push_of_some _ e) (Nat.le_refl _) ⟨by simp only [List.length_cons, List.length_nil]; rw [sizeLine_eq]; decide, [.int (i / j) s.toks, .int (i % j) (s.toks + 1)], .cons ⟨_, rfl⟩ (.cons ⟨_, rfl⟩ .nil), ?_⟩
  exact ⟨_, Heap.get?_push_size s.heap rfl, rfl, 0, rfl⟩
/-- x <= y -/
def uLeT : R2 := fun x y H Q => rI0 (fun i j => .bl (decide (i ≤ j))) x y H Q ∨ ∃ i j, x = .str i ∧ y = .str j ∧ Q (.bl (!decide (j.cps.toList < i.cps.toList))) H
theorem op_leT : OpR X (compareOp .LtE) uLeT := op_le.or (by
  intro pins s σ H x y v u Q I rx ry h
  obtain ⟨i, j, rfl, rfl, q⟩ := h
  obtain ⟨t, rfl⟩ := rx
  obtain ⟨t', rfl⟩ := ry
  exact PySem.P.le_str (fin_bl I q rfl))
theorem uLeT_ii {i j : Int} {H : Hp} {Q : VK} : uLeT (.int i) (.int j) H Q = Q (.bl (decide (i ≤ j))) H := by simp [uLeT, rI0]
theorem uLeT_ss {i j : Str} {H : Hp} {Q : VK} : uLeT (.str i) (.str j) H Q = Q (.bl (!decide (j.cps.toList < i.cps.toList))) H := by simp [uLeT, rI0]
/-- what is never come to -/
def tDead : TS := fun _ _ _ => False
theorem ps_dead {st : Stmt} : PS X st tDead := fun _ _ _ _ _ _ h => h.elim
/-- xs.extend(ys) -/
def uExt (to te : TE) : TE := fun σ H Q => to σ H fun x H1 => uR x fun l => (∃ xs, H1 l = some (.lst xs)) ∧ te σ H1 fun y H2 => uR y fun b => ∃ xs zs, H2 l = some (.lst xs) ∧ H2 b = some (.lst zs) ∧ xs.length + zs.length ≤ sizeLine ∧ Q .non (upd H2 l (.lst (xs ++ zs)))
theorem uExt_eq {to te : TE} {σ : St} {H : Hp} {Q : VK} : uExt to te σ H Q = to σ H fun x H1 => uR x fun l => (∃ xs, H1 l = some (.lst xs)) ∧ te σ H1 fun y H2 => uR y fun b => ∃ xs zs, H2 l = some (.lst xs) ∧ H2 b = some (.lst zs) ∧ xs.length + zs.length ≤ sizeLine ∧ Q .non (upd H2 l (.lst (xs ++ zs))) := rfl
theorem pe_extend {o e : Expr} {to te : TE} {apos cpos : Pos} (ho : PE X o to) (he : PE X e te)
    (hbase : attributeBase o "extend" X.env (eval o X.env) = eval o X.env := by rfl)
    (hline : (apos.endLine == cpos.line) = true := by rfl) (hp : plainE e = true := by rfl) : PE X (.Call (.Attribute o "extend" apos) [e] [] cpos) (uExt to te) := by
  intro pins s σ H Q I h
  have hs : starEach [e] X.env = [(false, eval e X.env)] := star1 hp
  refine wpAny_Call_method_late hbase (by rw [hs]; rfl) hline rfl (thn (ho pins s σ H _ I h) fun v s1 ⟨x, H1, I1, r1, l, ex, ⟨xs, hx⟩, q1⟩ => ?_)
  subst ex
  obtain ⟨h1, h2⟩ := tyV_is (T := "list") I1 r1 (.inl ⟨rfl, xs, SqL.of hx⟩)
  refine ⟨"list", "list.extend", PySem.F.plainAttrs_list, PySem.F.slot_list_extend, PySem.F.type_list_extend, h1, h2, ?_⟩
  rw [hs]
  refine Calls.callWith_builtin rfl (Calls.evalArgs_plain ?_)
  refine Calls.spliced_cons (thn (he pins s1 σ H1 _ I1 q1) fun u s2 ⟨y, H2, I2, r2, b, ey, xs', zs, hl, hb, hz, q⟩ => Calls.spliced_nil ?_)
  subst ey
  exact mt_extend pins s2 σ H2 (.ref l) [.ref b] v [u] Q I2 r1 (.cons r2 .nil) ⟨l, b, xs', zs, rfl, rfl, hl, hb, hz, q⟩
end
section
variable {K : PySem.W.Frag} {g : TG} {tb : TS} {D : Ends} {σ : St} {H : Hp} {tl : TE} {R : It → Hp → Prop} {tt : TT} {te : TE} {Q : VK} {a : Addr} {o : Obj} {kvs : List (Key × V)}
theorem iDict_eq : iDict tl σ H R = tl σ H fun x H1 => uR x fun a => ∃ o kvs, H1 a = some (.frz o (.dK kvs)) ∧ R (Itd a o kvs) H1 := by
  unfold iDict uR
  congr; funext x H1
  apply propext; constructor
  · rintro ⟨a, o, kvs, e, h⟩; exact ⟨a, e, o, kvs, h⟩
  · rintro ⟨a, e, o, kvs, h⟩; exact ⟨a, o, kvs, e, h⟩
theorem iVals_eq : iVals tl σ H R = tl σ H fun x H1 => uR x fun a => ∃ o kvs, H1 a = some (.frz o (.dK kvs)) ∧ R (Itw a o kvs) H1 := by
  unfold iVals uR
  congr; funext x H1
  apply propext; constructor
  · rintro ⟨a, o, kvs, e, h⟩; exact ⟨a, e, o, kvs, h⟩
  · rintro ⟨a, e, o, kvs, h⟩; exact ⟨a, o, kvs, e, h⟩
theorem ForJ.dct (Pv : Nat → St → Hp → Prop) (h0 : Pv 0 σ H) (hl : ∀ i σ H, i ≤ kvs.length → Pv i σ H → H a = some (.frz o (.dK kvs)))
    (hs : ∀ i p σ H, kvs[i]? = some p → Pv i σ H → g (kV p.1) σ H fun σ2 H2 => tb { D with nx := Pv (i + 1), ct := Pv (i + 1), bk := D.nx } σ2 H2) (hd : ∀ σ H, Pv kvs.length σ H → D.nx σ H) : ForJ (Itd a o kvs) g tb D σ H := by
  refine ⟨fun i m σ H => m = kvs.length - i ∧ i ≤ kvs.length ∧ Pv i σ H, ⟨kvs.length, by simp, Nat.zero_le _, h0⟩, ?_⟩
  rintro i m σ H ⟨rfl, hi, p⟩
  have q := hl i σ H hi p
  by_cases hlt : i < kvs.length
  · refine .inr ⟨⟨q, hlt⟩, Pv (i + 1), fun σ' H' p' => ⟨kvs.length - (i + 1), by omega, rfl, hlt, p'⟩, fun x H' y => ?_⟩
    obtain ⟨e, z, hz, ex⟩ := y
    subst e ex
    exact hs i z σ _ hz p
  · have e : i = kvs.length := by omega
    subst e
    exact .inl ⟨⟨q, Nat.le_refl _⟩, hd σ H p⟩
theorem CompJ.dct {τ : St} (Pv : Nat → St → List V → Hp → Prop) (hz : ∀ i τ ys H, Pv i τ ys H → ys.length < sizeLine) (ha : ∀ i τ ys H, Pv i τ ys H → H a = some (.frz o (.dK kvs))) (h0 : Pv 0 τ [] H)
    (hs : ∀ (N : St → List V → Hp → Prop) i p τ ys H, kvs[i]? = some p → Pv i τ ys H → (∀ τ ys H, Pv (i + 1) τ ys H → N τ ys H) → g (kV p.1) τ H fun τ1 H4 => tt τ1 H4 fun ok H5 => CompN N ys τ1 te ok H5) (hd : ∀ τ ys H, Pv kvs.length τ ys H → ∀ D H', New H D (.lst ys) H' → Q (.ref D) H') : CompJ (Itd a o kvs) g tt te τ H Q := by
  refine ⟨fun i m τ ys H => m = kvs.length - i ∧ i ≤ kvs.length ∧ Pv i τ ys H, ⟨kvs.length, by simp, Nat.zero_le _, h0⟩, ?_⟩
  rintro i m τ ys H2 ⟨rfl, hi, p⟩
  refine ⟨hz i τ ys H2 p, ?_⟩
  have q := ha i τ ys H2 p
  by_cases hlt : i < kvs.length
  · refine .inr ⟨⟨q, hlt⟩, fun x H' y => ?_⟩
    obtain ⟨e, z, hz, ex⟩ := y
    subst e ex
    exact hs (fun τ1 ys H => ∃ m', m' < kvs.length - i ∧ m' = kvs.length - (i + 1) ∧ i + 1 ≤ kvs.length ∧ Pv (i + 1) τ1 ys H) i z τ ys _ hz p fun τ1 zs H q => ⟨kvs.length - (i + 1), by omega, rfl, hlt, q⟩
  · have e : i = kvs.length := by omega
    subst e
    exact .inl ⟨⟨q, Nat.le_refl _⟩, fun D hD => hd τ ys H2 p D _ (.mk' hD)⟩
theorem tFz_eq {t : TS} : tFz t D σ H = ∃ a kvs, H a = some (.dK kvs) ∧ ∀ o, t (D.thaw a kvs) σ (upd H a (.frz o (.dK kvs))) := rfl
theorem tFzE_eq {t : TE} : tFzE t σ H Q = ∃ a kvs, H a = some (.dK kvs) ∧ ∀ o, t σ (upd H a (.frz o (.dK kvs))) fun v H' => Thawed a kvs H' (Q v) := rfl
end
end L2
set_option Elab.async false
set_option linter.all false
set_option maxRecDepth 100000
set_option maxHeartbeats 4000000
namespace L2
open PySem PySem.Spec PyProof.Rows
section
variable {X : Cx}
theorem w_pi_dict {tg : Expr} {l : Expr} {tl : TE} (hl : W (PE X l tl)) : W (PI X tg l (iDict tl)) := ⟨pi_dict (hl := hl.h)⟩
theorem w_ps_fz {X : Cx} {st : Stmt} {t : TS} (h : W (PS X st t)) : W (PS X st (tFz t)) := ⟨ps_fz (h := h.h)⟩
theorem w_pe_fz {X : Cx} {e : Expr} {t : TE} (h : W (PE X e t)) : W (PE X e (tFzE t)) := ⟨pe_fz (h := h.h)⟩
theorem w_ps_del {o i : Expr} {td ty : TE} {tpos pos : Pos} (ho : W (PE X o td)) (hi : W (PE X i ty)) : W (PS X (.Delete [.Subscript o i tpos] pos) (tDel td ty)) := ⟨ps_del (ho := ho.h) (hi := hi.h)⟩
theorem w_pe_getD {o e f : Expr} {td ty tx : TE} {apos cpos : Pos} (hu : X.A.units + 1 < cLine) (ho : W (PE X o td)) (he : W (PE X e ty)) (hf : W (PE X f tx)) (m : M2 X o "get" apos e f cpos := by exact ⟨rfl, rfl, rfl, rfl⟩) : W (PE X (.Call (.Attribute o "get" apos) [e, f] [] cpos) (tGetD td ty tx)) := ⟨pe_getD (hu := hu) (ho := ho.h) (he := he.h) (hf := hf.h) (m := m)⟩
theorem w_ps_dead {st : Stmt} : W (PS X st tDead) := ⟨ps_dead ⟩
theorem w_pe_extend {o e : Expr} {to te : TE} {apos cpos : Pos} (ho : W (PE X o to)) (he : W (PE X e te)) (hbase : attributeBase o "extend" X.env (eval o X.env) = eval o X.env := by rfl) (hline : (apos.endLine == cpos.line) = true := by rfl) (hp : plainE e = true := by rfl) : W (PE X (.Call (.Attribute o "extend" apos) [e] [] cpos) (uExt to te)) := ⟨pe_extend (ho := ho.h) (he := he.h) (hbase := hbase) (hline := hline) (hp := hp)⟩
end
end L2
set_option Elab.async false
set_option linter.all false
set_option maxRecDepth 100000
set_option maxHeartbeats 4000000
namespace L2
open PySem PySem.Spec PyProof.Rows
/-! ### tables: lists of names with what they stand for -/
section
variable {α β : Type}
def look (t : List (Str × α)) (n : Str) : Option α := (t.find? fun p => decide (p.1 = n)).map (·.2)
def putA (t : List (Str × α)) (n : Str) (a : α) : List (Str × α) := if (look t n).isSome then t.map fun p => if p.1 = n then (p.1, a) else p else t ++ [(n, a)]
def dropA (t : List (Str × α)) (n : Str) : List (Str × α) := t.filter fun p => !decide (p.1 = n)
def names (t : List (Str × α)) : List Str := t.map (·.1)
theorem look_nil {n : Str} : look ([] : List (Str × α)) n = none := rfl
theorem look_cons {p : Str × α} {t : List (Str × α)} {n : Str} : look (p :: t) n = if p.1 = n then some p.2 else look t n := by
  unfold look
  by_cases h : p.1 = n
  · rw [List.find?_cons_of_pos (by simpa using h), if_pos h]; rfl
  · rw [List.find?_cons_of_neg (by simpa using h), if_neg h]
theorem look_mem {t : List (Str × α)} {n : Str} {a : α} (h : look t n = some a) : (n, a) ∈ t := by
  induction t with
  | nil => cases h
  | cons p t ih =>
    rw [look_cons] at h
    by_cases e : p.1 = n
    · rw [if_pos e] at h
      cases h
      subst e
      exact List.mem_cons_self ..
    · rw [if_neg e] at h
      exact List.mem_cons_of_mem _ (ih h)
theorem look_none {t : List (Str × α)} {n : Str} : look t n = none ↔ n ∉ names t := by
  induction t with
  | nil => simp [look, names]
  | cons p t ih =>
    rw [look_cons]
    by_cases e : p.1 = n
    · rw [if_pos e]; simp [names, e]
    · rw [if_neg e, ih]
      simp [names]
      exact fun _ => fun h => e h.symm
theorem look_of_nd {t : List (Str × α)} (nd : (names t).Nodup) {n : Str} {a : α} (h : (n, a) ∈ t) : look t n = some a := by
  induction t with
  | nil => cases h
  | cons p t ih =>
    rw [look_cons]
    have nd' : p.1 ∉ names t ∧ (names t).Nodup := List.nodup_cons.mp nd
    rcases List.mem_cons.mp h with e | h
    · rw [← e, if_pos rfl]
    · have : p.1 ≠ n := fun e => nd'.1 (by rw [e]; exact List.mem_map_of_mem (f := (·.1)) h)
      rw [if_neg this]
      exact ih nd'.2 h
theorem names_putA {t : List (Str × α)} {n : Str} {a : α} : names (putA t n a) = if (look t n).isSome then names t else names t ++ [n] := by
  unfold putA names
  by_cases h : (look t n).isSome
  · rw [if_pos h, if_pos h, List.map_map]
    refine List.map_congr_left fun p _ => ?_
    show (if p.1 = n then (p.1, a) else p).1 = p.1
    split <;> rfl
  · rw [if_neg h, if_neg h, List.map_append]; rfl
theorem nd_putA {t : List (Str × α)} {n : Str} {a : α} (nd : (names t).Nodup) : (names (putA t n a)).Nodup := by
  rw [names_putA]
  by_cases h : (look t n).isSome
  · rw [if_pos h]; exact nd
  · rw [if_neg h]
    have : look t n = none := by simpa using h
    rw [look_none] at this
    rw [List.nodup_append]
    refine ⟨nd, by simp, fun x hx y hy e => ?_⟩
    have : y = n := by simpa using hy
    subst this
    subst e
    contradiction
theorem nd_dropA {t : List (Str × α)} {n : Str} (nd : (names t).Nodup) : (names (dropA t n)).Nodup := by
  unfold names dropA
  exact nd.sublist (List.Sublist.map _ List.filter_sublist)
theorem look_map_put {t : List (Str × α)} {n m : Str} {a : α} : look (t.map fun p => if p.1 = n then (p.1, a) else p) m = if m = n then (if (look t n).isSome then some a else none) else look t m := by
  induction t with
  | nil => by_cases h : m = n <;> simp [look, h]
  | cons p t ih =>
    rw [List.map_cons, look_cons, ih, look_cons, look_cons]
    by_cases e : p.1 = n
    · rw [if_pos e, if_pos e]
      show (if p.1 = m then some a else _) = _
      by_cases h : m = n
      · rw [if_pos (by rw [e, h]), if_pos h]; rfl
      · rw [if_neg (fun z => h (by rw [← z, e])), if_neg h, if_neg h, if_neg (fun z => h (by rw [← z, e]))]
    · rw [if_neg e, if_neg e]
      by_cases h : m = n
      · rw [if_pos h, if_pos h, if_neg (fun z => e (by rw [z, h]))]
      · rw [if_neg h, if_neg h]
theorem look_append {t u : List (Str × α)} {m : Str} : look (t ++ u) m = (look t m).or (look u m) := by
  induction t with
  | nil => simp [look_nil]
  | cons p t ih =>
    rw [List.cons_append, look_cons, look_cons, ih]
    by_cases h : p.1 = m
    · rw [if_pos h, if_pos h]; rfl
    · rw [if_neg h, if_neg h]
theorem look_putA {t : List (Str × α)} {n m : Str} {a : α} : look (putA t n a) m = if m = n then some a else look t m := by
  unfold putA
  by_cases h : (look t n).isSome
  · rw [if_pos h, look_map_put, if_pos h]
  · rw [if_neg h, look_append, look_cons]
    have hn : look t n = none := by simpa using h
    by_cases e : m = n
    · rw [if_pos e, e, hn, if_pos rfl]; rfl
    · rw [if_neg e, if_neg (fun z => e z.symm), look_nil, Option.or_none]
theorem look_dropA {t : List (Str × α)} {n m : Str} : look (dropA t n) m = if m = n then none else look t m := by
  induction t with
  | nil => by_cases h : m = n <;> simp [look, dropA, h]
  | cons p t ih =>
    by_cases e : p.1 = n
    · have : dropA (p :: t) n = dropA t n := by unfold dropA; rw [List.filter_cons_of_neg (by simpa using e)]
      rw [this, ih, look_cons]
      by_cases h : m = n
      · rw [if_pos h, if_pos h]
      · rw [if_neg h, if_neg h, if_neg (fun z => h (by rw [← z, e]))]
    · have : dropA (p :: t) n = p :: dropA t n := by unfold dropA; rw [List.filter_cons_of_pos (by simpa using e)]
      rw [this, look_cons, look_cons, ih]
      by_cases h : m = n
      · rw [if_pos h, if_pos h, if_neg (fun z => e (by rw [z, h]))]
      · rw [if_neg h, if_neg h]
/-- two tables that tell alike -/
def Alike (t u : List (Str × α)) : Prop := ∀ n, look t n = look u n
theorem Alike.put {t u : List (Str × α)} (h : Alike t u) (n : Str) (a : α) : Alike (putA t n a) (putA u n a) := fun m => by rw [look_putA, look_putA, h m]
theorem Alike.drop {t u : List (Str × α)} (h : Alike t u) (n : Str) : Alike (dropA t n) (dropA u n) := fun m => by rw [look_dropA, look_dropA, h m]
theorem Alike.names {t u : List (Str × α)} (h : Alike t u) (ht : (names t).Nodup) (hu : (L2.names u).Nodup) : (L2.names t).Perm (L2.names u) := by
  refine (List.perm_ext_iff_of_nodup ht hu).mpr fun n => ?_
  have h1 := h n
  constructor
  · intro hn
    refine Classical.byContradiction fun z => ?_
    rw [look_none.mpr z] at h1
    exact look_none.mp h1 hn
  · intro hn
    refine Classical.byContradiction fun z => ?_
    rw [look_none.mpr z] at h1
    exact look_none.mp h1.symm hn
/-- a dict's pairs, and what they stand for -/
def Dct (R : V → α → Prop) : List (Str × V) → List (Str × α) → Prop := Paired fun p q => p.1 = q.1 ∧ R p.2 q.2
theorem Dct.names {R : V → α → Prop} {kvs : List (Str × V)} {t : List (Str × α)} (h : Dct R kvs t) : kvs.map (·.1) = L2.names t := by
  induction h with
  | nil => rfl
  | @cons p q l m r _ ih => show p.1 :: l.map (·.1) = q.1 :: m.map (·.1); rw [r.1, ih]; rfl
theorem Dct.length {R : V → α → Prop} {kvs : List (Str × V)} {t : List (Str × α)} (h : Dct R kvs t) : kvs.length = t.length := Paired.length h
theorem Dct.imp {R S : V → α → Prop} {kvs : List (Str × V)} {t : List (Str × α)} (h : Dct R kvs t) (f : ∀ v a, R v a → S v a) : Dct S kvs t := Paired.mapP h fun p q z => ⟨z.1, f _ _ z.2⟩
theorem Dct.look {R : V → α → Prop} {kvs : List (Str × V)} {t : List (Str × α)} (h : Dct R kvs t) (n : Str) : (∃ v a, L2.look kvs n = some v ∧ L2.look t n = some a ∧ R v a) ∨ (L2.look kvs n = none ∧ L2.look t n = none) := by
  induction h with
  | nil => exact .inr ⟨rfl, rfl⟩
  | cons r _ ih =>
    rw [look_cons, look_cons, ← r.1]
    split
    · exact .inl ⟨_, _, rfl, rfl, r.2⟩
    · exact ih
theorem Dct.put {R : V → α → Prop} {kvs : List (Str × V)} {t : List (Str × α)} (h : Dct R kvs t) (n : Str) {v : V} {a : α} (r : R v a) : Dct R (putA kvs n v) (putA t n a) := by
  have hs : (L2.look kvs n).isSome = (L2.look t n).isSome := by
    rcases h.look n with ⟨v, a, e1, e2, _⟩ | ⟨e1, e2⟩ <;> rw [e1, e2] <;> rfl
  have hm : Dct R (kvs.map fun p => if p.1 = n then (p.1, v) else p) (t.map fun p => if p.1 = n then (p.1, a) else p) := by
    clear hs
    induction h with
    | nil => exact .nil
    | @cons p q _ _ r' _ ih =>
      refine .cons ?_ ih
      show (if p.1 = n then (p.1, v) else p).1 = (if q.1 = n then (q.1, a) else q).1 ∧ R (if p.1 = n then (p.1, v) else p).2 (if q.1 = n then (q.1, a) else q).2
      by_cases e : p.1 = n
      · rw [if_pos e, if_pos (by rw [← r'.1]; exact e)]; exact ⟨r'.1, r⟩
      · rw [if_neg e, if_neg (by rw [← r'.1]; exact e)]; exact r'
  have ha : Dct R (kvs ++ [(n, v)]) (t ++ [(n, a)]) := by
    clear hs hm
    induction h with
    | nil => exact .cons ⟨rfl, r⟩ .nil
    | cons r' _ ih => exact .cons r' ih
  unfold putA
  rw [hs]
  split
  · exact hm
  · exact ha
theorem Dct.drop {R : V → α → Prop} {kvs : List (Str × V)} {t : List (Str × α)} (h : Dct R kvs t) (n : Str) : Dct R (dropA kvs n) (dropA t n) := by
  induction h with
  | nil => exact .nil
  | @cons p q _ _ r _ ih =>
    unfold dropA at ih ⊢
    by_cases e : p.1 = n
    · rw [List.filter_cons_of_neg (by simpa using e), List.filter_cons_of_neg (by rw [← r.1]; simpa using e)]; exact ih
    · rw [List.filter_cons_of_pos (by simpa using e), List.filter_cons_of_pos (by rw [← r.1]; simpa using e)]; exact .cons r ih
theorem Dct.at {R : V → α → Prop} {kvs : List (Str × V)} {t : List (Str × α)} (h : Dct R kvs t) : ∀ {i : Nat} {p : Str × V}, kvs[i]? = some p → ∃ a, t[i]? = some (p.1, a) ∧ R p.2 a := by
  induction h with
  | nil => intro i p e; simp at e
  | @cons x y _ _ r _ ih =>
    intro i p e
    cases i with
    | zero =>
      have e' : x = p := by simpa using e
      subst e'
      exact ⟨y.2, by rw [r.1]; rfl, r.2⟩
    | succ i => exact ih (by simpa using e)
end
theorem valV_sk {kvs : List (Str × V)} {n : Str} : valV (sk kvs) (.inr n) = look kvs n := by
  induction kvs with
  | nil => rfl
  | cons p t ih =>
    rw [look_cons]
    by_cases e : p.1 = n
    · rw [if_pos e]
      exact valV_pos (show (Sum.inr p.1 : Key) = Sum.inr n by rw [e])
    · rw [if_neg e, ← ih]
      exact valV_neg (fun z => e (by injection z))
theorem putK_sk {kvs : List (Str × V)} {n : Str} {v : V} : putK (sk kvs) (.inr n) v = sk (putA kvs n v) := by
  unfold putK putA
  have hs : ((sk kvs).any fun kv => decide (kv.1 = .inr n)) = (look kvs n).isSome := by rw [valV_any, valV_sk]
  rw [hs]
  split
  · unfold sk
    rw [List.map_map, List.map_map]
    refine List.map_congr_left fun p _ => ?_
    by_cases e : p.1 = n
    · simp [e]
    · simp [e]
  · simp [sk]
theorem dropK_sk {kvs : List (Str × V)} {n : Str} : dropK (sk kvs) (.inr n) = sk (dropA kvs n) := by
  induction kvs with
  | nil => rfl
  | cons p t ih =>
    by_cases e : p.1 = n
    · have : dropA (p :: t) n = dropA t n := by unfold dropA; rw [List.filter_cons_of_neg (by simpa using e)]
      rw [this, ← ih]
      exact dropK_pos (show (Sum.inr p.1 : Key) = Sum.inr n by rw [e])
    · have : dropA (p :: t) n = p :: dropA t n := by unfold dropA; rw [List.filter_cons_of_pos (by simpa using e)]
      rw [this]
      show dropK ((Sum.inr p.1, p.2) :: sk t) (Sum.inr n) = (Sum.inr p.1, p.2) :: sk (dropA t n)
      rw [← ih]
      exact dropK_neg (fun z => e (by injection z))
theorem rIxD_rs {a : Addr} {z : Str} {H : Hp} {Q : VK} : rIxD (.ref a) (.str z) H Q = ∃ kvs, Rd H a (.dK kvs) ∧ ∃ v, valV kvs (.inr z) = some v ∧ Q v H := by
  apply propext; constructor
  · rintro ⟨a', k, kvs, v, e1, e2, h1, h2, q⟩
    cases e1
    cases k with
    | inl i => cases e2
    | inr x => cases e2; exact ⟨kvs, h1, v, h2, q⟩
  · rintro ⟨kvs, h1, v, h2, q⟩
    exact ⟨a, .inr z, kvs, v, rfl, rfl, h1, h2, q⟩
theorem rCatU_rr {a b : Addr} {H : Hp} {Q : VK} : rCatU (.ref a) (.ref b) H Q = ∃ xs ys, H a = some (.tup xs) ∧ H b = some (.tup ys) ∧ xs.length + ys.length ≤ sizeLine ∧ ∀ p H2, Same H H2 → H2 p = some (.tup (xs ++ ys)) → Q (.ref p) H2 := by
  apply propext; constructor
  · rintro ⟨a', b', xs, ys, e1, e2, h⟩; cases e1; cases e2; exact ⟨xs, ys, h⟩
  · rintro ⟨xs, ys, h⟩; exact ⟨a, b, xs, ys, rfl, rfl, h⟩
def uLenK : List V → Hp → VK → Prop := fun xs H Q => uR1 xs fun a => ∃ kvs, Rd H a (.dK kvs) ∧ Q (.int kvs.length) H
theorem uLenK_r {a : Addr} {H : Hp} {Q : VK} : uLenK [.ref a] H Q = ∃ kvs, Rd H a (.dK kvs) ∧ Q (.int kvs.length) H := uR1_r
theorem call_lenK {X : Cx} : CallR X (.builtin "len") uLenK := by
  intro pins s σ H xs us Q I r h
  obtain ⟨a, rfl, kvs, ha, q⟩ := h
  obtain ⟨u, rfl, ru⟩ := vals1 r
  cases ru
  exact d_len I ha fun t s' I' => ⟨.int kvs.length, H, I', ⟨t, rfl⟩, q⟩
/-- C() -/
theorem pe_c0 {X : Cx} {cm : Bool} {k j : Nat} {x : Str} {C : Addr} {ps : List Str} {sp : Sp} {p pos : Pos} (G : GC X.prog X.w X.K X.mg X.base cm j x C ps sp) (hr : Room cm k X.A) (hg : Gl X x) (hj : j + 1 ≤ k := by decide) (hdb : (x == ("__debug__" : Str)) = false := by decide) :
    PE X (.Call (.Name x p) [] [] pos) (tMakeA C sp tNil) := by
  obtain ⟨f, fd, F, hm, M, hb⟩ := G.ex
  intro pins s σ H Q I h
  exact pe_make0 M F (hr.mono hj) hg hm hb .nil pass0 hdb pins s σ H Q I (fun y dx hx hd ne => h y dx _ (.mk' hx hd ne))
theorem w_pe_c0 {X : Cx} {cm : Bool} {k j : Nat} {x : Str} {C : Addr} {ps : List Str} {sp : Sp} {p pos : Pos} (G : GC X.prog X.w X.K X.mg X.base cm j x C ps sp) (hr : Room cm k X.A) (hg : Gl X x) (hj : j + 1 ≤ k := by decide) (hdb : (x == ("__debug__" : Str)) = false := by decide) :
    W (PE X (.Call (.Name x p) [] [] pos) (tMakeA C sp tNil)) := ⟨pe_c0 G hr hg hj hdb⟩
/-- x not in a list -/
def uNin : R2 := fun x y H Q => ∃ p xs, y = .ref p ∧ (H p = some (.lst xs) ∨ H p = some (.tup xs)) ∧ flatV x = true ∧ xs.all flatV = true ∧ Q (.bl (!inV x xs)) H
theorem op_ninU {X : Cx} (hu : X.A.units < cLine) : OpR X (compareOp .NotIn) uNin := op_notIn_seq.weak fun x y H Q h => by
  obtain ⟨p, xs, e, h, f1, f2, q⟩ := h
  exact ⟨p, xs, e, h.elim (fun h => .inl (SqL.of h)) (fun h => .inr (SqT.of h)), f1, f2, by simpa using q⟩
theorem uNin_r {x : V} {p : Addr} {H : Hp} {Q : VK} : uNin x (.ref p) H Q = ∃ xs, (H p = some (.lst xs) ∨ H p = some (.tup xs)) ∧ flatV x = true ∧ xs.all flatV = true ∧ Q (.bl (!inV x xs)) H := by simp [uNin]
theorem sk_len {kvs : List (Str × V)} : (sk kvs).length = kvs.length := by simp [sk]
theorem sk_at {kvs : List (Str × V)} {i : Nat} {p : Key × V} (h : (sk kvs)[i]? = some p) : ∃ q, kvs[i]? = some q ∧ p = (.inr q.1, q.2) := by
  unfold sk at h
  rw [List.getElem?_map] at h
  obtain ⟨q, h1, h2⟩ := Option.map_eq_some_iff.mp h
  exact ⟨q, h1, h2.symm⟩
/-- try, whose body raises nothing -/
theorem ps_tryD {X : Cx} {body : List Stmt} {h₀ : ExceptHandler} {hs : List ExceptHandler} {pos : Pos} {tb : TS} (hb : ∀ pins, PSs (cxTry X pins fun _ _ _ => False) body tb) : PS X (.Try body (h₀ :: hs) [] [] pos) tb := by
  intro pins s σ H Z I h
  refine wpAny_Try_except (wpAny_mono (hb pins [] s σ H Z (I.p.wish _) h) (fun f s1 q => ?_) fun e s1 q => ?_)
  · cases f with
    | next =>
      obtain ⟨σ', H', J, q⟩ := q
      exact wpAny_execs_nil ⟨σ', H', Inv.unp I.ok J.unwish, q⟩
    | brk => obtain ⟨σ', H', J, q⟩ := q; exact ⟨σ', H', Inv.unp I.ok J.unwish, q⟩
    | cont => obtain ⟨σ', H', J, q⟩ := q; exact ⟨σ', H', Inv.unp I.ok J.unwish, q⟩
    | ret u => obtain ⟨v, σ', H', J, r, q⟩ := q; exact ⟨v, σ', H', Inv.unp I.ok J.unwish, r, q⟩
  · obtain ⟨ea, C, B, H', fl, σ', sI, rfl, J, y, os, bare, hB, up, want⟩ := q
    exact want.elim
theorem w_ps_tryD {X : Cx} {body : List Stmt} {h₀ : ExceptHandler} {hs : List ExceptHandler} {pos : Pos} {tb : TS} (hb : ∀ pins, W (PSs (cxTry X pins fun _ _ _ => False) body tb)) : W (PS X (.Try body (h₀ :: hs) [] [] pos) tb) := ⟨ps_tryD fun pins => (hb pins).h⟩
end L2
set_option Elab.async false
set_option linter.all false
set_option maxRecDepth 100000
set_option maxHeartbeats 4000000
namespace K23
open PySem PySem.Spec PyProof.Rows L2
local macro_rules | `(tactic| simp_all only [$ls,*]) => `(tactic| simp only [tVar, tC, tAnd, tOr, tNot, tIf, tNext, tSeq, tBreak, tCont, tDrop, tRet, tRetN, tIfS, gName, gNil_n, gCons_c, tAsg, tAug, ipI, tOp, tUn, tNil, tCons, tTupA, tLstA, tDNewA, tCall, tMakeA, tCallX, tMakeXA, tCB, tRaise, uAdd_ii, uAdd_ss, uAdd_rr, uMul_ii, uMul_ri, uIx_r, uIx_s, uLen_r, uLen_s, rI_ii, rI0_ii, rU_i, uEq_ii, uEq_ss, uEq_bb, uEq_rr, uInt_i, uInt_b, uStr_i, uMax_ii, uMin_ii, uTru_b, uTru_n, uTru_i, tTru_eq, uB_b, tB_eq, tTest_eq, tAndV_eq, tOrV_eq, tNotV_eq, tChain_eq, uR_r, uFld_eq, uSetF_eq, tMeth_eq, tMethX_eq, uApp, tFor_eq, uI1_i, iRng1_eq, iList_eq, iTup_eq, uR2_r, iZip_eq, tLC_eq, CompN_t, CompN_f, pick, Option.bind_some, Option.bind_none, Option.join_some, tAll, and_assoc, exists_and_left, exists_and_right, exists_eq_left', exists_eq_left, exists_eq, exists_eq', exists_eq_right, exists_eq_right', and_true, true_and, and_false, false_and, or_false, false_or, exists_false, exists_const, Option.some.injEq, V.int.injEq, V.str.injEq, V.ref.injEq, V.bl.injEq, V.ty.injEq, HO.lst.injEq, HO.tup.injEq, HO.ins.injEq, List.cons.injEq, reduceCtorEq, reduceIte, Bool.false_eq_true, List.getElem?_cons_zero, List.getElem?_cons_succ, List.set_cons_zero, List.set_cons_succ, List.nil_append, List.cons_append, List.append_nil, List.length_cons, List.length_nil, L2.start, List.map_cons, List.map_nil, List.replicate, Nat.reduceSub, Nat.reduceAdd, Bool.not_true, Bool.not_false, uAugF, rAdd_ii, rSub_ii, uIsN_n, uIsN_i, uMulS_ii, uMulS_ri, uMulS_si, uSl_s, uSl_r, tSl, tNoPart, tPart_eq, uPart_i, rSetL_r, gSub, uListOf_r, uClear, uJoinE, uS_s, rJoin_sr, uRev, iEnum_eq, uR1_r, iRng2_eq, uI2_i, iStr_eq, iEnumS_eq, iRng3_eq, uI3_i, iZipT_eq, uEqT_ii, uEqT_ss, uEqT_bb, uEqT_rr, uIs_b, uIs_n, uIn_ss, uIn_r, uM1_eq, rRfind_s, rSplit_s, uFmt_eq, rFmt_s, rFmt_i, jNil, jCons, tJoined_eq, uIntT_i, uIntT_b, uIntT_s, uStrT_i, uStrT_s, uTupOf_r, uOrd_s, uAll_r, tGetK_eq, iSeq_eq, uIsN_r, uIsN_s, uNeT_rr, rFind_s, uStrB_i, uStrB_s, uStrB_b, uIxD_rs, uIxD_ri, uIxD_si, rIxD_rs, uInD_ss, uInD_sr, rInD_sr, uLenD_r, uLenD_s, uLenK_r, rSetD_rs, rSetD_ri, tDel_eq, uK_s, uK_i, tGetD_eq, tPopD_eq, uDictOf_r, uSortD_r, tVals_eq, uListV_r, uSlT_s, uSlT_r, uAddT_ii, uAddT_ss, uAddT_rr, rCatU_rr, uDivmod_ii, uLeT_ii, uLeT_ss, uExt_eq, iDict_eq, iVals_eq, tFz_eq, tFzE_eq, tDead, uNin_r, $ls,*])
def top (i : Nat) : Stmt := PySem.Challenge.pw_cleanrows_k23_texts_of_files.main.body.getD i (.Pass ⟨0, 0, 0, 0⟩)
abbrev s_is_whole : Stmt := top 13
abbrev s_is_within : Stmt := top 14
structure ClsA where
  CleanError : Addr
  NoFile : Addr
  NoPlace : Addr
  HeldAlready : Addr
  NotHeld : Addr
  NoFiles : Addr
  NoPart : Addr
  Words : Addr
  Files : Addr
structure Txt (K : PySem.W.Frag) (mg : Str → Option Value) (A : ClsA) : Prop where
  n_all : mg "all" = none
  n_bool : mg "bool" = none
  n_dict : mg "dict" = none
  n_divmod : mg "divmod" = none
  n_enumerate : mg "enumerate" = none
  n_int : mg "int" = none
  n_isinstance : mg "isinstance" = none
  n_len : mg "len" = none
  n_max : mg "max" = none
  n_min : mg "min" = none
  n_range : mg "range" = none
  n_sorted : mg "sorted" = none
  n_str : mg "str" = none
  c_FIGURES : ∃ u, mg "FIGURES" = some u ∧ RelV (.str "0123456789") u
  c_LETTERS : ∃ u, mg "LETTERS" = some u ∧ RelV (.str "abcdefghijklmnopqrstuvwxyz") u
  c_MOST_FIGURES : ∃ u, mg "MOST_FIGURES" = some u ∧ RelV (.int 18) u
  c_MOST_LETTERS : ∃ u, mg "MOST_LETTERS" = some u ∧ RelV (.int 6) u
  mg_CleanError : mg "CleanError" = some (.ref A.CleanError)
  mg_NoFile : mg "NoFile" = some (.ref A.NoFile)
  mg_NoPlace : mg "NoPlace" = some (.ref A.NoPlace)
  mg_HeldAlready : mg "HeldAlready" = some (.ref A.HeldAlready)
  mg_NotHeld : mg "NotHeld" = some (.ref A.NotHeld)
  mg_NoFiles : mg "NoFiles" = some (.ref A.NoFiles)
  mg_NoPart : mg "NoPart" = some (.ref A.NoPart)
  mg_Words : mg "Words" = some (.ref A.Words)
  mg_Files : mg "Files" = some (.ref A.Files)
  cl_Words : Cls K A.Words
  na_Words_taken : NoAttr K A.Words "taken"
  na_Words_words : NoAttr K A.Words "words"
  cl_Files : Cls K A.Files
  na_Files_births : NoAttr K A.Files "births"
  na_Files_kept : NoAttr K A.Files "kept"
  isi_Files : ∀ (H : Hp) (a dx : Addr) (fs : List (Str × V)), H a = some (.ins A.Files dx fs) → TyX K H (.ref a) (.ref A.Files)
  kit_Files : PySem.W.kitOne K (.ref A.Files) (.ref A.Files) = some true
theorem Txt.c_NoFile {K : PySem.W.Frag} {mg : Str → Option Value} {A : ClsA} (T : Txt K mg A) : ∃ u, mg "NoFile" = some u ∧ RelV (.ref A.NoFile) u := ⟨_, T.mg_NoFile, rfl⟩
theorem Txt.c_NoPlace {K : PySem.W.Frag} {mg : Str → Option Value} {A : ClsA} (T : Txt K mg A) : ∃ u, mg "NoPlace" = some u ∧ RelV (.ref A.NoPlace) u := ⟨_, T.mg_NoPlace, rfl⟩
theorem Txt.c_HeldAlready {K : PySem.W.Frag} {mg : Str → Option Value} {A : ClsA} (T : Txt K mg A) : ∃ u, mg "HeldAlready" = some u ∧ RelV (.ref A.HeldAlready) u := ⟨_, T.mg_HeldAlready, rfl⟩
theorem Txt.c_NotHeld {K : PySem.W.Frag} {mg : Str → Option Value} {A : ClsA} (T : Txt K mg A) : ∃ u, mg "NotHeld" = some u ∧ RelV (.ref A.NotHeld) u := ⟨_, T.mg_NotHeld, rfl⟩
theorem Txt.c_NoFiles {K : PySem.W.Frag} {mg : Str → Option Value} {A : ClsA} (T : Txt K mg A) : ∃ u, mg "NoFiles" = some u ∧ RelV (.ref A.NoFiles) u := ⟨_, T.mg_NoFiles, rfl⟩
theorem Txt.c_NoPart {K : PySem.W.Frag} {mg : Str → Option Value} {A : ClsA} (T : Txt K mg A) : ∃ u, mg "NoPart" = some u ∧ RelV (.ref A.NoPart) u := ⟨_, T.mg_NoPart, rfl⟩
theorem Txt.c_Files {K : PySem.W.Frag} {mg : Str → Option Value} {A : ClsA} (T : Txt K mg A) : ∃ u, mg "Files" = some u ∧ RelV (.ref A.Files) u := ⟨_, T.mg_Files, rfl⟩
theorem nb_taken_words : (("taken" : Str) == "words") = false := by decide +kernel
theorem nb_words_taken : (("words" : Str) == "taken") = false := by decide +kernel
theorem nb_take_word_taken : (("take_word" : Str) == "taken") = false := by decide +kernel
theorem nb_take_word_words : (("take_word" : Str) == "words") = false := by decide +kernel
theorem nb_take_number_taken : (("take_number" : Str) == "taken") = false := by decide +kernel
theorem nb_take_number_words : (("take_number" : Str) == "words") = false := by decide +kernel
theorem nb_take_name_taken : (("take_name" : Str) == "taken") = false := by decide +kernel
theorem nb_take_name_words : (("take_name" : Str) == "words") = false := by decide +kernel
theorem nb_is_at_end_taken : (("is_at_end" : Str) == "taken") = false := by decide +kernel
theorem nb_is_at_end_words : (("is_at_end" : Str) == "words") = false := by decide +kernel
theorem nb_take_end_taken : (("take_end" : Str) == "taken") = false := by decide +kernel
theorem nb_take_end_words : (("take_end" : Str) == "words") = false := by decide +kernel
theorem np_words_taken : (("words" : Str) = "taken") = False := by simpa using nb_words_taken
theorem nb_births_kept : (("births" : Str) == "kept") = false := by decide +kernel
theorem nb_kept_births : (("kept" : Str) == "births") = false := by decide +kernel
theorem nb_names_births : (("names" : Str) == "births") = false := by decide +kernel
theorem nb_names_kept : (("names" : Str) == "kept") = false := by decide +kernel
theorem nb_many_births : (("many" : Str) == "births") = false := by decide +kernel
theorem nb_many_kept : (("many" : Str) == "kept") = false := by decide +kernel
theorem nb_birth_births : (("birth" : Str) == "births") = false := by decide +kernel
theorem nb_birth_kept : (("birth" : Str) == "kept") = false := by decide +kernel
theorem nb_put_births : (("put" : Str) == "births") = false := by decide +kernel
theorem nb_put_kept : (("put" : Str) == "kept") = false := by decide +kernel
theorem nb_cut_births : (("cut" : Str) == "births") = false := by decide +kernel
theorem nb_cut_kept : (("cut" : Str) == "kept") = false := by decide +kernel
theorem nb_hold_births : (("hold" : Str) == "births") = false := by decide +kernel
theorem nb_hold_kept : (("hold" : Str) == "kept") = false := by decide +kernel
theorem nb_free_births : (("free" : Str) == "births") = false := by decide +kernel
theorem nb_free_kept : (("free" : Str) == "kept") = false := by decide +kernel
theorem nb_held_births : (("held" : Str) == "births") = false := by decide +kernel
theorem nb_held_kept : (("held" : Str) == "kept") = false := by decide +kernel
theorem nb_of_held_births : (("of_held" : Str) == "births") = false := by decide +kernel
theorem nb_of_held_kept : (("of_held" : Str) == "kept") = false := by decide +kernel
theorem nb_bare_births : (("bare" : Str) == "births") = false := by decide +kernel
theorem nb_bare_kept : (("bare" : Str) == "kept") = false := by decide +kernel
theorem nb_keep_births : (("keep" : Str) == "births") = false := by decide +kernel
theorem nb_keep_kept : (("keep" : Str) == "kept") = false := by decide +kernel
theorem nb_refuse_if_none_births : (("refuse_if_none" : Str) == "births") = false := by decide +kernel
theorem nb_refuse_if_none_kept : (("refuse_if_none" : Str) == "kept") = false := by decide +kernel
theorem nb_refuse_if_not_held_births : (("refuse_if_not_held" : Str) == "births") = false := by decide +kernel
theorem nb_refuse_if_not_held_kept : (("refuse_if_not_held" : Str) == "kept") = false := by decide +kernel
theorem np_births_kept : (("births" : Str) = "kept") = False := by simpa using nb_births_kept
/-- the things that a size may be -/
inductive Thing (H : Hp) : V → Prop
  | non : Thing H .non
  | bl (b : Bool) : Thing H (.bl b)
  | int (i : Int) : Thing H (.int i)
  | str (x : Str) : Thing H (.str x)
  | lst {a : Addr} {xs : List V} : H a = some (.lst xs) → Thing H (.ref a)
  | tup {a : Addr} {xs : List V} : H a = some (.tup xs) → Thing H (.ref a)
  | dic {a : Addr} {kvs : List (Key × V)} : H a = some (.dK kvs) → Thing H (.ref a)
theorem Thing.same {H H' : Hp} {v : V} (t : Thing H v) (s : Same H H') : Thing H' v := by
  cases t with
  | non => exact .non
  | bl b => exact .bl b
  | int i => exact .int i
  | str x => exact .str x
  | lst h => exact .lst (s _ _ h)
  | tup h => exact .tup (s _ _ h)
  | dic h => exact .dic (s _ _ h)
def wholeV : V → Bool | .int _ => true | _ => false
def withinV (v : V) (a b : Int) : Bool := match v with | .int i => decide (a ≤ i) && decide (i ≤ b) | _ => false
def spWhole : Sp := fun vs H Q _ => ∃ v, vs = [v] ∧ Thing H v ∧ Q (.bl (wholeV v)) H
def spWithin : Sp := fun vs H Q _ => ∃ v a b, vs = [v, .int a, .int b] ∧ Thing H v ∧ Q (.bl (withinV v a b)) H
section
variable {P : Program} {w : World} {K : PySem.W.Frag} {mg : Str → Option Value} {base : Heap} {A : ClsA}
theorem isi_int {X : Cx} {H : Hp} {v : V} {Q : VK} (t : Thing H v) (q : Q (.bl (match v with | .int _ => true | .bl _ => true | _ => false)) H) : rIsi X.K [v, .ty "int"] H Q := by
  cases t with
  | non => exact ⟨_, _, _, _, _, rfl, rfl, .of .non, rfl, q⟩
  | bl b => exact ⟨_, _, _, _, _, rfl, rfl, .of (.bl b), rfl, q⟩
  | int i => exact ⟨_, _, _, _, _, rfl, rfl, .of (.int i), rfl, q⟩
  | str x => exact ⟨_, _, _, _, _, rfl, rfl, .of (.str x), rfl, q⟩
  | lst h => exact ⟨_, _, _, _, _, rfl, rfl, .of (.lst h), rfl, q⟩
  | tup h => exact ⟨_, _, _, _, _, rfl, rfl, .of (.tup h), rfl, q⟩
  | dic h => exact ⟨_, _, _, _, _, rfl, rfl, .of (.dK h), rfl, q⟩
theorem isi_bool {X : Cx} {H : Hp} {v : V} {Q : VK} (t : Thing H v) (q : Q (.bl (match v with | .bl _ => true | _ => false)) H) : rIsi X.K [v, .ty "bool"] H Q := by
  cases t with
  | non => exact ⟨_, _, _, _, _, rfl, rfl, .of .non, rfl, q⟩
  | bl b => exact ⟨_, _, _, _, _, rfl, rfl, .of (.bl b), rfl, q⟩
  | int i => exact ⟨_, _, _, _, _, rfl, rfl, .of (.int i), rfl, q⟩
  | str x => exact ⟨_, _, _, _, _, rfl, rfl, .of (.str x), rfl, q⟩
  | lst h => exact ⟨_, _, _, _, _, rfl, rfl, .of (.lst h), rfl, q⟩
  | tup h => exact ⟨_, _, _, _, _, rfl, rfl, .of (.tup h), rfl, q⟩
  | dic h => exact ⟨_, _, _, _, _, rfl, rfl, .of (.dK h), rfl, q⟩
theorem sc_is_whole : FnScope ["value"] ["value"] (defScope s_is_whole) := ⟨rfl, rfl, rfl, by decide +kernel, rfl, by decide +kernel, by decide +kernel⟩
theorem ok_is_whole {f : Addr} {fd : FuncData} {cm : Bool} (F : Fun K "is_whole" "is_whole" s_is_whole f fd) (T : Txt K mg A) : FnOk P w K mg base CX0 cm 1 f fd ["value"] spWhole := by
  refine F.ok sc_is_whole (fun vs H Q E h => ?_) (fun cdv Ar outer s H vs Q E hr h => ?_)
  · obtain ⟨v, rfl, _⟩ := h; rfl
  · obtain ⟨v, rfl, th, q⟩ := h
    refine ⟨_, (W.h (w_pss_one (w_ps_ret (w_pe_and (w_pe_callBp call_isi rfl T.n_isinstance boot_isinstance (w_pa_p (w_pv 0) (w_pa_p (w_pe_bltn rfl T.n_int boot_int (v := .ty "int") rfl) w_pa_nil))) (w_pe_one (w_pe_not (w_pe_callBp call_isi rfl T.n_isinstance boot_isinstance (w_pa_p (w_pv 0) (w_pa_p (w_pe_bltn rfl T.n_bool boot_bool (v := .ty "bool") rfl) w_pa_nil))))))))), ?_⟩
    simp_all only []
    refine isi_int th ?_
    cases th with
    | int i => exact ⟨true, rfl, iteT (isi_bool (.int i) ⟨false, rfl, q⟩)⟩
    | bl i => exact ⟨true, rfl, iteT (isi_bool (.bl i) ⟨true, rfl, q⟩)⟩
    | _ => exact ⟨false, rfl, iteF q⟩
theorem sc_is_within : FnScope ["value", "least", "most"] ["value", "least", "most"] (defScope s_is_within) := ⟨rfl, rfl, rfl, by decide +kernel, rfl, by decide +kernel, by decide +kernel⟩
theorem ok_is_within {f : Addr} {fd : FuncData} {cm : Bool} (F : Fun K "is_within" "is_within" s_is_within f fd) (T : Txt K mg A) (G_is_whole : GF P w K mg base cm 1 "is_whole" ["value"] spWhole) : FnOk P w K mg base CX0 cm 2 f fd ["value", "least", "most"] spWithin := by
  refine F.ok sc_is_within (fun vs H Q E h => ?_) (fun cdv Ar outer s H vs Q E hr h => ?_)
  · obtain ⟨v, a, b, rfl, _⟩ := h; rfl
  · obtain ⟨v, a, b, rfl, th, q⟩ := h
    refine ⟨_, (W.h (w_pss_one (w_ps_ret (w_pe_and (w_pe_g G_is_whole hr rfl (w_pa_p (w_pv 0) w_pa_nil)) (w_pe_one (w_pe_chain op_le op_le (w_pv 1) (w_pv 0) (w_pv 2))))))), ?_⟩
    simp_all only []
    refine ⟨_, rfl, th, ?_⟩
    cases th with
    | int i =>
      refine ⟨true, rfl, iteT ?_⟩
      simp_all only []
      refine ite2 (fun h => ?_) (fun h => ?_)
      · have e : withinV (.int i) a b = decide (i ≤ b) := by show (decide (a ≤ i) && _) = _; rw [h]; rfl
        rw [← e]; exact q
      · have e : withinV (.int i) a b = false := by show (decide (a ≤ i) && _) = _; rw [Bool.eq_false_iff.mpr h]; rfl
        rw [← e]; exact q
    | _ => exact ⟨false, rfl, iteF q⟩
end
abbrev s_Files___init__ : Stmt := inClass (top 21) 0
abbrev s_Files_names : Stmt := inClass (top 21) 1
abbrev s_Files_many : Stmt := inClass (top 21) 2
abbrev s_Files_refuse_if_none : Stmt := inClass (top 21) 14
abbrev s_Files_refuse_if_not_held : Stmt := inClass (top 21) 15
/-! ### files, in the heap -/
abbrev Tab := List (Str × List Int)
def TupR (H : Hp) (v : V) (l : List Int) : Prop := ∃ p, v = .ref p ∧ H p = some (.tup (l.map V.int))
def fflds (b k : Addr) : List (Str × V) := [("births", .ref b), ("kept", .ref k)]
structure Births (H : Hp) (b : Addr) (t : Tab) : Prop where
  ex : ∃ kvs, H b = some (.dK (sk kvs)) ∧ Dct (TupR H) kvs t
  nd : (names t).Nodup
structure BirthsR (H : Hp) (b : Addr) (t : Tab) : Prop where
  ex : ∃ kvs, Rd H b (.dK (sk kvs)) ∧ Dct (TupR H) kvs t
  nd : (names t).Nodup
theorem Births.r {H : Hp} {b : Addr} {t : Tab} (h : Births H b t) : BirthsR H b t := let ⟨kvs, e, d⟩ := h.ex; ⟨⟨kvs, .inl e, d⟩, h.nd⟩
structure Bare (A : ClsA) (H : Hp) (q b k : Addr) (t : Tab) : Prop where
  ob : ∃ dx, H q = some (.ins A.Files dx (fflds b k))
  births : BirthsR H b t
  kept : Rd H k (.dK (sk []))
def KeptR (A : ClsA) (H : Hp) (b k : Addr) (v : V) (t : Tab) : Prop := ∃ q b' k', v = .ref q ∧ Bare A H q b' k' t ∧ b' ≠ b ∧ b' ≠ k ∧ k' ≠ b ∧ k' ≠ k
structure FilesAt (A : ClsA) (H : Hp) (p b k : Addr) (t : Tab) (ks : List (Str × Tab)) : Prop where
  ob : ∃ dx, H p = some (.ins A.Files dx (fflds b k))
  births : Births H b t
  kept : ∃ kk, H k = some (.dK (sk kk)) ∧ Dct (KeptR A H b k) kk ks
  ndk : (names ks).Nodup
  ne : b ≠ k
/-- files that are read only -/
structure FilesR (A : ClsA) (H : Hp) (p b k : Addr) (t : Tab) (ks : List (Str × Tab)) : Prop where
  ob : ∃ dx, H p = some (.ins A.Files dx (fflds b k))
  births : BirthsR H b t
  kept : ∃ kk, Rd H k (.dK (sk kk)) ∧ Dct (KeptR A H b k) kk ks
  ndk : (names ks).Nodup
theorem FilesAt.r {A : ClsA} {H : Hp} {p b k : Addr} {t : Tab} {ks : List (Str × Tab)} (h : FilesAt A H p b k t ks) : FilesR A H p b k t ks := let ⟨kk, e, d⟩ := h.kept; ⟨h.ob, h.births.r, ⟨kk, .inl e, d⟩, h.ndk⟩
/-- what is there stands there still, dicts perhaps held still or set free -/
structure FS (H H' : Hp) : Prop where
  oth : ∀ a o, (∀ kvs, o ≠ .dK kvs) → (∀ ob kvs, o ≠ .frz ob (.dK kvs)) → H a = some o → H' a = some o
  dic : ∀ a kvs, Rd H a (.dK kvs) → Rd H' a (.dK kvs)
theorem FS.of {H H' : Hp} (s : Same H H') : FS H H' := ⟨fun a o _ _ e => s a o e, fun a kvs r => r.elim (fun e => .inl (s _ _ e)) (fun ⟨o, e⟩ => .inr ⟨o, s _ _ e⟩)⟩
theorem FS.trans {H H1 H2 : Hp} (x : FS H H1) (y : FS H1 H2) : FS H H2 := ⟨fun a o n m e => y.oth a o n m (x.oth a o n m e), fun a kvs r => y.dic a kvs (x.dic a kvs r)⟩
theorem FS.freeze {H : Hp} {d : Addr} {o : Obj} {kvs : List (Key × V)} (e : H d = some (.dK kvs)) : FS H (upd H d (.frz o (.dK kvs))) := by
  refine ⟨fun a u n m h => ?_, fun a xs r => ?_⟩
  · rw [upd_ne (fun z => by subst z; rw [e] at h; cases h; exact n _ rfl)]; exact h
  · by_cases z : a = d
    · subst z
      rcases r with r | ⟨o', r⟩
      · rw [e] at r; cases r; exact .inr ⟨o, upd_same⟩
      · rw [e] at r; cases r
    · unfold Rd; rw [upd_ne z]; exact r
theorem FS.thaw {H : Hp} {d : Addr} {o : Obj} {kvs : List (Key × V)} (e : H d = some (.frz o (.dK kvs))) : FS H (upd H d (.dK kvs)) := by
  refine ⟨fun a u n m h => ?_, fun a xs r => ?_⟩
  · rw [upd_ne (fun z => by subst z; rw [e] at h; cases h; exact m _ _ rfl)]; exact h
  · by_cases z : a = d
    · subst z
      rcases r with r | ⟨o', r⟩
      · rw [e] at r; cases r
      · rw [e] at r; cases r; exact .inl upd_same
    · unfold Rd; rw [upd_ne z]; exact r
theorem Rd.same {H H' : Hp} {a : Addr} {u : HO} (h : Rd H a u) (s : Same H H') : Rd H' a u := h.elim (fun e => .inl (s _ _ e)) (fun ⟨o, e⟩ => .inr ⟨o, s _ _ e⟩)
def But (b : Addr) (H H' : Hp) : Prop := ∀ a o, a ≠ b → H a = some o → H' a = some o
theorem But.of {b : Addr} {H H' : Hp} (s : Same H H') : But b H H' := fun a o _ e => s a o e
theorem But.trans {b : Addr} {H H1 H2 : Hp} (x : But b H H1) (y : But b H1 H2) : But b H H2 := fun a o n e => y a o n (x a o n e)
theorem But.upd {b : Addr} {H : Hp} {o : HO} : But b H (upd H b o) := fun a u n e => by rw [upd_ne n]; exact e
theorem TupR.but {b : Addr} {H H' : Hp} {v : V} {l : List Int} (h : TupR H v l) (s : But b H H') (hb : ∀ xs, H b ≠ some (.tup xs)) : TupR H' v l := by
  obtain ⟨p, e, hp⟩ := h
  exact ⟨p, e, s p _ (fun z => by subst z; exact hb _ hp) hp⟩
theorem TupR.same {H H' : Hp} {v : V} {l : List Int} (h : TupR H v l) (s : Same H H') : TupR H' v l := let ⟨p, e, hp⟩ := h; ⟨p, e, s p _ hp⟩
theorem Births.but {x : Addr} {H H' : Hp} {b : Addr} {t : Tab} (h : Births H b t) (s : But x H H') (hx : ∀ xs, H x ≠ some (.tup xs)) (n : b ≠ x) : Births H' b t := by
  obtain ⟨kvs, e, d⟩ := h.ex
  exact ⟨⟨kvs, s _ _ n e, d.imp fun v a r => r.but s hx⟩, h.nd⟩
theorem Births.same {H H' : Hp} {b : Addr} {t : Tab} (h : Births H b t) (s : Same H H') : Births H' b t := by
  obtain ⟨kvs, e, d⟩ := h.ex
  exact ⟨⟨kvs, s _ _ e, d.imp fun v a r => r.same s⟩, h.nd⟩
theorem BirthsR.but {x : Addr} {H H' : Hp} {b : Addr} {t : Tab} (h : BirthsR H b t) (s : But x H H') (hx : ∀ xs, H x ≠ some (.tup xs)) (n : b ≠ x) : BirthsR H' b t := by
  obtain ⟨kvs, e, d⟩ := h.ex
  exact ⟨⟨kvs, e.elim (fun e => .inl (s _ _ n e)) (fun ⟨o, e⟩ => .inr ⟨o, s _ _ n e⟩), d.imp fun v a r => r.but s hx⟩, h.nd⟩
theorem TupR.fs {H H' : Hp} {v : V} {l : List Int} (h : TupR H v l) (s : FS H H') : TupR H' v l := let ⟨p, e, hp⟩ := h; ⟨p, e, s.oth p _ (fun _ => nofun) (fun _ _ => nofun) hp⟩
theorem BirthsR.fs {H H' : Hp} {b : Addr} {t : Tab} (h : BirthsR H b t) (s : FS H H') : BirthsR H' b t := by
  obtain ⟨kvs, e, d⟩ := h.ex
  exact ⟨⟨kvs, s.dic _ _ e, d.imp fun v a r => r.fs s⟩, h.nd⟩
theorem Bare.but {A : ClsA} {x : Addr} {H H' : Hp} {q b k : Addr} {t : Tab} {kvs : List (Key × V)} (h : Bare A H q b k t) (s : But x H H') (hx : H x = some (.dK kvs)) (n1 : b ≠ x) (n2 : k ≠ x) : Bare A H' q b k t := by
  obtain ⟨dx, e⟩ := h.ob
  exact ⟨⟨dx, s _ _ (fun z => by subst z; rw [e] at hx; cases hx) e⟩, h.births.but s (fun xs z => by rw [z] at hx; cases hx) n1, h.kept.elim (fun e => .inl (s _ _ n2 e)) (fun ⟨o, e⟩ => .inr ⟨o, s _ _ n2 e⟩)⟩
theorem Bare.fs {A : ClsA} {H H' : Hp} {q b k : Addr} {t : Tab} (h : Bare A H q b k t) (s : FS H H') : Bare A H' q b k t := let ⟨dx, e⟩ := h.ob; ⟨⟨dx, s.oth _ _ (fun _ => nofun) (fun _ _ => nofun) e⟩, h.births.fs s, s.dic _ _ h.kept⟩
theorem Bare.same {A : ClsA} {H H' : Hp} {q b k : Addr} {t : Tab} (h : Bare A H q b k t) (s : Same H H') : Bare A H' q b k t := h.fs (.of s)
theorem KeptR.fs {A : ClsA} {H H' : Hp} {b k : Addr} {v : V} {t : Tab} (h : KeptR A H b k v t) (s : FS H H') : KeptR A H' b k v t := let ⟨q, b', k', e, r, n⟩ := h; ⟨q, b', k', e, r.fs s, n⟩
theorem FilesR.fs {A : ClsA} {H H' : Hp} {p b k : Addr} {t : Tab} {ks : List (Str × Tab)} (h : FilesR A H p b k t ks) (s : FS H H') : FilesR A H' p b k t ks := by
  obtain ⟨dx, e⟩ := h.ob
  obtain ⟨kk, e2, d⟩ := h.kept
  exact ⟨⟨dx, s.oth _ _ (fun _ => nofun) (fun _ _ => nofun) e⟩, h.births.fs s, ⟨kk, s.dic _ _ e2, d.imp fun v a r => r.fs s⟩, h.ndk⟩
theorem FilesR.same {A : ClsA} {H H' : Hp} {p b k : Addr} {t : Tab} {ks : List (Str × Tab)} (h : FilesR A H p b k t ks) (s : Same H H') : FilesR A H' p b k t ks := h.fs (.of s)
/-- a dict that isn't its own is held still, or set free -/
theorem FilesAt.fs {A : ClsA} {H H' : Hp} {p b k d : Addr} {t : Tab} {ks : List (Str × Tab)} (h : FilesAt A H p b k t ks) (s : FS H H') (bt : But d H H') (n1 : b ≠ d) (n2 : k ≠ d) : FilesAt A H' p b k t ks := by
  obtain ⟨dx, e⟩ := h.ob
  obtain ⟨kk, e2, d⟩ := h.kept
  obtain ⟨kvs, e3, d3⟩ := h.births.ex
  exact ⟨⟨dx, s.oth _ _ (fun _ => nofun) (fun _ _ => nofun) e⟩, ⟨⟨kvs, bt _ _ n1 e3, d3.imp fun v a r => r.fs s⟩, h.births.nd⟩, ⟨kk, bt _ _ n2 e2, d.imp fun v a r => r.fs s⟩, h.ndk, h.ne⟩
theorem KeptR.same {A : ClsA} {H H' : Hp} {b k : Addr} {v : V} {t : Tab} (h : KeptR A H b k v t) (s : Same H H') : KeptR A H' b k v t := let ⟨q, b', k', e, r, n⟩ := h; ⟨q, b', k', e, r.same s, n⟩
theorem FilesAt.same {A : ClsA} {H H' : Hp} {p b k : Addr} {t : Tab} {ks : List (Str × Tab)} (h : FilesAt A H p b k t ks) (s : Same H H') : FilesAt A H' p b k t ks := by
  obtain ⟨dx, e⟩ := h.ob
  obtain ⟨kk, e2, d⟩ := h.kept
  exact ⟨⟨dx, s _ _ e⟩, h.births.same s, ⟨kk, s _ _ e2, d.imp fun v a r => r.same s⟩, h.ndk, h.ne⟩
/-- other births are put -/
theorem FilesAt.setB {A : ClsA} {H H' : Hp} {p b k : Addr} {t t' : Tab} {ks : List (Str × Tab)} {kvs' : List (Str × V)} (h : FilesAt A H p b k t ks) (s : But b H H') (e : H' b = some (.dK (sk kvs'))) (d' : Dct (TupR H') kvs' t') (nd : (names t').Nodup) : FilesAt A H' p b k t' ks := by
  obtain ⟨dx, e1⟩ := h.ob
  obtain ⟨kk, e2, d⟩ := h.kept
  obtain ⟨kvs, e3, _⟩ := h.births.ex
  exact ⟨⟨dx, s _ _ (fun z => by subst z; rw [e1] at e3; cases e3) e1⟩, ⟨⟨kvs', e, d'⟩, nd⟩, ⟨kk, s _ _ (Ne.symm h.ne) e2, d.imp fun v a ⟨q, b', k', ev, r, n1, n2, n3, n4⟩ => ⟨q, b', k', ev, r.but s e3 n1 n3, n1, n2, n3, n4⟩⟩, h.ndk, h.ne⟩
/-- other held ones are put -/
theorem FilesAt.setK {A : ClsA} {H H' : Hp} {p b k : Addr} {t : Tab} {ks ks' : List (Str × Tab)} {kk' : List (Str × V)} (h : FilesAt A H p b k t ks) (s : But k H H') (e : H' k = some (.dK (sk kk'))) (d' : Dct (KeptR A H' b k) kk' ks') (nd : (names ks').Nodup) : FilesAt A H' p b k t ks' := by
  obtain ⟨dx, e1⟩ := h.ob
  obtain ⟨kk, e2, d⟩ := h.kept
  exact ⟨⟨dx, s _ _ (fun z => by subst z; rw [e1] at e2; cases e2) e1⟩, h.births.but s (fun xs z => by rw [z] at e2; cases e2) h.ne, ⟨kk', e, d'⟩, nd, h.ne⟩
theorem KeptR.but {A : ClsA} {H H' : Hp} {b k : Addr} {v : V} {t : Tab} {kvs : List (Key × V)} (h : KeptR A H b k v t) (s : But k H H') (hx : H k = some (.dK kvs)) : KeptR A H' b k v t := let ⟨q, b', k', ev, r, n1, n2, n3, n4⟩ := h; ⟨q, b', k', ev, r.but s hx n2 n4, n1, n2, n3, n4⟩
section
variable {P : Program} {w : World} {K : PySem.W.Frag} {mg : Str → Option Value} {base : Heap} {A : ClsA} {b k : Addr}
theorem ff_births : (fflds b k).lookup ("births" : Str) = some (.ref b) := by simp only [fflds, List.lookup, beq_self_eq_true]
theorem ff_kept : (fflds b k).lookup ("kept" : Str) = some (.ref k) := by simp only [fflds, List.lookup, beq_self_eq_true, nb_kept_births]
theorem ff_names : (fflds b k).lookup ("names" : Str) = none := by simp only [fflds, List.lookup, nb_names_births, nb_names_kept]
theorem ff_many : (fflds b k).lookup ("many" : Str) = none := by simp only [fflds, List.lookup, nb_many_births, nb_many_kept]
theorem ff_birth : (fflds b k).lookup ("birth" : Str) = none := by simp only [fflds, List.lookup, nb_birth_births, nb_birth_kept]
theorem ff_put : (fflds b k).lookup ("put" : Str) = none := by simp only [fflds, List.lookup, nb_put_births, nb_put_kept]
theorem ff_cut : (fflds b k).lookup ("cut" : Str) = none := by simp only [fflds, List.lookup, nb_cut_births, nb_cut_kept]
theorem ff_hold : (fflds b k).lookup ("hold" : Str) = none := by simp only [fflds, List.lookup, nb_hold_births, nb_hold_kept]
theorem ff_free : (fflds b k).lookup ("free" : Str) = none := by simp only [fflds, List.lookup, nb_free_births, nb_free_kept]
theorem ff_held : (fflds b k).lookup ("held" : Str) = none := by simp only [fflds, List.lookup, nb_held_births, nb_held_kept]
theorem ff_of_held : (fflds b k).lookup ("of_held" : Str) = none := by simp only [fflds, List.lookup, nb_of_held_births, nb_of_held_kept]
theorem ff_bare : (fflds b k).lookup ("bare" : Str) = none := by simp only [fflds, List.lookup, nb_bare_births, nb_bare_kept]
theorem ff_keep : (fflds b k).lookup ("keep" : Str) = none := by simp only [fflds, List.lookup, nb_keep_births, nb_keep_kept]
theorem ff_refuse_if_none : (fflds b k).lookup ("refuse_if_none" : Str) = none := by simp only [fflds, List.lookup, nb_refuse_if_none_births, nb_refuse_if_none_kept]
theorem ff_refuse_if_not_held : (fflds b k).lookup ("refuse_if_not_held" : Str) = none := by simp only [fflds, List.lookup, nb_refuse_if_not_held_births, nb_refuse_if_not_held_kept]
def spInitF (A : ClsA) : Sp := fun vs H Q _ => ∃ (p dx : Addr), vs = [.ref p] ∧ H p = some (.ins A.Files dx []) ∧ ∀ b k H', But p H H' → H b = none → H k = none → H' b = some (.dK (sk [])) → H' k = some (.dK (sk [])) → b ≠ k → H' p = some (.ins A.Files dx (fflds b k)) → Q .non H'
theorem sc_Files___init__ : FnScope ["self"] ["self"] (defScope s_Files___init__) := ⟨rfl, rfl, rfl, by decide +kernel, rfl, by decide +kernel, by decide +kernel⟩
theorem ok_Files_init {f : Addr} {fd : FuncData} (F : Fun K "__init__" "Files.__init__" s_Files___init__ f fd) (T : Txt K mg A) : FnOk P w K mg base CX0 true 1 f fd ["self"] (spInitF A) := by
  refine F.ok sc_Files___init__ (fun vs H Q E h => ?_) (fun cdv Ar outer s H vs Q E hr h => ?_)
  · obtain ⟨p, dx, rfl, _⟩ := h; rfl
  · obtain ⟨p, dx, rfl, hp, q⟩ := h
    refine ⟨_, (W.h (w_pss_cons (w_ps_fldU T.cl_Files T.na_Files_births (w_pv 0) w_pe_dnewA)
      (w_pss_one (w_ps_fldU T.cl_Files T.na_Files_kept (w_pv 0) w_pe_dnewA)))), ?_⟩
    simp_all only []
    refine fun b H1 n1 => ⟨dx, [], n1.same _ _ hp, by decide, fun k H2 n2 => ⟨dx, _, n2.same _ _ upd_same, by show 1 < 1000; decide, ?_⟩⟩
    have bp : b ≠ p := fun z => by have := n1.no; rw [z, hp] at this; cases this
    have kp : k ≠ p := fun z => by have := n2.no; rw [z, upd_same] at this; cases this
    have k1 : H1 k = none := by have := n2.no; rw [upd_ne kp] at this; exact this
    have eF : putF ("kept" : Str) (V.ref k) (putF ("births" : Str) (V.ref b) []) = fflds b k := by simp only [putF, fflds, np_births_kept, if_false]
    have e2 : H2 b = some (.dK []) := n2.same _ _ (by rw [upd_ne bp]; exact n1.at_)
    rw [eF]
    refine q b k _ (fun a o n e => ?_) n1.no (n1.same.free k1) (by rw [upd_ne bp]; exact e2) (by rw [upd_ne kp]; exact n2.at_) (fun z => ?_) upd_same
    · rw [upd_ne n]
      exact n2.same _ _ (by rw [upd_ne n]; exact n1.same _ _ e)
    · have := n2.no
      rw [← z, upd_ne bp, n1.at_] at this
      cases this
def spNames (A : ClsA) : Sp := fun vs H Q _ => ∃ (p b k : Addr) (t : Tab) (ks : List (Str × Tab)), vs = [.ref p] ∧ FilesR A H p b k t ks ∧ t.length < 64 ∧ ∀ l H', New H l (.lst ((sortS (names t)).map V.str)) H' → Q (.ref l) H'
theorem sc_Files_names : FnScope ["self"] ["self"] (defScope s_Files_names) := ⟨rfl, rfl, rfl, by decide +kernel, rfl, by decide +kernel, by decide +kernel⟩
theorem ok_Files_names {f : Addr} {fd : FuncData} (F : Fun K "names" "Files.names" s_Files_names f fd) (T : Txt K mg A) : FnOk P w K mg base CX0 true 1 f fd ["self"] (spNames A) := by
  refine F.ok sc_Files_names (fun vs H Q E h => ?_) (fun cdv Ar outer s H vs Q E hr h => ?_)
  · obtain ⟨p, b, k, t, ks, rfl, _⟩ := h; rfl
  · obtain ⟨p, b, k, t, ks, rfl, hF, hl, q⟩ := h
    refine ⟨_, (W.h (w_pss_one (w_ps_ret (w_pe_callBp (call_sortD rfl) rfl T.n_sorted boot_sorted (w_pa_p (w_pe_fldU T.cl_Files T.na_Files_births (w_pv 0)) w_pa_nil))))), ?_⟩
    obtain ⟨dx, e1⟩ := hF.ob
    obtain ⟨kvs, e2, d⟩ := hF.births.ex
    simp_all only [e1, ff_births]
    refine ⟨kvs, e2, by rw [d.length]; exact hl, ?_⟩
    rw [d.names]
    exact q
def lk (t : Tab) (n : Str) : List Int := (look t n).getD []
def spMany (A : ClsA) : Sp := fun vs H Q _ => ∃ (p b k : Addr) (t : Tab) (ks : List (Str × Tab)) (n : Str), vs = [.ref p, .str n] ∧ FilesR A H p b k t ks ∧ ∀ H', Same H H' → Q (.int (lk t n).length) H'
theorem Births.get {H : Hp} {t : Tab} {kvs : List (Str × V)} (d : Dct (TupR H) kvs t) (n : Str) {p : Addr} {H' : Hp} (s : Same H H') (hp : H' p = some (.tup [])) : ∃ a, (look kvs n).getD (.ref p) = .ref a ∧ H' a = some (.tup ((lk t n).map V.int)) := by
  rcases d.look n with ⟨v, l, e1, e2, a, ev, ha⟩ | ⟨e1, e2⟩
  · exact ⟨a, by rw [e1, ev]; rfl, by unfold lk; rw [e2]; exact s _ _ ha⟩
  · exact ⟨p, by rw [e1]; rfl, by unfold lk; rw [e2]; exact hp⟩
theorem sc_Files_many : FnScope ["self", "file"] ["self", "file"] (defScope s_Files_many) := ⟨rfl, rfl, rfl, by decide +kernel, rfl, by decide +kernel, by decide +kernel⟩
theorem ok_Files_many {f : Addr} {fd : FuncData} (F : Fun K "many" "Files.many" s_Files_many f fd) (T : Txt K mg A) : FnOk P w K mg base CX0 true 1 f fd ["self", "file"] (spMany A) := by
  refine F.ok sc_Files_many (fun vs H Q E h => ?_) (fun cdv Ar outer s H vs Q E hr h => ?_)
  · obtain ⟨p, b, k, t, ks, n, rfl, _⟩ := h; rfl
  · obtain ⟨p, b, k, t, ks, n, rfl, hF, q⟩ := h
    refine ⟨_, (W.h (w_pss_one (w_ps_ret (w_pe_callBp call_lenU rfl T.n_len PySem.boot_len (w_pa_p (w_pe_getD (hu_of hr) (w_pe_fldU T.cl_Files T.na_Files_births (w_pv 0)) (w_pv 1) (w_pe_tupA w_pa_nil)) w_pa_nil))))), ?_⟩
    obtain ⟨dx, e1⟩ := hF.ob
    obtain ⟨kvs, e2, d⟩ := hF.births.ex
    simp_all only [e1, ff_births]
    refine ⟨⟨_, e2⟩, Nat.zero_le _, fun p' H2 n2 => ⟨_, Rd.same e2 n2.same, ?_⟩⟩
    obtain ⟨a, ea, ha⟩ := Births.get d n n2.same n2.at_
    rw [valV_sk, ea, uLen_r]
    exact ⟨_, .inr ha, by rw [List.length_map]; exact q H2 n2.same⟩
theorem Dct.some_iff {α : Type} {R : V → α → Prop} {kvs : List (Str × V)} {t : List (Str × α)} (d : Dct R kvs t) (n : Str) : (look kvs n).isSome = (look t n).isSome := by
  rcases d.look n with ⟨v, l, e1, e2, _⟩ | ⟨e1, e2⟩ <;> rw [e1, e2] <;> rfl
def spNoF (A : ClsA) : Sp := fun vs H Q _ => ∃ (p b k : Addr) (t : Tab) (ks : List (Str × Tab)) (n : Str), vs = [.ref p, .str n] ∧ FilesR A H p b k t ks ∧ (look t n).isSome = true ∧ Q .non H
theorem sc_Files_refuse_if_none : FnScope ["self", "file"] ["self", "file"] (defScope s_Files_refuse_if_none) := ⟨rfl, rfl, rfl, by decide +kernel, rfl, by decide +kernel, by decide +kernel⟩
theorem ok_Files_refuse_if_none {f : Addr} {fd : FuncData} (F : Fun K "refuse_if_none" "Files.refuse_if_none" s_Files_refuse_if_none f fd) (T : Txt K mg A) : FnOk P w K mg base CX0 true 1 f fd ["self", "file"] (spNoF A) := by
  refine F.ok sc_Files_refuse_if_none (fun vs H Q E h => ?_) (fun cdv Ar outer s H vs Q E hr h => ?_)
  · obtain ⟨p, b, k, t, ks, n, rfl, _⟩ := h; rfl
  · obtain ⟨p, b, k, t, ks, n, rfl, hF, hn, q⟩ := h
    refine ⟨_, (W.h (w_pss_one (w_ps_if (w_pt_cmpR (op_nin_dict (hu_of hr)) (w_pv 1) (w_pe_fldU T.cl_Files T.na_Files_births (w_pv 0)) rfl)
      (w_pss_one w_ps_dead)
      w_pss_nil))), ?_⟩
    obtain ⟨dx, e1⟩ := hF.ob
    obtain ⟨kvs, e2, d⟩ := hF.births.ex
    simp_all only [e1, ff_births]
    refine ⟨_, e2, ?_⟩
    rw [valV_sk, Dct.some_iff d n, hn]
    exact iteF q
def spNoH (A : ClsA) : Sp := fun vs H Q _ => ∃ (p b k : Addr) (t : Tab) (ks : List (Str × Tab)) (n : Str), vs = [.ref p, .str n] ∧ FilesR A H p b k t ks ∧ (look ks n).isSome = true ∧ Q .non H
theorem sc_Files_refuse_if_not_held : FnScope ["self", "name"] ["self", "name"] (defScope s_Files_refuse_if_not_held) := ⟨rfl, rfl, rfl, by decide +kernel, rfl, by decide +kernel, by decide +kernel⟩
theorem ok_Files_refuse_if_not_held {f : Addr} {fd : FuncData} (F : Fun K "refuse_if_not_held" "Files.refuse_if_not_held" s_Files_refuse_if_not_held f fd) (T : Txt K mg A) : FnOk P w K mg base CX0 true 1 f fd ["self", "name"] (spNoH A) := by
  refine F.ok sc_Files_refuse_if_not_held (fun vs H Q E h => ?_) (fun cdv Ar outer s H vs Q E hr h => ?_)
  · obtain ⟨p, b, k, t, ks, n, rfl, _⟩ := h; rfl
  · obtain ⟨p, b, k, t, ks, n, rfl, hF, hn, q⟩ := h
    refine ⟨_, (W.h (w_pss_one (w_ps_if (w_pt_cmpR (op_nin_dict (hu_of hr)) (w_pv 1) (w_pe_fldU T.cl_Files T.na_Files_kept (w_pv 0)) rfl)
      (w_pss_one w_ps_dead)
      w_pss_nil))), ?_⟩
    obtain ⟨dx, e1⟩ := hF.ob
    obtain ⟨kk, e2, d⟩ := hF.kept
    simp_all only [e1, ff_kept]
    refine ⟨_, e2, ?_⟩
    rw [valV_sk, Dct.some_iff d n, hn]
    exact iteF q
end
abbrev s_Files_birth : Stmt := inClass (top 21) 3
abbrev s_Files_put : Stmt := inClass (top 21) 4
abbrev s_Files_cut : Stmt := inClass (top 21) 5
section
variable {P : Program} {w : World} {K : PySem.W.Frag} {mg : Str → Option Value} {base : Heap} {A : ClsA} {b k : Addr}
theorem within_int {i a b : Int} (h1 : a ≤ i) (h2 : i ≤ b) : withinV (.int i) a b = true := by
  show (decide (a ≤ i) && decide (i ≤ b)) = true
  rw [decide_eq_true h1, decide_eq_true h2]; rfl
theorem cut_to {xs : List V} {i : Int} (h0 : 0 ≤ i) (h1 : i ≤ xs.length) : cutV xs none (some i) = xs.take i.toNat := by
  have e1 : HT.sIx xs.length 0 none = 0 := rfl
  have e2 : HT.sIx xs.length xs.length (some i) = i.toNat := by
    unfold HT.sIx
    simp only
    split <;> omega
  unfold cutV
  rw [e1, e2]; simp
theorem cut_from {xs : List V} {i : Int} (h0 : 0 ≤ i) (h1 : i ≤ xs.length + 1) : cutV xs (some i) none = xs.drop i.toNat := by
  have e1 : HT.sIx xs.length xs.length none = xs.length := rfl
  have e2 : HT.sIx xs.length 0 (some i) = min i.toNat xs.length := by
    unfold HT.sIx
    simp only
    split <;> omega
  unfold cutV
  rw [e1, e2]
  by_cases h : i.toNat ≤ xs.length
  · rw [Nat.min_eq_left h, List.take_of_length_le (by rw [List.length_drop]; omega)]
  · rw [Nat.min_eq_right (by omega), List.drop_eq_nil_of_le (Nat.le_refl _), List.drop_eq_nil_of_le (by omega)]; simp
def spBirth (A : ClsA) : Sp := fun vs H Q _ => ∃ (p b k : Addr) (t : Tab) (ks : List (Str × Tab)) (n : Str) (l : List Int) (i : Int), vs = [.ref p, .str n, .int i] ∧ FilesR A H p b k t ks ∧ look t n = some l ∧ 0 ≤ i ∧ i < l.length ∧ ∀ H', Same H H' → Q (.int (l.getD i.toNat 0)) H'
theorem sc_Files_birth : FnScope ["self", "file", "place"] ["self", "file", "place"] (defScope s_Files_birth) := ⟨rfl, rfl, rfl, by decide +kernel, rfl, by decide +kernel, by decide +kernel⟩
theorem ok_Files_birth {f : Addr} {fd : FuncData} (F : Fun K "birth" "Files.birth" s_Files_birth f fd) (T : Txt K mg A) (M_Files_refuse_if_none : GM P w K mg base true 1 A.Files "refuse_if_none" ["self", "file"] (spNoF A)) (M_Files_many : GM P w K mg base true 1 A.Files "many" ["self", "file"] (spMany A)) (G_is_within : GF P w K mg base true 2 "is_within" ["value", "least", "most"] spWithin) : FnOk P w K mg base CX0 true 4 f fd ["self", "file", "place"] (spBirth A) := by
  refine F.ok sc_Files_birth (fun vs H Q E h => ?_) (fun cdv Ar outer s H vs Q E hr h => ?_)
  · obtain ⟨p, b, k, t, ks, n, l, i, rfl, _⟩ := h; rfl
  · obtain ⟨p, b, k, t, ks, n, l, i, rfl, hF, hn, i0, i1, q⟩ := h
    refine ⟨_, (W.h (w_pss_cons (w_ps_expr (w_pe_m (w_pv 0) T.cl_Files M_Files_refuse_if_none hr (w_pa_p (w_pv 1) w_pa_nil)))
      (w_pss_cons (w_ps_if (w_pt_not (w_pt_tru (w_pe_g G_is_within hr rfl (w_pa_p (w_pv 2) (w_pa_p w_pe_int (w_pa_p (w_pe_op op_sub (w_pe_m (w_pv 0) T.cl_Files M_Files_many hr (w_pa_p (w_pv 1) w_pa_nil)) w_pe_int) w_pa_nil))))))
      (w_pss_one w_ps_dead)
      w_pss_nil)
      (w_pss_one (w_ps_ret (w_pe_ix ix_U (w_pe_ix (ix_dict (hu_of hr)) (w_pe_fldU T.cl_Files T.na_Files_births (w_pv 0)) (w_pv 1) (fun _ _ => rfl)) (w_pv 2) (fun _ _ => rfl))))))), ?_⟩
    obtain ⟨dx, e1⟩ := hF.ob
    simp_all only [e1, ff_births, ff_refuse_if_none, ff_many]
    refine ⟨p, b, k, t, ks, n, rfl, hF, by rw [hn]; rfl, ?_⟩
    simp_all only [e1, ff_births, ff_refuse_if_none, ff_many]
    refine ⟨p, b, k, t, ks, n, rfl, hF, fun H1 s1 => ?_⟩
    have F1 := hF.same s1
    obtain ⟨dx', e1'⟩ := F1.ob
    obtain ⟨kvs, e2, d⟩ := F1.births.ex
    have el : lk t n = l := by unfold lk; rw [hn]; rfl
    simp_all only []
    refine ⟨_, _, _, rfl, .int i, ?_⟩
    rw [within_int i0 (by rw [el]; omega)]
    simp_all only [e1', ff_births]
    refine ⟨_, e2, ?_⟩
    rcases d.look n with ⟨v, l', d1, d2, a, ev, ha⟩ | ⟨_, d2⟩
    · rw [hn] at d2
      cases d2
      subst ev
      refine ⟨.ref a, by rw [valV_sk]; exact d1, ?_⟩
      rw [uIx_r]
      have hi : i.toNat < l.length := by omega
      refine ⟨_, .inr ha, .int (l.getD i.toNat 0), ?_, q H1 s1⟩
      have z : atI (l.map V.int) ((i.toNat : Nat) : Int) = some (.int (l[i.toNat])) := atI_nat (by rw [List.getElem?_map, List.getElem?_eq_getElem hi]; rfl)
      rw [show ((i.toNat : Nat) : Int) = i by omega] at z
      rw [z, List.getD_eq_getElem?_getD, List.getElem?_eq_getElem hi]; rfl
    · rw [hn] at d2; cases d2
def spPut (A : ClsA) : Sp := fun vs H Q _ => ∃ (p b k : Addr) (t : Tab) (ks : List (Str × Tab)) (n : Str) (i x : Int), vs = [.ref p, .str n, .int i, .int x] ∧ FilesAt A H p b k t ks ∧ 0 ≤ i ∧ i ≤ (lk t n).length ∧ (lk t n).length ≤ 1000 ∧ t.length ≤ 1000 ∧
  ∀ H', But b H H' → FilesAt A H' p b k (putA t n ((lk t n).take i.toNat ++ [x] ++ (lk t n).drop (i.toNat + 1))) ks → Q .non H'
theorem sc_Files_put : FnScope ["self", "file", "place", "birth", "births"] ["self", "file", "place", "birth"] (defScope s_Files_put) := ⟨rfl, rfl, rfl, by decide +kernel, rfl, by decide +kernel, by decide +kernel⟩
theorem ok_Files_put {f : Addr} {fd : FuncData} (F : Fun K "put" "Files.put" s_Files_put f fd) (T : Txt K mg A) (M_Files_many : GM P w K mg base true 1 A.Files "many" ["self", "file"] (spMany A)) (G_is_within : GF P w K mg base true 2 "is_within" ["value", "least", "most"] spWithin) : FnOk P w K mg base CX0 true 4 f fd ["self", "file", "place", "birth"] (spPut A) := by
  refine F.ok sc_Files_put (fun vs H Q E h => ?_) (fun cdv Ar outer s H vs Q E hr h => ?_)
  · obtain ⟨p, b, k, t, ks, n, i, x, rfl, _⟩ := h; rfl
  · obtain ⟨p, b, k, t, ks, n, i, x, rfl, hF, i0, i1, l1, t1, q⟩ := h
    refine ⟨_, (W.h (w_pss_cons (w_ps_if (w_pt_not (w_pt_tru (w_pe_g G_is_within hr rfl (w_pa_p (w_pv 2) (w_pa_p w_pe_int (w_pa_p (w_pe_m (w_pv 0) T.cl_Files M_Files_many hr (w_pa_p (w_pv 1) w_pa_nil)) w_pa_nil))))))
      (w_pss_one w_ps_dead)
      w_pss_nil)
      (w_pss_cons (w_ps_set (i := 4) sc_Files_put.nd rfl (Or.inl rfl) (w_pe_getD (hu_of hr) (w_pe_fldU T.cl_Files T.na_Files_births (w_pv 0)) (w_pv 1) (w_pe_tupA w_pa_nil)))
      (w_pss_one (w_ps_asg (w_pe_op op_addT (w_pe_op op_addT (w_pe_slice sl_T (w_pv 4) w_po_none (w_po_some (w_pv 2))) (w_pe_tupA (w_pa_p (w_pv 3) w_pa_nil))) (w_pe_slice sl_T (w_pv 4) (w_po_some (w_pe_op op_addT (w_pv 2) w_pe_int)) w_po_none)) (w_pg_sub (w_pe_fldU T.cl_Files T.na_Files_births (w_pv 0)) (w_pv 1) (set_D (hu_of hr)))))))), ?_⟩
    obtain ⟨dx, e1⟩ := hF.ob
    simp_all only [e1, ff_births, ff_many]
    refine ⟨p, b, k, t, ks, n, rfl, hF.r, fun H1 s1 => ?_⟩
    have F1 := hF.same s1
    obtain ⟨dx', e1'⟩ := F1.ob
    obtain ⟨kvs, e2, d⟩ := F1.births.ex
    simp_all only []
    refine ⟨_, _, _, rfl, .int i, ?_⟩
    rw [within_int i0 i1]
    simp_all only [e1', ff_births]
    refine ⟨⟨_, .inl e2⟩, Nat.zero_le _, fun p1 H2 n2 => ⟨_, .inl (n2.same _ _ e2), ?_⟩⟩
    obtain ⟨a, ea, ha⟩ := Births.get d n n2.same n2.at_
    rw [valV_sk, ea]
    simp_all only [ha]
    intro p2 H3 s3 e3
    refine ⟨by decide, fun p3 H4 n4 => ?_⟩
    rw [cut_to i0 (by rw [List.length_map]; exact i1)] at e3
    have big : ∀ n : Nat, n ≤ 100000 → n ≤ sizeLine := fun n h => Nat.le_trans h (by decide)
    refine .inr ⟨_, n4.same _ _ e3, _, n4.at_, big _ (by simp; omega), fun p4 H5 s5 e5 => ?_⟩
    have ha5 := s5 _ _ (n4.same _ _ (s3 _ _ ha))
    refine .inr ⟨_, ha5, fun p6 H6 s6 e6 => ?_⟩
    rw [cut_from (by omega) (by rw [List.length_map]; omega)] at e6
    refine .inr ⟨_, s6 _ _ e5, _, e6, big _ (by simp; omega), fun p7 H7 s7 e7 => ?_⟩
    have sB : Same H1 H7 := ((((n2.same.trans s3).trans n4.same).trans s5).trans s6).trans s7
    have F7 := F1.same sB
    obtain ⟨dx7, e17⟩ := F7.ob
    simp_all only [e17, ff_births]
    refine ⟨_, sB _ _ e2, by rw [sk_len, d.length]; exact Nat.lt_of_le_of_lt t1 (by decide), ?_⟩
    rw [putK_sk]
    have bt : ∀ xs, H7 b ≠ some (.tup xs) := fun xs z => by rw [sB _ _ e2] at z; cases z
    have et : (i + 1).toNat = i.toNat + 1 := by omega
    have d7 : Dct (TupR H7) kvs t := d.imp fun v a r => r.same sB
    have r7 : TupR H7 (.ref p7) ((lk t n).take i.toNat ++ [x] ++ (lk t n).drop (i.toNat + 1)) := ⟨p7, rfl, by rw [e7, et]; simp [List.map_take, List.map_drop]⟩
    refine q _ (fun c o nc e => by rw [upd_ne nc]; exact sB _ _ (s1 _ _ e)) (F7.setB But.upd upd_same ((d7.put n r7).imp fun v a r => r.but But.upd bt) (nd_putA hF.births.nd))
def cutT (t : Tab) (n : Str) (m : Int) : Tab := if m = 0 then dropA t n else putA t n ((lk t n).take m.toNat)
def spCut (A : ClsA) : Sp := fun vs H Q _ => ∃ (p b k : Addr) (t : Tab) (ks : List (Str × Tab)) (n : Str) (l : List Int) (m : Int), vs = [.ref p, .str n, .int m] ∧ FilesAt A H p b k t ks ∧ look t n = some l ∧ 0 ≤ m ∧ m ≤ l.length ∧ t.length ≤ 1000 ∧ ∀ H', But b H H' → FilesAt A H' p b k (cutT t n m) ks → Q .non H'
theorem sc_Files_cut : FnScope ["self", "file", "many"] ["self", "file", "many"] (defScope s_Files_cut) := ⟨rfl, rfl, rfl, by decide +kernel, rfl, by decide +kernel, by decide +kernel⟩
theorem ok_Files_cut {f : Addr} {fd : FuncData} (F : Fun K "cut" "Files.cut" s_Files_cut f fd) (T : Txt K mg A) (M_Files_refuse_if_none : GM P w K mg base true 1 A.Files "refuse_if_none" ["self", "file"] (spNoF A)) (M_Files_many : GM P w K mg base true 1 A.Files "many" ["self", "file"] (spMany A)) (G_is_within : GF P w K mg base true 2 "is_within" ["value", "least", "most"] spWithin) : FnOk P w K mg base CX0 true 4 f fd ["self", "file", "many"] (spCut A) := by
  refine F.ok sc_Files_cut (fun vs H Q E h => ?_) (fun cdv Ar outer s H vs Q E hr h => ?_)
  · obtain ⟨p, b, k, t, ks, n, l, m, rfl, _⟩ := h; rfl
  · obtain ⟨p, b, k, t, ks, n, l, m, rfl, hF, hn, m0, m1, t1, q⟩ := h
    have hu : _ < cLine := Nat.lt_of_succ_lt (hu_of hr)
    refine ⟨_, (W.h (w_pss_cons (w_ps_expr (w_pe_m (w_pv 0) T.cl_Files M_Files_refuse_if_none hr (w_pa_p (w_pv 1) w_pa_nil)))
      (w_pss_cons (w_ps_if (w_pt_not (w_pt_tru (w_pe_g G_is_within hr rfl (w_pa_p (w_pv 2) (w_pa_p w_pe_int (w_pa_p (w_pe_m (w_pv 0) T.cl_Files M_Files_many hr (w_pa_p (w_pv 1) w_pa_nil)) w_pa_nil))))))
      (w_pss_one w_ps_dead)
      w_pss_nil)
      (w_pss_one (w_ps_if (w_pt_cmpR (op_eqU hu) (w_pv 2) w_pe_int (nomark _))
      (w_pss_one (w_ps_del (w_pe_fldU T.cl_Files T.na_Files_births (w_pv 0)) (w_pv 1)))
      (w_pss_one (w_ps_asg (w_pe_slice sl_T (w_pe_ix (ix_dict (hu_of hr)) (w_pe_fldU T.cl_Files T.na_Files_births (w_pv 0)) (w_pv 1) (fun _ _ => rfl)) w_po_none (w_po_some (w_pv 2))) (w_pg_sub (w_pe_fldU T.cl_Files T.na_Files_births (w_pv 0)) (w_pv 1) (set_D (hu_of hr)))))))))), ?_⟩
    obtain ⟨dx, e1⟩ := hF.ob
    simp_all only [e1, ff_births, ff_refuse_if_none, ff_many]
    refine ⟨p, b, k, t, ks, n, rfl, hF.r, by rw [hn]; rfl, ?_⟩
    simp_all only [e1, ff_births, ff_refuse_if_none, ff_many]
    refine ⟨p, b, k, t, ks, n, rfl, hF.r, fun H1 s1 => ?_⟩
    have F1 := hF.same s1
    obtain ⟨dx', e1'⟩ := F1.ob
    obtain ⟨kvs, e2, d⟩ := F1.births.ex
    have el : lk t n = l := by unfold lk; rw [hn]; rfl
    simp_all only []
    refine ⟨_, _, _, rfl, .int m, ?_⟩
    rw [within_int m0 (by rw [el]; omega)]
    simp_all only [e1', ff_births]
    have bt : ∀ xs, H1 b ≠ some (.tup xs) := fun xs z => by rw [e2] at z; cases z
    obtain ⟨v, l', d1, d2, a, ev, ha⟩ : ∃ v l', look kvs n = some v ∧ look t n = some l' ∧ TupR H1 v l' := by
      rcases d.look n with ⟨v, l', d1, d2, r⟩ | ⟨_, d2⟩
      · exact ⟨v, l', d1, d2, r⟩
      · rw [hn] at d2; cases d2
    rw [hn] at d2
    cases d2
    subst ev
    refine ite2 (fun h => ?_) (fun h => ?_)
    · have hm : m = 0 := of_decide_eq_true h
      refine ⟨_, e2, by rw [valV_sk, d1]; rfl, ?_⟩
      rw [dropK_sk]
      have ec : cutT t n m = dropA t n := if_pos hm
      refine q _ (fun c o nc e => by rw [upd_ne nc]; exact s1 _ _ e) ?_
      rw [ec]
      exact F1.setB But.upd upd_same ((d.drop n).imp fun v a r => r.but But.upd bt) (nd_dropA hF.births.nd)
    · have hm : ¬ m = 0 := fun z => h (decide_eq_true z)
      refine ⟨_, .inl e2, .ref a, by rw [valV_sk]; exact d1, ?_⟩
      simp_all only [ha]
      intro p2 H2 s2 ep
      rw [cut_to m0 (by rw [List.length_map]; exact m1)] at ep
      have F2 := F1.same s2
      obtain ⟨dx2, e12⟩ := F2.ob
      simp_all only [e12, ff_births]
      refine ⟨_, s2 _ _ e2, by rw [sk_len, d.length]; exact Nat.lt_of_le_of_lt t1 (by decide), ?_⟩
      rw [putK_sk]
      have bt2 : ∀ xs, H2 b ≠ some (.tup xs) := fun xs z => by rw [s2 _ _ e2] at z; cases z
      have d2 : Dct (TupR H2) kvs t := d.imp fun v a r => r.same s2
      have r2 : TupR H2 (.ref p2) ((lk t n).take m.toNat) := ⟨p2, rfl, by rw [ep, el, List.map_take]⟩
      have ec : cutT t n m = putA t n ((lk t n).take m.toNat) := if_neg hm
      refine q _ (fun c o nc e => by rw [upd_ne nc]; exact s2 _ _ (s1 _ _ e)) ?_
      rw [ec]
      exact F2.setB But.upd upd_same ((d2.put n r2).imp fun v a r => r.but But.upd bt2) (nd_putA hF.births.nd)
end
abbrev s_Files_hold : Stmt := inClass (top 21) 6
abbrev s_Files_free : Stmt := inClass (top 21) 7
abbrev s_Files_held : Stmt := inClass (top 21) 8
abbrev s_Files_of_held : Stmt := inClass (top 21) 9
abbrev s_Files_bare : Stmt := inClass (top 21) 12
abbrev s_Files_keep : Stmt := inClass (top 21) 13
section
variable {P : Program} {w : World} {K : PySem.W.Frag} {mg : Str → Option Value} {base : Heap} {A : ClsA} {b k : Addr}
def spHeld (A : ClsA) : Sp := fun vs H Q _ => ∃ (p b k : Addr) (t : Tab) (ks : List (Str × Tab)), vs = [.ref p] ∧ FilesR A H p b k t ks ∧ ks.length < 64 ∧ ∀ l H', New H l (.lst ((sortS (names ks)).map V.str)) H' → Q (.ref l) H'
theorem sc_Files_held : FnScope ["self"] ["self"] (defScope s_Files_held) := ⟨rfl, rfl, rfl, by decide +kernel, rfl, by decide +kernel, by decide +kernel⟩
theorem ok_Files_held {f : Addr} {fd : FuncData} (F : Fun K "held" "Files.held" s_Files_held f fd) (T : Txt K mg A) : FnOk P w K mg base CX0 true 1 f fd ["self"] (spHeld A) := by
  refine F.ok sc_Files_held (fun vs H Q E h => ?_) (fun cdv Ar outer s H vs Q E hr h => ?_)
  · obtain ⟨p, b, k, t, ks, rfl, _⟩ := h; rfl
  · obtain ⟨p, b, k, t, ks, rfl, hF, hl, q⟩ := h
    refine ⟨_, (W.h (w_pss_one (w_ps_ret (w_pe_callBp (call_sortD rfl) rfl T.n_sorted boot_sorted (w_pa_p (w_pe_fldU T.cl_Files T.na_Files_kept (w_pv 0)) w_pa_nil))))), ?_⟩
    obtain ⟨dx, e1⟩ := hF.ob
    obtain ⟨kk, e2, d⟩ := hF.kept
    simp_all only [e1, ff_kept]
    refine ⟨kk, e2, by rw [d.length]; exact hl, ?_⟩
    rw [d.names]
    exact q
/-- what may be bared -/
structure Has (A : ClsA) (H : Hp) (p : Addr) (t : Tab) : Prop where
  ob : ∃ b k dx, H p = some (.ins A.Files dx (fflds b k)) ∧ BirthsR H b t
theorem FilesAt.has {H : Hp} {p : Addr} {t : Tab} {ks : List (Str × Tab)} (h : FilesAt A H p b k t ks) : Has A H p t := let ⟨dx, e⟩ := h.ob; ⟨b, k, dx, e, h.births.r⟩
theorem Bare.has {H : Hp} {p : Addr} {t : Tab} (h : Bare A H p b k t) : Has A H p t := let ⟨dx, e⟩ := h.ob; ⟨b, k, dx, e, h.births⟩
def spBare (A : ClsA) : Sp := fun vs H Q _ => ∃ (p : Addr) (t : Tab), vs = [.ref p] ∧ Has A H p t ∧ ∀ q b' k' H', Same H H' → H b' = none → H k' = none → H q = none → Bare A H' q b' k' t → Q (.ref q) H'
theorem sc_Files_bare : FnScope ["self", "other"] ["self"] (defScope s_Files_bare) := ⟨rfl, rfl, rfl, by decide +kernel, rfl, by decide +kernel, by decide +kernel⟩
theorem ok_Files_bare {f : Addr} {fd : FuncData} (F : Fun K "bare" "Files.bare" s_Files_bare f fd) (T : Txt K mg A) (G_Files : GC P w K mg base true 1 "Files" A.Files ["self"] (spInitF A)) : FnOk P w K mg base CX0 true 3 f fd ["self"] (spBare A) := by
  refine F.ok sc_Files_bare (fun vs H Q E h => ?_) (fun cdv Ar outer s H vs Q E hr h => ?_)
  · obtain ⟨p, t, rfl, _⟩ := h; rfl
  · obtain ⟨p, t, rfl, ⟨b, k, dx, e1, hB⟩, q⟩ := h
    refine ⟨_, (W.h (w_pss_cons (w_ps_set (i := 1) sc_Files_bare.nd rfl (Or.inl rfl) (w_pe_c0 G_Files hr rfl))
      (w_pss_cons (w_ps_fldU T.cl_Files T.na_Files_births (w_pv 1) (w_pe_callTyp call_dictU rfl T.n_dict boot_dict (w_pa_p (w_pe_fldU T.cl_Files T.na_Files_births (w_pv 0)) w_pa_nil)))
      (w_pss_one (w_ps_ret (w_pv 1)))))), ?_⟩
    obtain ⟨kvs, e2, d⟩ := hB.ex
    simp_all only [e1, ff_births]
    refine fun x dx2 H2 nI => ⟨x, dx2, rfl, nI.at_, fun b1 k1 H3 s3 nb nk eb ek nbk ex => ⟨rfl, ?_⟩⟩
    have px : ∀ c o, H c = some o → c ≠ x := fun c o e z => by have := nI.no; rw [← z, e] at this; cases this
    have s03 : ∀ c o, H c = some o → H3 c = some o := fun c o e => s3 c o (px c o e) (nI.same c o e)
    have e13 := s03 _ _ e1
    simp_all only [e13, ff_births]
    refine ⟨_, Rd.same e2 s03, fun b2 H4 n4 => ⟨dx2, _, n4.same _ _ ex, by show 2 < 1000; decide, ?_⟩⟩
    have eF : putF ("births" : Str) (V.ref b2) (fflds b1 k1) = fflds b2 k1 := by simp only [putF, fflds, if_true]
    rw [eF]
    have b2x : b2 ≠ x := fun z => by have := n4.no; rw [z, ex] at this; cases this
    have k1x : k1 ≠ x := fun z => by rw [z, ex] at ek; cases ek
    have sF : Same H (upd H4 x (.ins A.Files dx2 (fflds b2 k1))) := fun c o e => by rw [upd_ne (px c o e)]; exact n4.same _ _ (s03 c o e)
    have fr : ∀ c, H3 c = none → H c = none := fun c e => by
      cases h : H c with
      | none => rfl
      | some o => rw [s03 c o h] at e; cases e
    have k0 : H k1 = none := nI.same.free nk
    refine q x b2 k1 _ sF (fr b2 n4.no) k0 nI.no ⟨⟨dx2, upd_same⟩, ⟨⟨kvs, .inl (by rw [upd_ne b2x]; exact n4.at_), d.imp fun v a r => r.same sF⟩, hB.nd⟩, .inl (by rw [upd_ne k1x]; exact n4.same _ _ ek)⟩
def spKeep (A : ClsA) : Sp := fun vs H Q _ => ∃ (p b k : Addr) (t : Tab) (ks : List (Str × Tab)) (n : Str) (q : Addr) (u : Tab), vs = [.ref p, .str n, .ref q] ∧ FilesAt A H p b k t ks ∧ Has A H q u ∧ ks.length ≤ 1000 ∧ ∀ H', But k H H' → FilesAt A H' p b k t (putA ks n u) → Q .non H'
theorem sc_Files_keep : FnScope ["self", "name", "files"] ["self", "name", "files"] (defScope s_Files_keep) := ⟨rfl, rfl, rfl, by decide +kernel, rfl, by decide +kernel, by decide +kernel⟩
theorem ok_Files_keep {f : Addr} {fd : FuncData} (F : Fun K "keep" "Files.keep" s_Files_keep f fd) (T : Txt K mg A) (M_Files_bare : GM P w K mg base true 3 A.Files "bare" ["self"] (spBare A)) : FnOk P w K mg base CX0 true 4 f fd ["self", "name", "files"] (spKeep A) := by
  refine F.ok sc_Files_keep (fun vs H Q E h => ?_) (fun cdv Ar outer s H vs Q E hr h => ?_)
  · obtain ⟨p, b, k, t, ks, n, q, u, rfl, _⟩ := h; rfl
  · obtain ⟨p, b, k, t, ks, n, qa, u, rfl, hF, hQ, kl, q⟩ := h
    refine ⟨_, (W.h (w_pss_one (w_ps_asg (w_pe_m0 (w_pv 2) T.cl_Files M_Files_bare hr) (w_pg_sub (w_pe_fldU T.cl_Files T.na_Files_kept (w_pv 0)) (w_pv 1) (set_D (hu_of hr)))))), ?_⟩
    obtain ⟨dx, e1⟩ := hF.ob
    obtain ⟨bq, kq, dxq, eq1, _⟩ := hQ.ob
    simp_all only [eq1, ff_bare]
    refine ⟨qa, u, rfl, hQ, fun x b' k' H1 s1 nb nk nx hB => ?_⟩
    have F1 := hF.same s1
    obtain ⟨dx1, e11⟩ := F1.ob
    obtain ⟨kk, e2, d⟩ := F1.kept
    obtain ⟨kvb, eb, _⟩ := hF.births.ex
    obtain ⟨kk0, ek, _⟩ := hF.kept
    simp_all only [e11, ff_kept]
    refine ⟨_, e2, by rw [sk_len, d.length]; exact Nat.lt_of_le_of_lt kl (by decide), ?_⟩
    rw [putK_sk]
    have ne : ∀ c o, H c = some o → ∀ e, H e = none → e ≠ c := fun c o h e he z => by rw [z, h] at he; cases he
    have r : KeptR A H1 b k (.ref x) u := ⟨x, b', k', rfl, hB, ne _ _ eb _ nb, ne _ _ ek _ nb, ne _ _ eb _ nk, ne _ _ ek _ nk⟩
    exact q _ (fun c o nc e => by rw [upd_ne nc]; exact s1 _ _ e) (F1.setK But.upd upd_same ((d.put n r).imp fun v a r => r.but But.upd e2) (nd_putA hF.ndk))
def spHold (A : ClsA) : Sp := fun vs H Q _ => ∃ (p b k : Addr) (t : Tab) (ks : List (Str × Tab)) (n : Str), vs = [.ref p, .str n] ∧ FilesAt A H p b k t ks ∧ look ks n = none ∧ ks.length ≤ 1000 ∧ ∀ H', But k H H' → FilesAt A H' p b k t (putA ks n t) → Q .non H'
theorem sc_Files_hold : FnScope ["self", "name"] ["self", "name"] (defScope s_Files_hold) := ⟨rfl, rfl, rfl, by decide +kernel, rfl, by decide +kernel, by decide +kernel⟩
theorem ok_Files_hold {f : Addr} {fd : FuncData} (F : Fun K "hold" "Files.hold" s_Files_hold f fd) (T : Txt K mg A) (M_Files_keep : GM P w K mg base true 4 A.Files "keep" ["self", "name", "files"] (spKeep A)) : FnOk P w K mg base CX0 true 5 f fd ["self", "name"] (spHold A) := by
  refine F.ok sc_Files_hold (fun vs H Q E h => ?_) (fun cdv Ar outer s H vs Q E hr h => ?_)
  · obtain ⟨p, b, k, t, ks, n, rfl, _⟩ := h; rfl
  · obtain ⟨p, b, k, t, ks, n, rfl, hF, hn, kl, q⟩ := h
    refine ⟨_, (W.h (w_pss_cons (w_ps_if (w_pt_cmpR (op_in_dict (hu_of hr)) (w_pv 1) (w_pe_fldU T.cl_Files T.na_Files_kept (w_pv 0)) rfl)
      (w_pss_one w_ps_dead)
      w_pss_nil)
      (w_pss_one (w_ps_expr (w_pe_m (w_pv 0) T.cl_Files M_Files_keep hr (w_pa_p (w_pv 1) (w_pa_p (w_pv 0) w_pa_nil))))))), ?_⟩
    obtain ⟨dx, e1⟩ := hF.ob
    obtain ⟨kk, e2, d⟩ := hF.kept
    simp_all only [e1, ff_kept, ff_keep]
    refine ⟨_, .inl e2, ?_⟩
    rw [valV_sk, Dct.some_iff d n, hn]
    exact iteF ⟨p, b, k, t, ks, n, p, t, rfl, hF, hF.has, kl, q⟩
def spFree (A : ClsA) : Sp := fun vs H Q _ => ∃ (p b k : Addr) (t : Tab) (ks : List (Str × Tab)) (n : Str), vs = [.ref p, .str n] ∧ FilesAt A H p b k t ks ∧ (look ks n).isSome = true ∧ ∀ H', But k H H' → FilesAt A H' p b k t (dropA ks n) → Q .non H'
theorem sc_Files_free : FnScope ["self", "name"] ["self", "name"] (defScope s_Files_free) := ⟨rfl, rfl, rfl, by decide +kernel, rfl, by decide +kernel, by decide +kernel⟩
theorem ok_Files_free {f : Addr} {fd : FuncData} (F : Fun K "free" "Files.free" s_Files_free f fd) (T : Txt K mg A) (M_Files_refuse_if_not_held : GM P w K mg base true 1 A.Files "refuse_if_not_held" ["self", "name"] (spNoH A)) : FnOk P w K mg base CX0 true 3 f fd ["self", "name"] (spFree A) := by
  refine F.ok sc_Files_free (fun vs H Q E h => ?_) (fun cdv Ar outer s H vs Q E hr h => ?_)
  · obtain ⟨p, b, k, t, ks, n, rfl, _⟩ := h; rfl
  · obtain ⟨p, b, k, t, ks, n, rfl, hF, hn, q⟩ := h
    refine ⟨_, (W.h (w_pss_cons (w_ps_expr (w_pe_m (w_pv 0) T.cl_Files M_Files_refuse_if_not_held hr (w_pa_p (w_pv 1) w_pa_nil)))
      (w_pss_one (w_ps_del (w_pe_fldU T.cl_Files T.na_Files_kept (w_pv 0)) (w_pv 1))))), ?_⟩
    obtain ⟨dx, e1⟩ := hF.ob
    obtain ⟨kk, e2, d⟩ := hF.kept
    simp_all only [e1, ff_kept, ff_refuse_if_not_held]
    refine ⟨p, b, k, t, ks, n, rfl, hF.r, hn, ?_⟩
    simp_all only [e1, ff_kept, ff_refuse_if_not_held]
    refine ⟨_, e2, by rw [valV_sk, Dct.some_iff d n]; exact hn, ?_⟩
    rw [dropK_sk]
    exact q _ But.upd (hF.setK But.upd upd_same ((d.drop n).imp fun v a r => r.but But.upd e2) (nd_dropA hF.ndk))
def spOfHeld (A : ClsA) : Sp := fun vs H Q _ => ∃ (p b k : Addr) (t : Tab) (ks : List (Str × Tab)) (n : Str) (u : Tab), vs = [.ref p, .str n] ∧ FilesR A H p b k t ks ∧ look ks n = some u ∧ ∀ q b' k' H', Same H H' → H b' = none → H k' = none → H q = none → Bare A H' q b' k' u → Q (.ref q) H'
theorem sc_Files_of_held : FnScope ["self", "name"] ["self", "name"] (defScope s_Files_of_held) := ⟨rfl, rfl, rfl, by decide +kernel, rfl, by decide +kernel, by decide +kernel⟩
theorem ok_Files_of_held {f : Addr} {fd : FuncData} (F : Fun K "of_held" "Files.of_held" s_Files_of_held f fd) (T : Txt K mg A) (M_Files_refuse_if_not_held : GM P w K mg base true 1 A.Files "refuse_if_not_held" ["self", "name"] (spNoH A)) (M_Files_bare : GM P w K mg base true 3 A.Files "bare" ["self"] (spBare A)) : FnOk P w K mg base CX0 true 4 f fd ["self", "name"] (spOfHeld A) := by
  refine F.ok sc_Files_of_held (fun vs H Q E h => ?_) (fun cdv Ar outer s H vs Q E hr h => ?_)
  · obtain ⟨p, b, k, t, ks, n, u, rfl, _⟩ := h; rfl
  · obtain ⟨p, b, k, t, ks, n, u, rfl, hF, hn, q⟩ := h
    refine ⟨_, (W.h (w_pss_cons (w_ps_expr (w_pe_m (w_pv 0) T.cl_Files M_Files_refuse_if_not_held hr (w_pa_p (w_pv 1) w_pa_nil)))
      (w_pss_one (w_ps_ret (w_pe_m0 (w_pe_ix (ix_dict (hu_of hr)) (w_pe_fldU T.cl_Files T.na_Files_kept (w_pv 0)) (w_pv 1) (fun _ _ => rfl)) T.cl_Files M_Files_bare hr))))), ?_⟩
    obtain ⟨dx, e1⟩ := hF.ob
    obtain ⟨kk, e2, d⟩ := hF.kept
    simp_all only [e1, ff_kept, ff_refuse_if_not_held]
    refine ⟨p, b, k, t, ks, n, rfl, hF, by rw [hn]; rfl, ?_⟩
    simp_all only [e1, ff_kept, ff_refuse_if_not_held]
    refine ⟨_, e2, ?_⟩
    rcases d.look n with ⟨v, u', d1, d2, x, b', k', ev, hB, _⟩ | ⟨_, d2⟩
    · rw [hn] at d2
      cases d2
      subst ev
      obtain ⟨dxx, exx⟩ := hB.ob
      refine ⟨.ref x, by rw [valV_sk]; exact d1, x, rfl, dxx, _, exx, ff_bare, x, u, rfl, hB.has, q⟩
    · rw [hn] at d2; cases d2
end
/-! ### what is asked of texts -/
def madeS (z y : Str) (m : Int) : Bool := decide (1 ≤ (z.length : Int)) && decide ((z.length : Int) ≤ m) && (sg z).all fun c => (sg y).contains c
def FIG : Str := "0123456789"
def LET : Str := "abcdefghijklmnopqrstuvwxyz"
def numS (z : Str) : Bool := madeS z FIG 18 && (decide (z = "0") || !decide (tx ((sg z).take 1) = "0"))
def nameS (z : Str) : Bool := madeS z LET 6
def spMade : Sp := fun vs H Q _ => ∃ z y m, vs = [.str z, .str y, .int m] ∧ asc z = true ∧ z.length ≤ 100000 ∧ ∀ H', Same H H' → Q (.bl (madeS z y m)) H'
def spTest (p : Str → Bool) : Sp := fun vs H Q _ => ∃ z, vs = [.str z] ∧ asc z = true ∧ z.length ≤ 100000 ∧ ∀ H', Same H H' → Q (.bl (p z)) H'
theorem big5 {n : Nat} (h : n ≤ 1000000) : n ≤ sizeLine := Nat.le_trans h (by decide)
theorem big5' {n : Nat} (h : n ≤ 1000000) : n < sizeLine := Nat.lt_of_le_of_lt h (by decide)
abbrev s_is_made_of : Stmt := top 15
abbrev s_is_number_text : Stmt := top 16
abbrev s_is_name : Stmt := top 17
section
variable {P : Program} {w : World} {K : PySem.W.Frag} {mg : Str → Option Value} {base : Heap} {A : ClsA}
structure MadeInv (H : Hp) (z y : Str) (i : Nat) (τ : L2.St) (ys : List V) (H' : Hp) : Prop where
  ex : ∃ t, τ = [t, some (V.str y)]
  ys : ys = (((sg z).take i).map fun c => (sg y).contains c).map V.bl
  same : H' = H
theorem sc_is_made_of : FnScope ["text", "signs", "most"] ["text", "signs", "most"] (defScope s_is_made_of) := ⟨rfl, rfl, rfl, by decide +kernel, rfl, by decide +kernel, by decide +kernel⟩
theorem lc_is_made_of_0 : lcStat { kind := .function, names := [(Str.ofString ".0", .local), (Str.ofString "sign", .local), (Str.ofString "signs", .free)], isGenerator := false, isCoroutine := false, more := [] } (defScope s_is_made_of).names ["text", "signs", "most"] ["sign", "signs"] [none, some 1] = true := by decide +kernel
theorem lcn_is_made_of_0 : (["sign", "signs"] : List Str).Nodup := by decide +kernel
theorem ok_is_made_of {f : Addr} {fd : FuncData} (F : Fun K "is_made_of" "is_made_of" s_is_made_of f fd) (T : Txt K mg A) : FnOk P w K mg base CX0 true 1 f fd ["text", "signs", "most"] spMade := by
  refine F.ok sc_is_made_of (fun vs H Q E h => ?_) (fun cdv Ar outer s H vs Q E hr h => ?_)
  · obtain ⟨z, y, m, rfl, _⟩ := h; rfl
  · obtain ⟨z, y, m, rfl, ha, hz, q⟩ := h
    have hu : _ < cLine := Nat.lt_of_succ_lt (hu_of hr)
    refine ⟨_, (W.h (w_pss_one (w_ps_ret (w_pe_and (w_pe_chain op_le op_le w_pe_int (w_pe_callBp call_lenU rfl T.n_len PySem.boot_len (w_pa_p (w_pv 0) w_pa_nil)) (w_pv 2)) (w_pe_one (w_pe_callBp (call_allU rfl) rfl T.n_all boot_all (w_pa_p (w_pe_lc (fun _ => rfl) (LcOk.of lc_is_made_of_0) (w_pi_str (w_pv 0)) (fun _ _ _ _ _ => (w_pg_name (i := 0) lcn_is_made_of_0 rfl (Or.inl rfl))) (fun _ _ _ _ _ => w_pts_nil) (fun _ _ _ _ _ => (w_pe_cmpR (op_inU hu) (w_pv 0) (w_pv 1) rfl))) w_pa_nil))))))), ?_⟩
    simp_all only [big5 (Nat.le_trans hz (by decide))]
    refine ite2 (fun h1 => ite2 (fun h2 => ?_) fun h2 => ?_) fun h1 => ?_
    · refine ⟨ha, CompJ.str (MadeInv H z y) (fun i τ ys H' I => ?_) ⟨⟨_, rfl⟩, by simp, rfl⟩ ?_ ?_⟩
      · rw [I.ys, List.length_map, List.length_map, List.length_take]
        exact big5' (by rw [sg_len]; omega)
      · intro N i c τ ys H' hc I hN
        obtain ⟨t, rfl⟩ := I.ex
        simp_all only []
        rw [in_one]
        have hc' : (sg z)[i]? = some c := by simpa [sg] using hc
        exact hN _ _ _ ⟨⟨_, rfl⟩, by rw [I.ys, List.take_add_one, hc']; simp, I.same⟩
      · intro τ ys H' I p H2 n2
        simp_all only []
        refine ⟨_, by rw [n2.at_, I.ys], ?_⟩
        have hs : Same H H2 := by have := n2.same; rw [I.same] at this; exact this
        have e : madeS z y m = (((sg z).take z.cps.size).map fun c => (sg y).contains c).all id := by
          unfold madeS
          rw [h1, h2, List.take_of_length_le (by rw [sg_len]; exact Nat.le_refl _), List.all_map]
          rfl
        rw [← e]
        exact q H2 hs
    · have e : madeS z y m = false := by unfold madeS; rw [Bool.eq_false_iff.mpr h2]; simp
      rw [← e]; exact q H (Same.refl _)
    · have e : madeS z y m = false := by unfold madeS; rw [Bool.eq_false_iff.mpr h1]; simp
      rw [← e]; exact q H (Same.refl _)
theorem sc_is_name : FnScope ["text"] ["text"] (defScope s_is_name) := ⟨rfl, rfl, rfl, by decide +kernel, rfl, by decide +kernel, by decide +kernel⟩
theorem ok_is_name {f : Addr} {fd : FuncData} (F : Fun K "is_name" "is_name" s_is_name f fd) (T : Txt K mg A) (G_is_made_of : GF P w K mg base true 1 "is_made_of" ["text", "signs", "most"] spMade) : FnOk P w K mg base CX0 true 2 f fd ["text"] (spTest nameS) := by
  refine F.ok sc_is_name (fun vs H Q E h => ?_) (fun cdv Ar outer s H vs Q E hr h => ?_)
  · obtain ⟨z, rfl, _⟩ := h; rfl
  · obtain ⟨z, rfl, ha, hz, q⟩ := h
    refine ⟨_, (W.h (w_pss_one (w_ps_ret (w_pe_g G_is_made_of hr rfl (w_pa_p (w_pv 0) (w_pa_p (w_pe_gv rfl T.c_LETTERS) (w_pa_p (w_pe_gv rfl T.c_MOST_LETTERS) w_pa_nil))))))), ?_⟩
    simp_all only []
    exact ⟨z, _, _, rfl, ha, hz, q⟩
theorem sc_is_number_text : FnScope ["text"] ["text"] (defScope s_is_number_text) := ⟨rfl, rfl, rfl, by decide +kernel, rfl, by decide +kernel, by decide +kernel⟩
theorem ok_is_number_text {f : Addr} {fd : FuncData} (F : Fun K "is_number_text" "is_number_text" s_is_number_text f fd) (T : Txt K mg A) (G_is_made_of : GF P w K mg base true 1 "is_made_of" ["text", "signs", "most"] spMade) : FnOk P w K mg base CX0 true 2 f fd ["text"] (spTest numS) := by
  refine F.ok sc_is_number_text (fun vs H Q E h => ?_) (fun cdv Ar outer s H vs Q E hr h => ?_)
  · obtain ⟨z, rfl, _⟩ := h; rfl
  · obtain ⟨z, rfl, ha, hz, q⟩ := h
    have hu : _ < cLine := Nat.lt_of_succ_lt (hu_of hr)
    refine ⟨_, (W.h (w_pss_cons (w_ps_if (w_pt_not (w_pt_tru (w_pe_g G_is_made_of hr rfl (w_pa_p (w_pv 0) (w_pa_p (w_pe_gv rfl T.c_FIGURES) (w_pa_p (w_pe_gv rfl T.c_MOST_FIGURES) w_pa_nil))))))
      (w_pss_one (w_ps_ret w_pe_bl))
      w_pss_nil)
      (w_pss_one (w_ps_ret (w_pe_or (w_pe_cmpR (op_eqU hu) (w_pv 0) w_pe_str (nomark _)) (w_pe_one (w_pe_cmpR (op_neU hu) (w_pe_ix ix_U (w_pv 0) w_pe_int (fun _ _ => rfl)) w_pe_str (nomark _)))))))), ?_⟩
    simp_all only []
    refine ⟨z, _, _, rfl, ha, hz, fun H1 s1 => ?_⟩
    simp_all only [big5 (Nat.le_trans hz (by decide))]
    refine ite2 (fun h1 => ?_) fun h1 => ?_
    · have e : numS z = false := by
        unfold numS FIG
        rw [show madeS z "0123456789" 18 = false by simpa using h1]; rfl
      rw [← e]; exact q H1 s1
    · have h1 : madeS z "0123456789" 18 = true := by simpa using h1
      refine ite2 (fun h2 => ?_) fun h2 => ?_
      · have e : numS z = true := by
          unfold numS FIG
          rw [h1, h2]; rfl
        rw [← e]; exact q H1 s1
      · have hl : 0 < (sg z).length := by
          rw [sg_len]
          unfold madeS at h1
          rw [Bool.and_eq_true, Bool.and_eq_true, decide_eq_true_eq] at h1
          omega
        have e0 : (sg z).take 1 = [(sg z)[0]] := by
          generalize sg z = l at hl
          cases l with
          | nil => cases hl
          | cons x l => rfl
        refine ⟨(sg z)[0], atI_nat (xs := sg z) (j := 0) (List.getElem?_eq_getElem hl), ?_⟩
        have e : numS z = !decide (({ cps := #[(sg z)[0]] } : Str) = "0") := by
          unfold numS FIG
          rw [h1, Bool.eq_false_iff.mpr h2, e0]
          rfl
        rw [← e]; exact q H1 s1
end
abbrev s__law_at : Stmt := top 30
abbrev s__law_pot : Stmt := top 31
abbrev s__law_take : Stmt := top 32
abbrev s__law_drawn : Stmt := top 33
abbrev s__law_birth : Stmt := top 36
section
variable {P : Program} {w : World} {K : PySem.W.Frag} {mg : Str → Option Value} {base : Heap} {A : ClsA}
def atD (ns : List Int) (k : Int) : Int := if k < ns.length then ns.getD k.toNat 0 else 0
def spAt (K : PySem.W.Frag) : Sp := fun vs H Q _ => ∃ (a : Addr) (ns : List Int) (k : Int), vs = [.ref a, .int k] ∧ SqL K H a (ns.map V.int) ∧ 0 ≤ k ∧ Q (.int (atD ns k)) H
theorem sc__law_at : FnScope ["_law_script", "_law_k"] ["_law_script", "_law_k"] (defScope s__law_at) := ⟨rfl, rfl, rfl, by decide +kernel, rfl, by decide +kernel, by decide +kernel⟩
theorem ok__law_at {f : Addr} {fd : FuncData} (F : Fun K "_law_at" "_law_at" s__law_at f fd) (T : Txt K mg A) : FnOk P w K mg base CX0 true 1 f fd ["_law_script", "_law_k"] (spAt K) := by
  refine F.ok sc__law_at (fun vs H Q E h => ?_) (fun cdv Ar outer s H vs Q E hr h => ?_)
  · obtain ⟨a, ns, k, rfl, _⟩ := h; rfl
  · obtain ⟨a, ns, k, rfl, hS, hk, q⟩ := h
    refine ⟨_, pss_one (ps_ret (pe_ifExp (pt_cmpR op_lt (pv 1) (pe_callB call_len_seq rfl T.n_len PySem.boot_len (pa_cons (pv 0) pa_nil)) (nomark _))
      (pe_ix ix_list (pv 0) (pv 1) (fun _ _ => rfl)) pe_int)), ?_⟩
    simp_all only []
    refine ⟨_, .inl hS, ?_⟩
    rw [List.length_map]
    refine ite2 (fun h => ?_) (fun h => ?_)
    · have h' : k < (ns.length : Int) := of_decide_eq_true h
      have hn : k.toNat < ns.length := by omega
      have e : atD ns k = ns[k.toNat] := by unfold atD; rw [if_pos h', List.getD_eq_getElem?_getD, List.getElem?_eq_getElem hn]; rfl
      refine ⟨a, ns.map V.int, k, .int (ns[k.toNat]), rfl, rfl, hS, ?_, by rw [← e]; exact q⟩
      have z : atI (ns.map V.int) ((k.toNat : Nat) : Int) = some (.int (ns[k.toNat])) := atI_nat (by rw [List.getElem?_map, List.getElem?_eq_getElem hn]; rfl)
      have kz : ((k.toNat : Nat) : Int) = k := by omega
      rw [kz] at z; exact z
    · have h' : ¬ k < (ns.length : Int) := fun z => h (decide_eq_true z)
      have e : atD ns k = 0 := by unfold atD; rw [if_neg h']
      rw [← e]; exact q
theorem at2_0 {a b : V} : atI [a, b] 0 = some a := rfl
theorem at2_1 {a b : V} : atI [a, b] 1 = some b := rfl
theorem ix2_0 : ixN 2 0 = some 0 := rfl
theorem ix2_1 : ixN 2 1 = some 1 := rfl
structure Pot (H : Hp) (a : Addr) : Prop where
  ex : ∃ x y : Int, H a = some (.lst [.int x, .int y]) ∧ 0 ≤ x ∧ 0 ≤ y ∧ y < 2147483629
theorem Pot.same {H H' : Hp} {a : Addr} (h : Pot H a) (s : Same H H') : Pot H' a := let ⟨x, y, e, r⟩ := h.ex; ⟨⟨x, y, s _ _ e, r⟩⟩
theorem Pot.ne {H : Hp} {a l : Addr} (h : Pot H a) (n : H l = none) : l ≠ a := fun z => by
  obtain ⟨x, y, e, _⟩ := h.ex
  rw [z, e] at n; cases n
def spPot (K : PySem.W.Frag) : Sp := fun vs H Q _ => ∃ (a : Addr) (ns : List Int) (k : Int), vs = [.ref a, .int k] ∧ SqL K H a (ns.map V.int) ∧ 0 ≤ k ∧ ∀ l H', Same H H' → H l = none → Pot H' l → Q (.ref l) H'
theorem sc__law_pot : FnScope ["_law_script", "_law_k", "_law_cell"] ["_law_script", "_law_k"] (defScope s__law_pot) := ⟨rfl, rfl, rfl, by decide +kernel, rfl, by decide +kernel, by decide +kernel⟩
theorem ok__law_pot {f : Addr} {fd : FuncData} (F : Fun K "_law_pot" "_law_pot" s__law_pot f fd) (T : Txt K mg A) (G__law_at : GF P w K mg base true 1 "_law_at" ["_law_script", "_law_k"] (spAt K)) : FnOk P w K mg base CX0 true 2 f fd ["_law_script", "_law_k"] (spPot K) := by
  refine F.ok sc__law_pot (fun vs H Q E h => ?_) (fun cdv Ar outer s H vs Q E hr h => ?_)
  · obtain ⟨a, ns, k, rfl, _⟩ := h; rfl
  · obtain ⟨a, ns, k, rfl, hS, hk, q⟩ := h
    refine ⟨_, (W.h (w_pss_cons (w_ps_set (i := 2) sc__law_pot.nd rfl (Or.inl rfl) (w_pe_g G__law_at hr rfl (w_pa_p (w_pv 0) (w_pa_p (w_pv 1) w_pa_nil))))
      (w_pss_one (w_ps_ret (w_pe_lstA (w_pa_p (w_pe_callBp (call_maxU rfl) rfl T.n_max boot_max (w_pa_p w_pe_int (w_pa_p (w_pe_op op_sub (w_pv 2) (w_pe_op op_pow w_pe_int w_pe_int)) w_pa_nil))) (w_pa_p (w_pe_op op_mod (w_pe_op op_addU (w_pe_op op_mod (w_pv 2) w_pe_int) (w_pe_op op_mulS w_pe_int (w_pe_op op_addU (w_pv 1) w_pe_int))) w_pe_int) w_pa_nil))))))), ?_⟩
    simp_all only []
    refine ⟨a, ns, k, rfl, hS, hk, ?_⟩
    simp_all only []
    refine ⟨⟨by decide, by decide, by decide⟩, by decide, .inl ⟨by decide, by decide⟩, by decide, by decide, fun l H1 n1 _ => q l H1 n1.same n1.no ⟨⟨_, _, n1.at_, ?_, ?_, ?_⟩⟩⟩
    · split <;> omega
    · omega
    · omega
def spTake : Sp := fun vs H Q _ => ∃ (a : Addr) (m : Int), vs = [.ref a, .int m] ∧ Pot H a ∧ 0 < m ∧ m < 2 ^ 64 ∧ ∀ (r : Int) H', But a H H' → Pot H' a → 0 ≤ r → r < m → Q (.int r) H'
theorem sc__law_take : FnScope ["_law_pot_here", "_law_many", "_law_digit"] ["_law_pot_here", "_law_many"] (defScope s__law_take) := ⟨rfl, rfl, rfl, by decide +kernel, rfl, by decide +kernel, by decide +kernel⟩
theorem ok__law_take {f : Addr} {fd : FuncData} (F : Fun K "_law_take" "_law_take" s__law_take f fd) (T : Txt K mg A) : FnOk P w K mg base CX0 true 1 f fd ["_law_pot_here", "_law_many"] spTake := by
  refine F.ok sc__law_take (fun vs H Q E h => ?_) (fun cdv Ar outer s H vs Q E hr h => ?_)
  · obtain ⟨a, m, rfl, _⟩ := h; rfl
  · obtain ⟨a, m, rfl, ⟨x, y, e, x0, y0, y1⟩, m0, m1, q⟩ := h
    refine ⟨_, (W.h (w_pss_cons (w_ps_if (w_pt_cmpR op_gt (w_pe_ix ix_U (w_pv 0) w_pe_int (fun _ _ => rfl)) w_pe_int (nomark _))
      (w_pss_cons (w_ps_asg (w_pe_callBp call_divmodU rfl T.n_divmod boot_divmod (w_pa_p (w_pe_ix ix_U (w_pv 0) w_pe_int (fun _ _ => rfl)) (w_pa_p (w_pv 1) w_pa_nil))) (w_pg_tupA (n := 2) (w_pgs_cons (w_pg_sub (w_pv 0) w_pe_int set_list) (w_pgs_cons (w_pg_name (i := 2) sc__law_take.nd rfl (Or.inl rfl)) w_pgs_nil))))
      (w_pss_one (w_ps_ret (w_pv 2))))
      w_pss_nil)
      (w_pss_cons (w_ps_asg (w_pe_op op_mod (w_pe_op op_addU (w_pe_op op_mulS (w_pe_ix ix_U (w_pv 0) w_pe_int (fun _ _ => rfl)) w_pe_int) w_pe_int) w_pe_int) (w_pg_sub (w_pv 0) w_pe_int set_list))
      (w_pss_one (w_ps_ret (w_pe_op op_mod (w_pe_op op_fdiv (w_pe_op op_mod (w_pe_op op_mulS (w_pe_ix ix_U (w_pv 0) w_pe_int (fun _ _ => rfl)) (w_pe_ix ix_U (w_pv 0) w_pe_int (fun _ _ => rfl))) w_pe_int) w_pe_int) (w_pv 1))))))), ?_⟩
    simp_all only [e, at2_0, at2_1]
    refine ite2 (fun h => ?_) (fun h => ?_)
    · refine ⟨m0, m1, fun p H2 n2 => ⟨p, _, rfl, SqT.of n2.at_, rfl, ?_⟩⟩
      have e2 := n2.same _ _ e
      simp_all only [e2, ix2_0, at2_0]
      refine q _ _ (fun c o nc ec => by rw [upd_ne nc]; exact n2.same _ _ ec) ⟨⟨_, _, upd_same, Int.ediv_nonneg x0 (by omega), y0, y1⟩⟩ (Int.emod_nonneg _ (by omega)) (Int.emod_lt_of_pos _ m0)
    · simp_all only [ix2_1, upd_same, at2_1]
      refine ⟨.inr ⟨by decide, by decide⟩, by decide, .inl ⟨by omega, by omega⟩, by decide, ⟨by decide, by decide⟩, m0, q _ _ (fun c o nc ec => by rw [upd_ne nc]; exact ec) ⟨⟨_, _, upd_same, x0, by omega, by omega⟩⟩ (Int.emod_nonneg _ (by omega)) (Int.emod_lt_of_pos _ m0)⟩
def spDrawn : Sp := fun vs H Q _ => ∃ (a : Addr), Pot H a ∧ ((∃ (l : Addr) (xs : List V), vs = [.ref a, .ref l] ∧ l ≠ a ∧ (H l = some (.lst xs) ∨ H l = some (.tup xs)) ∧ 0 < xs.length ∧ xs.length ≤ 1000 ∧ ∀ v H', v ∈ xs → But a H H' → Pot H' a → Q v H') ∨
  ∃ z : Str, vs = [.ref a, .str z] ∧ 0 < z.length ∧ z.length ≤ 1000 ∧ ∀ c H', c ∈ sg z → But a H H' → Pot H' a → Q (.str (c1 c)) H')
theorem atI_mem {α : Type} {xs : List α} {i : Int} (h0 : 0 ≤ i) (h1 : i < xs.length) : ∃ v, atI xs i = some v ∧ v ∈ xs := by
  have hn : i.toNat < xs.length := by omega
  have z : atI xs ((i.toNat : Nat) : Int) = some xs[i.toNat] := atI_nat (List.getElem?_eq_getElem hn)
  rw [show ((i.toNat : Nat) : Int) = i by omega] at z
  exact ⟨_, z, List.getElem_mem hn⟩
theorem sc__law_drawn : FnScope ["_law_pot_here", "_law_some"] ["_law_pot_here", "_law_some"] (defScope s__law_drawn) := ⟨rfl, rfl, rfl, by decide +kernel, rfl, by decide +kernel, by decide +kernel⟩
theorem ok__law_drawn {f : Addr} {fd : FuncData} (F : Fun K "_law_drawn" "_law_drawn" s__law_drawn f fd) (T : Txt K mg A) (G__law_take : GF P w K mg base true 1 "_law_take" ["_law_pot_here", "_law_many"] spTake) : FnOk P w K mg base CX0 true 2 f fd ["_law_pot_here", "_law_some"] spDrawn := by
  refine F.ok sc__law_drawn (fun vs H Q E h => ?_) (fun cdv Ar outer s H vs Q E hr h => ?_)
  · obtain ⟨a, _, ⟨l, xs, rfl, _⟩ | ⟨z, rfl, _⟩⟩ := h <;> rfl
  · refine ⟨_, (W.h (w_pss_one (w_ps_ret (w_pe_ix ix_U (w_pv 1) (w_pe_g G__law_take hr rfl (w_pa_p (w_pv 0) (w_pa_p (w_pe_callBp call_lenU rfl T.n_len PySem.boot_len (w_pa_p (w_pv 1) w_pa_nil)) w_pa_nil))) (fun _ _ => rfl))))), ?_⟩
    obtain ⟨a, hP, ⟨l, xs, rfl, ne, hl, x0, x1, q⟩ | ⟨z, rfl, z0, z1, q⟩⟩ := h
    · simp_all only []
      refine ⟨xs, hl, a, _, rfl, hP, by omega, Int.lt_of_le_of_lt (show (xs.length : Int) ≤ 1000 by omega) (by decide), fun r H' bt hP' r0 r1 => ?_⟩
      obtain ⟨v, ev, hv⟩ := atI_mem (xs := xs) r0 r1
      rw [uIx_r]
      exact ⟨xs, hl.imp (bt _ _ ne) (bt _ _ ne), v, ev, q v H' hv bt hP'⟩
    · simp_all only []
      refine ⟨big5 (by omega), a, _, rfl, hP, by omega, Int.lt_of_le_of_lt (show (z.length : Int) ≤ 1000 by omega) (by decide), fun r H' bt hP' r0 r1 => ?_⟩
      obtain ⟨c, ec, hc⟩ := atI_mem (xs := sg z) r0 (by rw [sg_len]; exact r1)
      rw [uIx_s]
      exact ⟨big5 (by omega), c, ec, q c H' hc bt hP'⟩
def spBirthL : Sp := fun vs H Q _ => ∃ (a : Addr), vs = [.ref a] ∧ Pot H a ∧ ∀ (r : Int) H', But a H H' → Pot H' a → 0 ≤ r → r < 10 ^ 18 → Q (.int r) H'
theorem sc__law_birth : FnScope ["_law_pot_here"] ["_law_pot_here"] (defScope s__law_birth) := ⟨rfl, rfl, rfl, by decide +kernel, rfl, by decide +kernel, by decide +kernel⟩
theorem ok__law_birth {f : Addr} {fd : FuncData} (F : Fun K "_law_birth" "_law_birth" s__law_birth f fd) (T : Txt K mg A) (G__law_take : GF P w K mg base true 1 "_law_take" ["_law_pot_here", "_law_many"] spTake) (G__law_drawn : GF P w K mg base true 2 "_law_drawn" ["_law_pot_here", "_law_some"] spDrawn) : FnOk P w K mg base CX0 true 3 f fd ["_law_pot_here"] spBirthL := by
  refine F.ok sc__law_birth (fun vs H Q E h => ?_) (fun cdv Ar outer s H vs Q E hr h => ?_)
  · obtain ⟨a, rfl, _⟩ := h; rfl
  · obtain ⟨a, rfl, hP, q⟩ := h
    refine ⟨_, (W.h (w_pss_one (w_ps_ret (w_pe_g G__law_take hr rfl (w_pa_p (w_pv 0) (w_pa_p (w_pe_g G__law_drawn hr rfl (w_pa_p (w_pv 0) (w_pa_p (w_pe_lstA (w_pa_p w_pe_int (w_pa_p w_pe_int (w_pa_p w_pe_int (w_pa_p (w_pe_op op_pow w_pe_int w_pe_int) w_pa_nil))))) w_pa_nil))) w_pa_nil)))))), ?_⟩
    simp_all only []
    refine ⟨⟨by decide, by decide, by decide⟩, by decide, fun p H2 n2 _ => ⟨a, hP.same n2.same, .inl ⟨p, _, rfl, hP.ne n2.no, .inl n2.at_, by decide, by decide, fun v H3 hv bt hP3 => ?_⟩⟩⟩
    have fin : ∀ m : Int, 0 < m → m ≤ 10 ^ 18 → spTake [.ref a, .int m] H3 Q E0 := fun m h1 h2 => ⟨a, m, rfl, hP3, h1, Int.lt_of_le_of_lt h2 (by decide), fun r H4 b4 hP4 r0 r1 => q r H4 ((But.of n2.same).trans (bt.trans b4)) hP4 r0 (by omega)⟩
    simp only [List.mem_cons, List.not_mem_nil, or_false] at hv
    rcases hv with rfl | rfl | rfl | rfl
    · exact fin 12 (by decide) (by decide)
    · exact fin 12 (by decide) (by decide)
    · exact fin 1000 (by decide) (by decide)
    · exact fin _ (by decide) (by decide)
end
abbrev s__law_name : Stmt := top 34
abbrev s__law_names : Stmt := top 35
theorem join_nil : ∀ ys : List Str, sg (PySem.Txt.join "" ys) = (ys.map sg).flatten := by
  intro ys
  have e : PySem.Txt.join "" ys = Str.join "" ys := StrLaws.glued_eq_join "" ys
  rw [e]
  induction ys with
  | nil => rfl
  | cons y ys ih =>
    cases ys with
    | nil => show sg y = _; simp
    | cons x ys =>
      have ih := ih (StrLaws.glued_eq_join "" _)
      show sg (y ++ "" ++ Str.join "" (x :: ys)) = _
      rw [sg_append, sg_append, ih]
      have : sg ("" : Str) = [] := by decide
      rw [this]
      simp
theorem join_c1 (cs : List Nat) : PySem.Txt.join "" (cs.map c1) = tx cs := by
  refine sg_inj ?_
  rw [join_nil, sg_tx, List.map_map]
  induction cs with
  | nil => rfl
  | cons c cs ih => rw [List.map_cons, List.flatten_cons, ih]; rfl
theorem made_of {z y : Str} {m : Int} (h : ∀ c ∈ sg z, c ∈ sg y) (h1 : 1 ≤ z.length) (h2 : (z.length : Int) ≤ m) : madeS z y m = true := by
  unfold madeS
  rw [decide_eq_true (show (1 : Int) ≤ z.length by omega), decide_eq_true h2]
  rw [Bool.true_and, Bool.true_and, List.all_eq_true]
  exact fun c hc => List.contains_iff_mem.mpr (h c hc)
section
variable {P : Program} {w : World} {K : PySem.W.Frag} {mg : Str → Option Value} {base : Heap} {A : ClsA}
structure NameInv (H : Hp) (a : Addr) (i : Nat) (τ : L2.St) (ys : List V) (H' : Hp) : Prop where
  ex : ∃ t, τ = [t, some (V.ref a), some (.str LET)]
  ys : ∃ cs : List Nat, ys = (cs.map c1).map V.str ∧ cs.length = i ∧ ∀ c ∈ cs, c ∈ sg LET
  but : But a H H'
  pot : Pot H' a
  le : i ≤ 10
def spName : Sp := fun vs H Q _ => ∃ (a : Addr), vs = [.ref a] ∧ Pot H a ∧ ∀ (z : Str) H', But a H H' → Pot H' a → nameS z = true → Q (.str z) H'
theorem sc__law_name : FnScope ["_law_pot_here", "_law_letters"] ["_law_pot_here"] (defScope s__law_name) := ⟨rfl, rfl, rfl, by decide +kernel, rfl, by decide +kernel, by decide +kernel⟩
theorem lc__law_name_0 : lcStat { kind := .function, names := [(Str.ofString ".0", .local), (Str.ofString "_law_k", .local), (Str.ofString "_law_drawn", .globalImplicit), (Str.ofString "_law_pot_here", .free), (Str.ofString "_law_letters", .free)], isGenerator := false, isCoroutine := false, more := [] } (defScope s__law_name).names ["_law_pot_here", "_law_letters"] ["_law_k", "_law_pot_here", "_law_letters"] [none, some 0, some 1] = true := by decide +kernel
theorem lcn__law_name_0 : (["_law_k", "_law_pot_here", "_law_letters"] : List Str).Nodup := by decide +kernel
theorem ok__law_name {f : Addr} {fd : FuncData} (F : Fun K "_law_name" "_law_name" s__law_name f fd) (T : Txt K mg A) (G__law_take : GF P w K mg base true 1 "_law_take" ["_law_pot_here", "_law_many"] spTake) (G__law_drawn : GF P w K mg base true 2 "_law_drawn" ["_law_pot_here", "_law_some"] spDrawn) : FnOk P w K mg base CX0 true 3 f fd ["_law_pot_here"] spName := by
  refine F.ok sc__law_name (fun vs H Q E h => ?_) (fun cdv Ar outer s H vs Q E hr h => ?_)
  · obtain ⟨a, rfl, _⟩ := h; rfl
  · obtain ⟨a, rfl, hP, q⟩ := h
    refine ⟨_, (W.h (w_pss_cons (w_ps_if (w_pt_cmpR op_lt (w_pe_g G__law_take hr rfl (w_pa_p (w_pv 0) (w_pa_p w_pe_int w_pa_nil))) w_pe_int (nomark _))
      (w_pss_one (w_ps_ret (w_pe_g G__law_drawn hr rfl (w_pa_p (w_pv 0) (w_pa_p (w_pe_lstA (w_pa_p w_pe_str (w_pa_p w_pe_str (w_pa_p w_pe_str (w_pa_p w_pe_str w_pa_nil))))) w_pa_nil)))))
      w_pss_nil)
      (w_pss_cons (w_ps_set (i := 1) sc__law_name.nd rfl (Or.inr rfl) w_pe_str)
      (w_pss_one (w_ps_ret (w_pe_b_join w_pe_str (w_pe_lc (fun _ => rfl) (LcOk.of lc__law_name_0) (w_pi_range1p rfl T.n_range (w_pa_p (w_pe_op op_addU w_pe_int (w_pe_g G__law_take hr rfl (w_pa_p (w_pv 0) (w_pa_p w_pe_int w_pa_nil)))) w_pa_nil)) (fun _ _ _ _ _ => (w_pg_name (i := 0) lcn__law_name_0 rfl (Or.inl rfl))) (fun _ _ _ _ _ => w_pts_nil) (fun _ _ _ _ _ => (w_pe_g G__law_drawn hr rfl (w_pa_p (w_pv 1) (w_pa_p (w_pv 2) w_pa_nil))))))))))), ?_⟩
    simp_all only []
    refine ⟨a, _, rfl, hP, by decide, by decide, fun r H1 b1 hP1 r0 r1 => ?_⟩
    simp_all only []
    refine ite2 (fun h => ?_) (fun h => ?_)
    · refine ⟨by decide, fun p H2 n2 _ => ⟨a, hP1.same n2.same, .inl ⟨p, _, rfl, hP1.ne n2.no, .inl n2.at_, by decide, by decide, fun v H3 hv bt hP3 => ?_⟩⟩⟩
      have bA := (b1.trans (But.of n2.same)).trans bt
      simp only [List.mem_cons, List.not_mem_nil, or_false] at hv
      rcases hv with rfl | rfl | rfl | rfl
      · exact q _ _ bA hP3 (by decide +kernel)
      · exact q _ _ bA hP3 (by decide +kernel)
      · exact q _ _ bA hP3 (by decide +kernel)
      · exact q _ _ bA hP3 (by decide +kernel)
    · refine ⟨a, _, rfl, hP1, by decide, by decide, fun m H2 b2 hP2 m0 m1 => ?_⟩
      simp_all only []
      refine ⟨by omega, by omega, CompJ.rng (NameInv H2 a) (fun i τ ys H' I => ?_) ⟨⟨_, rfl⟩, ⟨[], rfl, rfl, by simp⟩, fun _ _ _ e => e, hP2, by omega⟩ ?_ ?_⟩
      · obtain ⟨cs, e, e2, _⟩ := I.ys
        rw [e, List.length_map, List.length_map, e2]
        exact big5' (by have := I.le; omega)
      · intro N i τ ys H' hi I hN
        obtain ⟨t, rfl⟩ := I.ex
        obtain ⟨cs, e, e2, hc⟩ := I.ys
        simp_all only []
        refine ⟨a, I.pot, .inr ⟨LET, rfl, by decide, by decide, fun c H3 hcc b3 hP3 => hN _ _ _ ⟨⟨_, rfl⟩, ⟨cs ++ [c], by rw [e]; simp, by simp [e2], fun x hx => ?_⟩, I.but.trans b3, hP3, by omega⟩⟩⟩
        rcases List.mem_append.mp hx with h | h
        · exact hc x h
        · rw [List.mem_singleton] at h; rw [h]; exact hcc
      · intro τ ys H' I D H3 n3
        obtain ⟨cs, e, e2, hc⟩ := I.ys
        rw [rJoin_sr]
        refine ⟨cs.map c1, by rw [n3.at_, e], ?_, ?_⟩
        · rw [List.map_map, show ("" : Str).length = 0 by decide, Nat.mul_zero, Nat.add_zero]
          have : ∀ l : List Nat, (l.map ((fun x : Str => x.length) ∘ c1)).sum = l.length := fun l => by
            induction l with
            | nil => rfl
            | cons a l ih => rw [List.map_cons, List.sum_cons, ih]; show 1 + _ = _; simp; omega
          rw [this]
          omega
        · rw [join_c1]
          refine q (tx cs) H3 (((b1.trans b2).trans I.but).trans (But.of n3.same)) (I.pot.same n3.same) (made_of (by rw [sg_tx]; exact hc) (by rw [tx_len]; omega) (by rw [tx_len]; omega))
structure NamesInv (H : Hp) (a l : Addr) (i : Nat) (σ : L2.St) (H' : Hp) : Prop where
  ex : ∃ t1 t2, σ = [some (V.ref a), some (.ref l), t1, t2]
  ns : ∃ zs : List Str, H' l = some (.lst (zs.map V.str)) ∧ zs.Nodup ∧ zs.length ≤ i ∧ ∀ z ∈ zs, nameS z = true
  but : But a H H'
  pot : Pot H' a
  ne : H l = none
theorem inV_strs {z : Str} {zs : List Str} : inV (.str z) (zs.map V.str) = decide (z ∈ zs) := by
  unfold inV
  rw [List.any_map, Bool.eq_iff_iff]
  simp only [List.any_eq_true, decide_eq_true_eq, Function.comp]
  constructor
  · rintro ⟨y, hy, h⟩
    have : y = z := by simpa [eqV] using h
    rw [← this]; exact hy
  · intro h
    exact ⟨z, h, by simp [eqV]⟩
theorem flat_strs {zs : List Str} : (zs.map V.str).all flatV = true := by simp [flatV]
theorem But.free {b : Addr} {H H' : Hp} (e : But b H H') {l : Addr} (h : H' l = Option.none) (n : l ≠ b) : H l = Option.none := by
  cases q : H l with
  | none => rfl
  | some o => rw [e l o n q] at h; cases h
def spNamesL : Sp := fun vs H Q _ => ∃ (a : Addr), vs = [.ref a] ∧ Pot H a ∧ ∀ (l : Addr) (zs : List Str) H', But a H H' → Pot H' a → H l = none → H' l = some (.lst (zs.map V.str)) → zs.Nodup → zs.length ≤ 4 → (∀ z ∈ zs, nameS z = true) → Q (.ref l) H'
theorem sc__law_names : FnScope ["_law_pot_here", "_law_found", "_law_k", "_law_name_here"] ["_law_pot_here"] (defScope s__law_names) := ⟨rfl, rfl, rfl, by decide +kernel, rfl, by decide +kernel, by decide +kernel⟩
theorem ok__law_names {f : Addr} {fd : FuncData} (F : Fun K "_law_names" "_law_names" s__law_names f fd) (T : Txt K mg A) (G__law_take : GF P w K mg base true 1 "_law_take" ["_law_pot_here", "_law_many"] spTake) (G__law_name : GF P w K mg base true 3 "_law_name" ["_law_pot_here"] spName) : FnOk P w K mg base CX0 true 4 f fd ["_law_pot_here"] spNamesL := by
  refine F.ok sc__law_names (fun vs H Q E h => ?_) (fun cdv Ar outer s H vs Q E hr h => ?_)
  · obtain ⟨a, rfl, _⟩ := h; rfl
  · obtain ⟨a, rfl, hP, q⟩ := h
    have hu : _ < cLine := Nat.lt_of_succ_lt (hu_of hr)
    refine ⟨_, (W.h (w_pss_cons (w_ps_set (i := 1) sc__law_names.nd rfl (Or.inl rfl) (w_pe_lstA w_pa_nil))
      (w_pss_cons (w_ps_for PassesOwn.never (fun _ => rfl) (w_pi_range1p rfl T.n_range (w_pa_p (w_pe_op op_addU w_pe_int (w_pe_g G__law_take hr rfl (w_pa_p (w_pv 0) (w_pa_p w_pe_int w_pa_nil)))) w_pa_nil)) (w_pg_name (i := 2) sc__law_names.nd rfl (Or.inl rfl))
      (w_pss_cons (w_ps_set (i := 3) sc__law_names.nd rfl (Or.inl rfl) (w_pe_g G__law_name hr rfl (w_pa_p (w_pv 0) w_pa_nil)))
      (w_pss_one (w_ps_if (w_pt_cmpR (op_ninU hu) (w_pv 3) (w_pv 1) rfl)
      (w_pss_one (w_ps_expr (w_pe_append (w_pv 1) (w_pv 3))))
      w_pss_nil))))
      (w_pss_one (w_ps_ret (w_pv 1)))))), ?_⟩
    simp_all only []
    refine ⟨by decide, fun l H1 n1 _ => ⟨a, _, rfl, hP.same n1.same, by decide, by decide, fun r H2 b2 hP2 r0 r1 => ?_⟩⟩
    simp_all only []
    have la : l ≠ a := hP.ne n1.no
    refine ⟨by omega, by omega, ForJ.rng (NamesInv H a l) ⟨⟨_, _, rfl⟩, ⟨[], b2 _ _ la n1.at_, by simp, by simp, by simp⟩, (But.of n1.same).trans b2, hP2, n1.no⟩ ?_ ?_⟩
    · rintro i σ H' hi ⟨⟨t1, t2, rfl⟩, ⟨zs, ez, nd, zl, zn⟩, bt, hP', _⟩
      simp_all only []
      refine ⟨a, rfl, hP', fun z H3 b3 hP3 hz => ?_⟩
      have e3 := b3 _ _ la ez
      have hz1 : (zs.map V.str).length < sizeLine := by rw [List.length_map]; exact big5' (by omega)
      simp_all only [e3]
      refine ⟨rfl, flat_strs, ?_⟩
      rw [inV_strs]
      by_cases hm : z ∈ zs
      · rw [decide_eq_true hm]
        simp_all only []
        exact ⟨⟨_, _, rfl⟩, ⟨zs, e3, nd, by omega, zn⟩, bt.trans b3, hP3, n1.no⟩
      · rw [decide_eq_false hm]
        simp_all only [e3]
        refine ⟨hz1, ⟨_, _, rfl⟩, ⟨zs ++ [z], by rw [upd_same]; simp, ?_, by simp; omega, fun y hy => ?_⟩, fun c o nc ec => ?_, ?_, n1.no⟩
        · rw [List.nodup_append]
          refine ⟨nd, by simp, fun x hx y hy e => ?_⟩
          have ey : y = z := by simpa using hy
          rw [e, ey] at hx
          exact hm hx
        · rcases List.mem_append.mp hy with h | h
          · exact zn y h
          · rw [List.mem_singleton] at h; rw [h]; exact hz
        · rw [upd_ne (fun z => by subst z; rw [n1.no] at ec; cases ec)]; exact (bt.trans b3) c o nc ec
        · obtain ⟨x, y, ep, r⟩ := hP3.ex
          exact ⟨⟨x, y, by rw [upd_ne (Ne.symm la)]; exact ep, r⟩⟩
    · rintro σ H' ⟨⟨t1, t2, rfl⟩, ⟨zs, ez, nd, zl, zn⟩, bt, hP', _⟩
      simp_all only []
      exact q l zs H' bt hP' n1.no ez nd (by omega) zn
end
abbrev s__law_model : Stmt := top 37
abbrev s__law_models : Stmt := top 38
section
variable {P : Program} {w : World} {K : PySem.W.Frag} {mg : Str → Option Value} {base : Heap} {A : ClsA}
def MdR (H : Hp) (v : V) (l : List Int) : Prop := ∃ p, v = .ref p ∧ H p = some (.lst (l.map V.int))
structure MdAt (H : Hp) (d : Addr) (t : Tab) : Prop where
  ex : ∃ kvs, H d = some (.dK (sk kvs)) ∧ Dct (MdR H) kvs t
structure GoodM (t : Tab) : Prop where
  nd : (names t).Nodup
  len : t.length ≤ 4
  nm : ∀ n ∈ names t, nameS n = true
  ls : ∀ p ∈ t, 1 ≤ p.2.length ∧ p.2.length ≤ 60 ∧ ∀ x ∈ p.2, 0 ≤ x ∧ x < 10 ^ 18
theorem MdR.same {H H' : Hp} {v : V} {l : List Int} (h : MdR H v l) (s : Same H H') : MdR H' v l := let ⟨p, e, hp⟩ := h; ⟨p, e, s _ _ hp⟩
theorem MdAt.same {H H' : Hp} {d : Addr} {t : Tab} (h : MdAt H d t) (s : Same H H') : MdAt H' d t := let ⟨kvs, e, r⟩ := h.ex; ⟨⟨kvs, s _ _ e, r.imp fun v a z => z.same s⟩⟩
/-- what stands behind changes at a, and is no pot -/
theorem MdR.but {H H' : Hp} {a : Addr} {v : V} {l : List Int} (h : MdR H v l) (s : But a H H') (ha : ∀ l : List Int, ∀ p, v = .ref p → H p = some (.lst (l.map V.int)) → p ≠ a) : MdR H' v l := let ⟨p, e, hp⟩ := h; ⟨p, e, s _ _ (ha l p e hp) hp⟩
theorem mem_putA {α : Type} {t : List (Str × α)} {n : Str} {a : α} {p : Str × α} (h : p ∈ putA t n a) : p ∈ t ∨ p = (n, a) := by
  unfold putA at h
  split at h
  · obtain ⟨q, hq, e⟩ := List.mem_map.mp h
    by_cases c : q.1 = n
    · rw [if_pos c] at e; right; rw [← e, c]
    · rw [if_neg c] at e; left; rw [← e]; exact hq
  · rcases List.mem_append.mp h with h | h
    · exact .inl h
    · exact .inr (by simpa using h)
theorem len_putA {α : Type} {t : List (Str × α)} {n : Str} {a : α} : (putA t n a).length ≤ t.length + 1 := by
  unfold putA
  split <;> simp
theorem GoodM.put {t : Tab} {n : Str} {l : List Int} (h : GoodM t) (ht : t.length ≤ 3) (hn : nameS n = true) (h1 : 1 ≤ l.length) (h2 : l.length ≤ 60) (h3 : ∀ x ∈ l, 0 ≤ x ∧ x < 10 ^ 18) : GoodM (putA t n l) := by
  refine ⟨nd_putA h.nd, by have := len_putA (t := t) (n := n) (a := l); omega, fun m hm => ?_, fun p hp => ?_⟩
  · rw [names_putA] at hm
    split at hm
    · exact h.nm m hm
    · rcases List.mem_append.mp hm with hm | hm
      · exact h.nm m hm
      · rw [List.mem_singleton] at hm; rw [hm]; exact hn
  · rcases mem_putA hp with hp | hp
    · exact h.ls p hp
    · rw [hp]; exact ⟨h1, h2, h3⟩
theorem cut_take {xs : List V} {i : Int} (h0 : 0 ≤ i) : cutV xs none (some i) = xs.take i.toNat := by
  by_cases h : i ≤ xs.length
  · exact cut_to h0 h
  · have e1 : HT.sIx xs.length 0 none = 0 := rfl
    have e2 : HT.sIx xs.length xs.length (some i) = xs.length := by
      unfold HT.sIx
      simp only
      split <;> omega
    unfold cutV
    rw [e1, e2, List.drop_zero, Nat.sub_zero, List.take_of_length_le (Nat.le_refl _), List.take_of_length_le (by omega)]
def MdP (H : Hp) (a : Addr) (v : V) (l : List Int) : Prop := ∃ p, v = .ref p ∧ H p = some (.lst (l.map V.int)) ∧ p ≠ a
theorem MdP.but {H H' : Hp} {a : Addr} {v : V} {l : List Int} (h : MdP H a v l) (s : But a H H') : MdP H' a v l := let ⟨p, e, hp, n⟩ := h; ⟨p, e, s _ _ n hp, n⟩
structure ModInv (H : Hp) (a d l : Addr) (zs : List Str) (i : Nat) (σ : L2.St) (H' : Hp) : Prop where
  ex : ∃ t1 t2 t3, σ = [some (V.ref a), some (.ref d), t1, t2, t3]
  but : But a H H'
  pot : Pot H' a
  md : ∃ t kvs, H' d = some (.dK (sk kvs)) ∧ Dct (MdP H' a) kvs t ∧ GoodM t ∧ t.length ≤ i
  sq : H' l = some (.lst (zs.map V.str))
  no : H d = none
structure RowInv (H : Hp) (a : Addr) (wd : Int) (i : Nat) (τ : L2.St) (ys : List V) (H' : Hp) : Prop where
  ex : ∃ t, τ = [t, some (.int wd), some (V.ref a)]
  ys : ∃ l : List Int, ys = l.map V.int ∧ l.length = i ∧ ∀ x ∈ l, 0 ≤ x ∧ x < 10 ^ 18
  but : But a H H'
  pot : Pot H' a
  le : i ≤ 60
def spModel : Sp := fun vs H Q _ => ∃ (a : Addr), vs = [.ref a] ∧ Pot H a ∧ ∀ (d : Addr) (t : Tab) H', But a H H' → Pot H' a → H d = none → (∃ kvs, H' d = some (.dK (sk kvs)) ∧ Dct (MdP H' a) kvs t) → GoodM t → Q (.ref d) H'
theorem sc__law_model : FnScope ["_law_pot_here", "_law_model_here", "_law_name_here", "_law_wide", "_law_many"] ["_law_pot_here"] (defScope s__law_model) := ⟨rfl, rfl, rfl, by decide +kernel, rfl, by decide +kernel, by decide +kernel⟩
theorem lc__law_model_0 : lcStat { kind := .function, names := [(Str.ofString ".0", .local), (Str.ofString "_law_k", .local), (Str.ofString "_law_wide", .free), (Str.ofString "_law_take", .globalImplicit), (Str.ofString "_law_pot_here", .free), (Str.ofString "_law_birth", .globalImplicit)], isGenerator := false, isCoroutine := false, more := [] } (defScope s__law_model).names ["_law_pot_here", "_law_model_here", "_law_name_here", "_law_wide", "_law_many"] ["_law_k", "_law_wide", "_law_pot_here"] [none, some 3, some 0] = true := by decide +kernel
theorem lcn__law_model_0 : (["_law_k", "_law_wide", "_law_pot_here"] : List Str).Nodup := by decide +kernel
theorem ok__law_model {f : Addr} {fd : FuncData} (F : Fun K "_law_model" "_law_model" s__law_model f fd) (T : Txt K mg A) (G__law_take : GF P w K mg base true 1 "_law_take" ["_law_pot_here", "_law_many"] spTake) (G__law_drawn : GF P w K mg base true 2 "_law_drawn" ["_law_pot_here", "_law_some"] spDrawn) (G__law_birth : GF P w K mg base true 3 "_law_birth" ["_law_pot_here"] spBirthL) (G__law_names : GF P w K mg base true 4 "_law_names" ["_law_pot_here"] spNamesL) : FnOk P w K mg base CX0 true 5 f fd ["_law_pot_here"] spModel := by
  refine F.ok sc__law_model (fun vs H Q E h => ?_) (fun cdv Ar outer s H vs Q E hr h => ?_)
  · obtain ⟨a, rfl, _⟩ := h; rfl
  · obtain ⟨a, rfl, hP, q⟩ := h
    refine ⟨_, (W.h (w_pss_cons (w_ps_set (i := 1) sc__law_model.nd rfl (Or.inl rfl) w_pe_dnewA)
      (w_pss_cons (w_ps_for PassesOwn.never (fun _ => rfl) (w_pi_list (w_pe_slice sl_U (w_pe_g G__law_names hr rfl (w_pa_p (w_pv 0) w_pa_nil)) w_po_none (w_po_some (w_pe_g G__law_take hr rfl (w_pa_p (w_pv 0) (w_pa_p w_pe_int w_pa_nil)))))) (w_pg_name (i := 2) sc__law_model.nd rfl (Or.inl rfl))
      (w_pss_cons (w_ps_set (i := 3) sc__law_model.nd rfl (Or.inr rfl) (w_pe_g G__law_drawn hr rfl (w_pa_p (w_pv 0) (w_pa_p (w_pe_lstA (w_pa_p w_pe_int (w_pa_p w_pe_int (w_pa_p w_pe_int (w_pa_p w_pe_int w_pa_nil))))) w_pa_nil))))
      (w_pss_cons (w_ps_set (i := 4) sc__law_model.nd rfl (Or.inl rfl) (w_pe_op op_addU w_pe_int (w_pe_g G__law_take hr rfl (w_pa_p (w_pv 0) (w_pa_p (w_pv 3) w_pa_nil)))))
      (w_pss_one (w_ps_asg (w_pe_lc (fun _ => rfl) (LcOk.of lc__law_model_0) (w_pi_range1p rfl T.n_range (w_pa_p (w_pv 4) w_pa_nil)) (fun _ _ _ _ _ => (w_pg_name (i := 0) lcn__law_model_0 rfl (Or.inl rfl))) (fun _ _ _ _ _ => w_pts_nil) (fun _ _ _ _ _ => (w_pe_ifExp (w_pt_cmpR op_gt (w_pv 1) w_pe_int (nomark _)) (w_pe_g G__law_take hr rfl (w_pa_p (w_pv 2) (w_pa_p w_pe_int w_pa_nil))) (w_pe_g G__law_birth hr rfl (w_pa_p (w_pv 2) w_pa_nil))))) (w_pg_sub (w_pv 1) (w_pv 2) (set_D (hu_of hr))))))))
      (w_pss_one (w_ps_ret (w_pv 1)))))), ?_⟩
    simp_all only []
    refine fun d H1 n1 => ⟨a, rfl, hP.same n1.same, fun l zs H2 b2 hP2 l0 el nd zl zn => ⟨a, _, rfl, hP2, by decide, by decide, fun r H3 b3 hP3 r0 r1 => ?_⟩⟩
    have la : l ≠ a := (hP.same n1.same).ne l0
    have da : d ≠ a := hP.ne n1.no
    have el3 := b3 _ _ la el
    simp_all only [el3]
    intro l2 H4 n4
    rw [cut_take r0, ← List.map_take] at n4
    have l2a : l2 ≠ a := hP3.ne n4.no
    have ed4 : H4 d = some (.dK (sk [])) := n4.same _ _ (b3 _ _ da (b2 _ _ da n1.at_))
    have l2d : l2 ≠ d := fun z => by have := n4.no; rw [z] at this; rw [b3 _ _ da (b2 _ _ da n1.at_)] at this; cases this
    have b04 : But a H H4 := (((But.of n1.same).trans b2).trans b3).trans (But.of n4.same)
    refine ⟨⟨_, SqL.of n4.at_⟩, ForJ.lst (xs := (zs.take r.toNat).map V.str) (ModInv H a d l2 (zs.take r.toNat)) ⟨⟨_, _, _, rfl⟩, b04, hP3.same n4.same, ⟨[], [], ed4, .nil, ⟨by simp [names], by simp, by simp [names], by simp⟩, by simp⟩, n4.at_, n1.no⟩ (fun i σ H' _ I => SqL.of I.sq) ?_ ?_⟩
    · rintro i x σ H' hx ⟨⟨t1, t2, t3, rfl⟩, bt, hP', ⟨t, kvs, ed, dc, gm, tl⟩, sq, dn⟩
      rw [List.getElem?_map] at hx
      obtain ⟨n, hn, rfl⟩ := Option.map_eq_some_iff.mp hx
      have hi : i < (zs.take r.toNat).length := (List.getElem?_eq_some_iff.mp hn).1
      rw [List.length_take] at hi
      have hnm : nameS n = true := zn n (List.mem_of_mem_take (List.mem_of_getElem? hn))
      simp_all only []
      refine ⟨by decide, fun p5 H5 n5 _ => ⟨a, hP'.same n5.same, .inl ⟨p5, _, rfl, hP'.ne n5.no, .inl n5.at_, by decide, by decide, fun v H6 hv b6 hP6 => ?_⟩⟩⟩
      obtain ⟨wd, rfl, w0, w1⟩ : ∃ wd : Int, v = .int wd ∧ 0 < wd ∧ wd ≤ 60 := by
        simp only [List.mem_cons, List.not_mem_nil, or_false] at hv
        rcases hv with rfl | rfl | rfl | rfl
        · exact ⟨3, rfl, by decide, by decide⟩
        · exact ⟨3, rfl, by decide, by decide⟩
        · exact ⟨12, rfl, by decide, by decide⟩
        · exact ⟨60, rfl, by decide, by decide⟩
      refine ⟨a, wd, rfl, hP6, w0, Int.lt_of_le_of_lt w1 (by decide), fun m H7 b7 hP7 m0 m1 => ?_⟩
      simp_all only []
      refine ⟨by omega, by omega, CompJ.rng (RowInv H7 a wd) (fun i τ ys H' I => ?_) ⟨⟨_, rfl⟩, ⟨[], rfl, rfl, by simp⟩, fun _ _ _ e => e, hP7, by omega⟩ ?_ ?_⟩
      · obtain ⟨l, e, e2, _⟩ := I.ys
        rw [e, List.length_map, e2]
        exact big5' (by have := I.le; omega)
      · intro N j τ ys H8 hj I hN
        obtain ⟨t, rfl⟩ := I.ex
        obtain ⟨l, e, e2, hl⟩ := I.ys
        have nx : ∀ (x : Int) (H9 : Hp), But a H8 H9 → Pot H9 a → 0 ≤ x → x < 10 ^ 18 → N [some (.int (0 + j)), some (.int wd), some (V.ref a)] (ys ++ [.int x]) H9 := fun x H9 b9 hP9 x0 x1 => hN _ _ _ ⟨⟨_, rfl⟩, ⟨l ++ [x], by rw [e]; simp, by simp [e2], fun y hy => by
          rcases List.mem_append.mp hy with h | h
          · exact hl y h
          · rw [List.mem_singleton] at h; rw [h]; exact ⟨x0, x1⟩⟩, I.but.trans b9, hP9, by omega⟩
        simp_all only []
        refine ite2 (fun h => ⟨a, _, rfl, I.pot, by decide, by decide, fun x H9 b9 hP9 x0 x1 => nx x H9 b9 hP9 x0 (by omega)⟩) (fun h => ⟨a, rfl, I.pot, fun x H9 b9 hP9 x0 x1 => nx x H9 b9 hP9 x0 x1⟩)
      · intro τ ys H8 I D H9 n9
        obtain ⟨l, e, e2, hl⟩ := I.ys
        have b9 : But a H' H9 := ((((But.of n5.same).trans b6).trans b7).trans I.but).trans (But.of n9.same)
        have ed9 := b9 _ _ da ed
        simp_all only [ed9]
        refine ⟨_, rfl, by rw [sk_len, dc.length]; exact big5' (by have := gm.len; omega), ?_⟩
        rw [putK_sk]
        have Da : D ≠ a := I.pot.ne n9.no
        have up : ∀ v x, MdP H9 a v x → MdP (upd H9 d (.dK (sk (putA kvs n (V.ref D))))) a v x := fun v x ⟨p, e, hp, hne⟩ => ⟨p, e, by rw [upd_ne (fun z => by subst z; rw [ed9] at hp; cases hp)]; exact hp, hne⟩
        have hl1 : l.length = (1 + m).toNat := e2
        refine ⟨⟨_, _, _, rfl⟩, fun c o nc ec => ?_, ?_, ⟨putA t n l, _, upd_same, (((dc.imp fun v x r => r.but b9).put n (show MdP H9 a (.ref D) l from ⟨D, rfl, by rw [n9.at_, e], Da⟩)).imp up), gm.put (by omega) hnm (by omega) (by omega) hl, by have := len_putA (t := t) (n := n) (a := l); omega⟩, by rw [upd_ne l2d]; exact b9 _ _ l2a sq, dn⟩
        · rw [upd_ne (fun z => by subst z; rw [dn] at ec; cases ec)]
          exact (bt.trans b9) c o nc ec
        · obtain ⟨x, y, ep, rr⟩ := (I.pot.same n9.same).ex
          exact ⟨⟨x, y, by rw [upd_ne (Ne.symm da)]; exact ep, rr⟩⟩
    · rintro σ H' ⟨⟨t1, t2, t3, rfl⟩, bt, hP', ⟨t, kvs, ed, dc, gm, tl⟩, sq, dn⟩
      simp_all only []
      exact q d t H' bt hP' n1.no ⟨kvs, ed, dc⟩ gm
/-! ### both of the law's own -/
def MdK (H : Hp) (a k : Addr) (v : V) (t : Tab) : Prop := ∃ d kvs, v = .ref d ∧ d ≠ a ∧ d ≠ k ∧ H d = some (.dK (sk kvs)) ∧ Dct (MdP H a) kvs t
theorem MdK.but {H H' : Hp} {a k : Addr} {v : V} {t : Tab} (h : MdK H a k v t) (s : But a H H') : MdK H' a k v t := let ⟨d, kvs, e, n, nk, ed, dc⟩ := h; ⟨d, kvs, e, n, nk, s _ _ n ed, dc.imp fun v x r => r.but s⟩
theorem MdP.upd {H : Hp} {a k : Addr} {o : HO} {v : V} {l : List Int} {ks : List (Key × V)} (h : MdP H a v l) (hk : H k = some (.dK ks)) : MdP (upd H k o) a v l := let ⟨p, e, hp, hne⟩ := h; ⟨p, e, by rw [upd_ne (fun z => by subst z; rw [hk] at hp; cases hp)]; exact hp, hne⟩
theorem MdK.upd {H : Hp} {a k : Addr} {o : HO} {v : V} {t : Tab} {ks : List (Key × V)} (h : MdK H a k v t) (hk : H k = some (.dK ks)) : MdK (upd H k o) a k v t := let ⟨d, kvs, e, n, nk, ed, dc⟩ := h; ⟨d, kvs, e, n, nk, by rw [upd_ne nk]; exact ed, dc.imp fun v x r => r.upd hk⟩
structure GoodK (ks : List (Str × Tab)) : Prop where
  nd : (names ks).Nodup
  len : ks.length ≤ 3
  nm : ∀ n ∈ names ks, nameS n = true
  gm : ∀ p ∈ ks, GoodM p.2
structure ModsInv (H : Hp) (a d : Addr) (i : Nat) (σ : L2.St) (H' : Hp) : Prop where
  ex : ∃ t1, σ = [some (V.ref a), some (.ref d), t1]
  but : But a H H'
  pot : Pot H' a
  md : ∃ ks kvs, H' d = some (.dK (sk kvs)) ∧ Dct (MdK H' a d) kvs ks ∧ (names ks).Nodup ∧ ks.length ≤ i ∧ (∀ n ∈ names ks, nameS n = true) ∧ ∀ p ∈ ks, GoodM p.2
  no : H d = none
def spModels : Sp := fun vs H Q _ => ∃ (a : Addr), vs = [.ref a] ∧ Pot H a ∧ ∀ (p d k : Addr) (t : Tab) (ks : List (Str × Tab)) H', But a H H' → H' p = some (.tup [.ref d, .ref k]) → (∃ kvs, H' d = some (.dK (sk kvs)) ∧ Dct (MdP H' a) kvs t) → GoodM t → (∃ kvs, H' k = some (.dK (sk kvs)) ∧ Dct (MdK H' a k) kvs ks) → GoodK ks → Q (.ref p) H'
theorem sc__law_models : FnScope ["_law_pot_here", "_law_kept", "_law_k"] ["_law_pot_here"] (defScope s__law_models) := ⟨rfl, rfl, rfl, by decide +kernel, rfl, by decide +kernel, by decide +kernel⟩
theorem ok__law_models {f : Addr} {fd : FuncData} (F : Fun K "_law_models" "_law_models" s__law_models f fd) (T : Txt K mg A) (G__law_take : GF P w K mg base true 1 "_law_take" ["_law_pot_here", "_law_many"] spTake) (G__law_name : GF P w K mg base true 3 "_law_name" ["_law_pot_here"] spName) (G__law_model : GF P w K mg base true 5 "_law_model" ["_law_pot_here"] spModel) : FnOk P w K mg base CX0 true 6 f fd ["_law_pot_here"] spModels := by
  refine F.ok sc__law_models (fun vs H Q E h => ?_) (fun cdv Ar outer s H vs Q E hr h => ?_)
  · obtain ⟨a, rfl, _⟩ := h; rfl
  · obtain ⟨a, rfl, hP, q⟩ := h
    refine ⟨_, (W.h (w_pss_cons (w_ps_set (i := 1) sc__law_models.nd rfl (Or.inl rfl) w_pe_dnewA)
      (w_pss_cons (w_ps_for PassesOwn.never (fun _ => rfl) (w_pi_range1p rfl T.n_range (w_pa_p (w_pe_g G__law_take hr rfl (w_pa_p (w_pv 0) (w_pa_p w_pe_int w_pa_nil))) w_pa_nil)) (w_pg_name (i := 2) sc__law_models.nd rfl (Or.inl rfl))
      (w_pss_one (w_ps_asg (w_pe_g G__law_model hr rfl (w_pa_p (w_pv 0) w_pa_nil)) (w_pg_sub (w_pv 1) (w_pe_g G__law_name hr rfl (w_pa_p (w_pv 0) w_pa_nil)) (set_D (hu_of hr))))))
      (w_pss_one (w_ps_ret (w_pe_tupA (w_pa_p (w_pe_g G__law_model hr rfl (w_pa_p (w_pv 0) w_pa_nil)) (w_pa_p (w_pv 1) w_pa_nil)))))))), ?_⟩
    simp_all only []
    refine fun d H1 n1 => ⟨a, _, rfl, hP.same n1.same, by decide, by decide, fun r H2 b2 hP2 r0 r1 => ?_⟩
    have da : d ≠ a := hP.ne n1.no
    simp_all only []
    refine ⟨by omega, by omega, ForJ.rng (ModsInv H a d) ⟨⟨_, rfl⟩, (But.of n1.same).trans b2, hP2, ⟨[], [], b2 _ _ da n1.at_, .nil, by simp [names], by simp, by simp [names], by simp⟩, n1.no⟩ ?_ ?_⟩
    · rintro i σ H' hi ⟨⟨t1, rfl⟩, bt, hP', ⟨ks, kvs, ed, dc, nd, kl, kn, kg⟩, dn⟩
      simp_all only []
      refine ⟨a, rfl, hP', fun d2 t2 H3 b3 hP3 d20 e2 g2 => ⟨a, rfl, hP3, fun z H4 b4 hP4 hz => ?_⟩⟩
      obtain ⟨kv2, e2, dc2⟩ := e2
      have b34 := b3.trans b4
      have ed4 := b34 _ _ da ed
      have d2a : d2 ≠ a := hP'.ne d20
      have d2d : d2 ≠ d := fun z => by rw [z, ed] at d20; cases d20
      rw [rSetD_rs]
      refine ⟨_, ed4, by rw [sk_len, dc.length]; exact big5' (by omega), ?_⟩
      rw [putK_sk]
      refine ⟨⟨_, rfl⟩, fun c o nc ec => ?_, ?_, ⟨putA ks z t2, _, upd_same, ((dc.imp fun v x r => r.but b34).put z (show MdK H4 a d (.ref d2) t2 from ⟨d2, kv2, rfl, d2a, d2d, b4 _ _ d2a e2, dc2.imp fun v x r => r.but b4⟩)).imp (fun v x r => r.upd ed4), nd_putA nd, by have := len_putA (t := ks) (n := z) (a := t2); omega, fun m hm => ?_, fun p hp => ?_⟩, dn⟩
      · rw [upd_ne (fun z => by subst z; rw [dn] at ec; cases ec)]
        exact (bt.trans b34) c o nc ec
      · obtain ⟨x, y, ep, rr⟩ := hP4.ex
        exact ⟨⟨x, y, by rw [upd_ne (Ne.symm da)]; exact ep, rr⟩⟩
      · rw [names_putA] at hm
        split at hm
        · exact kn m hm
        · rcases List.mem_append.mp hm with hm | hm
          · exact kn m hm
          · rw [List.mem_singleton] at hm; rw [hm]; exact hz
      · rcases mem_putA hp with hp | hp
        · exact kg p hp
        · rw [hp]; exact g2
    · rintro σ H' ⟨⟨t1, rfl⟩, bt, hP', ⟨ks, kvs, ed, dc, nd, kl, kn, kg⟩, dn⟩
      simp_all only []
      refine ⟨a, rfl, hP', fun d2 t2 H3 b3 hP3 d20 e2 g2 => ⟨by decide, fun p H4 n4 => ?_⟩⟩
      obtain ⟨kv2, e2, dc2⟩ := e2
      have b34 := b3.trans (But.of n4.same)
      exact q p d2 d t2 ks H4 (bt.trans b34) n4.at_ ⟨kv2, n4.same _ _ e2, dc2.imp fun v x r => r.but (But.of n4.same)⟩ g2 ⟨kvs, b34 _ _ da ed, dc.imp fun v x r => r.but b34⟩ ⟨nd, by omega, kn, kg⟩
end
abbrev s_table_words : Stmt := top 24
abbrev s_files_text : Stmt := top 23
/-! ### texts in order, once more -/
theorem leS_total (a b : Str) : leS a b ∨ leS b a := by
  unfold leS
  rw [ltCps_eq, ltCps_eq]
  by_cases h : PyProof.Rows.strKind.blt b.cps.toList a.cps.toList = true
  · exact .inr (PyProof.Rows.KeyOrd.klt_asymm (O := PyProof.Rows.strKind.toKeyOrd) h)
  · exact .inl (by simpa using h)
theorem leS_trans {a b c : Str} (h1 : leS a b) (h2 : leS b c) : leS a c := by
  unfold leS at *
  rw [ltCps_eq] at *
  exact PyProof.Rows.KeyOrd.kle_trans (O := PyProof.Rows.strKind.toKeyOrd) h1 h2
theorem ins_ex (x : Str) : ∀ l : List Str, l.Pairwise leS → ∃ m : List Str, m.Perm (x :: l) ∧ m.Pairwise leS
  | [], _ => ⟨[x], List.Perm.refl _, by simp⟩
  | y :: l, h => by
    rcases leS_total x y with hx | hx
    · refine ⟨x :: y :: l, List.Perm.refl _, List.pairwise_cons.mpr ⟨fun z hz => ?_, h⟩⟩
      rcases List.mem_cons.mp hz with rfl | hz
      · exact hx
      · exact leS_trans hx ((List.pairwise_cons.mp h).1 z hz)
    · obtain ⟨m, p, hm⟩ := ins_ex x l (List.pairwise_cons.mp h).2
      refine ⟨y :: m, (List.Perm.cons y p).trans (List.Perm.swap x y l), List.pairwise_cons.mpr ⟨fun z hz => ?_, hm⟩⟩
      rcases List.mem_cons.mp (p.mem_iff.mp hz) with rfl | hz
      · exact hx
      · exact (List.pairwise_cons.mp h).1 z hz
theorem sort_ex : ∀ ks : List Str, ∃ ss : List Str, ss.Perm ks ∧ ss.Pairwise leS
  | [] => ⟨[], List.Perm.refl _, .nil⟩
  | x :: ks => by
    obtain ⟨ss, p, h⟩ := sort_ex ks
    obtain ⟨m, p2, h2⟩ := ins_ex x ss h
    exact ⟨m, p2.trans (List.Perm.cons x p), h2⟩
theorem sortS_spec (ks : List Str) : (sortS ks).Perm ks ∧ (sortS ks).Pairwise leS := by
  obtain ⟨ss, p, h⟩ := sort_ex ks
  have e := sortS_is p (sortedS_of_pairwise ss h)
  rw [← e]; exact ⟨p, h⟩
theorem sortS_eq {ks ls : List Str} (p : ks.Perm ls) : sortS ks = sortS ls := perm_pair_eq (((sortS_spec ks).1.trans p).trans (sortS_spec ls).1.symm) (sortS_spec ks).2 (sortS_spec ls).2
theorem alike_sort {α : Type} {t u : List (Str × α)} (h : Alike t u) (ht : (names t).Nodup) (hu : (names u).Nodup) : sortS (names t) = sortS (names u) := sortS_eq (h.names ht hu)
theorem alike_len {α : Type} {t u : List (Str × α)} (h : Alike t u) (ht : (names t).Nodup) (hu : (names u).Nodup) : t.length = u.length := by
  have := (h.names ht hu).length_eq
  simpa [names] using this
/-! ### the words of a table -/
def preT (t : Tab) (zs : List Str) : List Str := zs.flatMap fun n => n :: (toString ((lk t n).length : Int) : Str) :: (lk t n).map fun x => (toString x : Str)
noncomputable def wordsT (t : Tab) : List Str := (toString (t.length : Int) : Str) :: preT t (sortS (names t))
theorem alike_words {t u : Tab} (h : Alike t u) (ht : (names t).Nodup) (hu : (names u).Nodup) : wordsT t = wordsT u := by
  have e : ∀ n, lk t n = lk u n := fun n => by unfold lk; rw [h n]
  unfold wordsT preT
  rw [alike_sort h ht hu, alike_len h ht hu]
  simp only [e]
theorem preT_snoc {t : Tab} {zs : List Str} {i : Nat} {n : Str} (h : zs[i]? = some n) : preT t (zs.take (i + 1)) = preT t (zs.take i) ++ [n, (toString ((lk t n).length : Int) : Str)] ++ (lk t n).map fun x => (toString x : Str) := by
  unfold preT
  rw [List.take_add_one, h]
  simp
theorem log_small {n : Nat} (h : n < 2 ^ 64) : n.log2 < 1920 := by
  by_cases h0 : n = 0
  · subst h0; decide
  · exact Nat.lt_trans ((Nat.log2_lt h0).mpr h) (by decide)
section
variable {P : Program} {w : World} {K : PySem.W.Frag} {mg : Str → Option Value} {base : Heap} {A : ClsA} {b k : Addr}
theorem GoodM.lk {t : Tab} (h : GoodM t) {n : Str} (hn : n ∈ names t) : ∃ l, look t n = some l ∧ K23.lk t n = l ∧ 1 ≤ l.length ∧ l.length ≤ 60 ∧ ∀ x ∈ l, 0 ≤ x ∧ x < 10 ^ 18 := by
  cases e : look t n with
  | none => exact absurd hn (look_none.mp e)
  | some l => exact ⟨l, rfl, by unfold K23.lk; rw [e]; rfl, h.ls _ (look_mem e)⟩
theorem Bare.files {H : Hp} {q : Addr} {t : Tab} (h : Bare A H q b k t) : FilesR A H q b k t [] := ⟨h.ob, h.births, ⟨[], h.kept, .nil⟩, by simp [names]⟩
structure TWInv (H : Hp) (p nl wl : Addr) (t : Tab) (i : Nat) (σ : L2.St) (H' : Hp) : Prop where
  ex : ∃ t1 t2, σ = [some (V.ref p), some (.ref nl), some (.ref wl), t1, t2]
  same : Same H H'
  hnl : H' nl = some (.lst ((sortS (names t)).map V.str))
  hwl : H' wl = some (.lst (((toString (t.length : Int) : Str) :: preT t ((sortS (names t)).take i)).map V.str))
  no : H wl = none
  ne : nl ≠ wl
  sz : (preT t ((sortS (names t)).take i)).length ≤ 62 * i
  le : i ≤ 4
structure TWc (H : Hp) (p : Addr) (n : Str) (l : List Int) (i : Nat) (τ : L2.St) (ys : List V) (H' : Hp) : Prop where
  ex : ∃ t, τ = [t, some (V.ref p), some (.str n)]
  ys : ys = ((l.take i).map fun x => (toString x : Str)).map V.str
  same : Same H H'
  le : i ≤ 60
def spTW (A : ClsA) : Sp := fun vs H Q _ => ∃ (p b k : Addr) (t : Tab) (ks : List (Str × Tab)), vs = [.ref p] ∧ FilesR A H p b k t ks ∧ GoodM t ∧ ∀ l H', Same H H' → H l = none → H' l = some (.lst ((wordsT t).map V.str)) → Q (.ref l) H'
theorem sc_table_words : FnScope ["files", "names", "words", "name", "many"] ["files"] (defScope s_table_words) := ⟨rfl, rfl, rfl, by decide +kernel, rfl, by decide +kernel, by decide +kernel⟩
theorem lc_table_words_0 : lcStat { kind := .function, names := [(Str.ofString ".0", .local), (Str.ofString "place", .local), (Str.ofString "str", .globalImplicit), (Str.ofString "files", .free), (Str.ofString "name", .free)], isGenerator := false, isCoroutine := false, more := [] } (defScope s_table_words).names ["files", "names", "words", "name", "many"] ["place", "files", "name"] [none, some 0, some 3] = true := by decide +kernel
theorem lcn_table_words_0 : (["place", "files", "name"] : List Str).Nodup := by decide +kernel
theorem ok_table_words {f : Addr} {fd : FuncData} (F : Fun K "table_words" "table_words" s_table_words f fd) (T : Txt K mg A) (M_Files_names : GM P w K mg base true 1 A.Files "names" ["self"] (spNames A)) (M_Files_many : GM P w K mg base true 1 A.Files "many" ["self", "file"] (spMany A)) (M_Files_birth : GM P w K mg base true 4 A.Files "birth" ["self", "file", "place"] (spBirth A)) : FnOk P w K mg base CX0 true 5 f fd ["files"] (spTW A) := by
  refine F.ok sc_table_words (fun vs H Q E h => ?_) (fun cdv Ar outer s H vs Q E hr h => ?_)
  · obtain ⟨p, b, k, t, ks, rfl, _⟩ := h; rfl
  · obtain ⟨p, b, k, t, ks, rfl, hF, gm, q⟩ := h
    refine ⟨_, (W.h (w_pss_cons (w_ps_set (i := 1) sc_table_words.nd rfl (Or.inl rfl) (w_pe_m0 (w_pv 0) T.cl_Files M_Files_names hr))
      (w_pss_cons (w_ps_set (i := 2) sc_table_words.nd rfl (Or.inl rfl) (w_pe_lstA (w_pa_p (w_pe_callTyp call_strT rfl T.n_str boot_str (w_pa_p (w_pe_callBp call_lenU rfl T.n_len PySem.boot_len (w_pa_p (w_pv 1) w_pa_nil)) w_pa_nil)) w_pa_nil)))
      (w_pss_cons (w_ps_for PassesOwn.never (fun _ => rfl) (w_pi_list (w_pv 1)) (w_pg_name (i := 3) sc_table_words.nd rfl (Or.inr rfl))
      (w_pss_cons (w_ps_set (i := 4) sc_table_words.nd rfl (Or.inl rfl) (w_pe_m (w_pv 0) T.cl_Files M_Files_many hr (w_pa_p (w_pv 3) w_pa_nil)))
      (w_pss_cons (w_ps_expr (w_pe_extend (w_pv 2) (w_pe_lstA (w_pa_p (w_pv 3) (w_pa_p (w_pe_callTyp call_strT rfl T.n_str boot_str (w_pa_p (w_pv 4) w_pa_nil)) w_pa_nil)))))
      (w_pss_one (w_ps_expr (w_pe_extend (w_pv 2) (w_pe_lc (fun _ => rfl) (LcOk.of lc_table_words_0) (w_pi_range1p rfl T.n_range (w_pa_p (w_pv 4) w_pa_nil)) (fun _ _ _ _ _ => (w_pg_name (i := 0) lcn_table_words_0 rfl (Or.inl rfl))) (fun _ _ _ _ _ => w_pts_nil) (fun _ _ _ _ _ => (w_pe_callTyp call_strT rfl T.n_str boot_str (w_pa_p (w_pe_m (w_pv 1) T.cl_Files M_Files_birth hr (w_pa_p (w_pv 2) (w_pa_p (w_pv 0) w_pa_nil))) w_pa_nil))))))))))
      (w_pss_one (w_ps_ret (w_pv 2))))))), ?_⟩
    obtain ⟨dx, e1⟩ := hF.ob
    have gl := gm.len
    simp_all only [e1, ff_names, ff_many, ff_birth]
    refine ⟨p, b, k, t, ks, rfl, hF, by omega, fun nl H1 n1 => ?_⟩
    simp_all only [n1.at_]
    have sl : (sortS (names t)).length = t.length := by rw [(sortS_spec _).1.length_eq]; simp [names]
    rw [List.length_map, sl]
    refine ⟨log_small (by omega), by decide, fun wl H2 n2 _ => ⟨⟨_, SqL.of (n2.same _ _ n1.at_)⟩, ?_⟩⟩
    have wn : H wl = none := n1.same.free n2.no
    have nw : nl ≠ wl := fun z => by have := n2.no; rw [← z, n1.at_] at this; cases this
    refine ForJ.lst (xs := (sortS (names t)).map V.str) (TWInv H p nl wl t) ⟨⟨_, _, rfl⟩, n1.same.trans n2.same, n2.same _ _ n1.at_, by rw [n2.at_]; rfl, wn, nw, by simp [preT], by omega⟩ (fun i σ H' _ I => SqL.of I.hnl) ?_ ?_
    · rintro i x σ H' hx ⟨⟨t1, t2, rfl⟩, sm, hnl, hwl, wn, nw, sz, le⟩
      rw [List.getElem?_map] at hx
      obtain ⟨n, hn, rfl⟩ := Option.map_eq_some_iff.mp hx
      obtain ⟨l, hl, el, l1, l2, lx⟩ := gm.lk ((sortS_spec _).1.mem_iff.mp (List.mem_of_getElem? hn))
      have F' := hF.same sm
      obtain ⟨dx', e1'⟩ := F'.ob
      simp_all only [e1', ff_many, ff_birth]
      refine ⟨p, b, k, t, ks, n, rfl, F', fun H3 s3 => ?_⟩
      have F3 := F'.same s3
      obtain ⟨dx3, e13⟩ := F3.ob
      have hw3 := s3 _ _ hwl
      simp_all only [hw3]
      have hi : i < (sortS (names t)).length := (List.getElem?_eq_some_iff.mp hn).1
      rw [el]
      refine ⟨log_small (by omega), by decide, fun p1 H4 n4 _ => ⟨_, n4.same _ _ hw3, _, n4.at_, big5 (by simp; omega), ⟨_, upd_same⟩, by omega, by omega, ?_⟩⟩
      have s04 : Same H H4 := (sm.trans s3).trans n4.same
      have s5 : ∀ o, Same H (upd H4 wl o) := fun o c u ec => by rw [upd_ne (ne_of_none ec wn)]; exact s04 c u ec
      refine CompJ.rng (TWc _ p n l) (fun j τ ys H6 I => ?_) ⟨⟨_, rfl⟩, by simp, Same.refl _, by omega⟩ ?_ ?_
      · rw [I.ys, List.length_map, List.length_map, List.length_take]
        exact big5' (by have := I.le; omega)
      · intro N j τ ys H6 hj I hN
        obtain ⟨tt, rfl⟩ := I.ex
        have F6 := hF.same ((s5 _).trans I.same)
        obtain ⟨dx6, e16⟩ := F6.ob
        have hj' : j < l.length := by omega
        simp_all only [e16, ff_birth]
        refine ⟨p, b, k, t, ks, n, l, _, rfl, F6, hl, by omega, by omega, fun H7 s7 => ?_⟩
        have ej : (0 + (j : Int)).toNat = j := by omega
        have eg : l.getD j 0 = l[j] := by rw [List.getD_eq_getElem?_getD, List.getElem?_eq_getElem hj']; rfl
        have hx := lx l[j] (List.getElem_mem hj')
        rw [ej, eg]
        simp_all only []
        refine ⟨log_small (by omega), hN _ _ _ ⟨⟨_, rfl⟩, ?_, I.same.trans s7, by omega⟩⟩
        rw [I.ys, List.take_add_one, List.getElem?_eq_getElem hj', List.map_append, List.map_append]
        rfl
      · intro τ ys H6 I D H7 n7
        have hw7 := n7.same _ _ (I.same _ _ upd_same)
        have hn7 : H7 nl = some (.lst ((sortS (names t)).map V.str)) := n7.same _ _ (I.same _ _ (by rw [upd_ne nw]; exact n4.same _ _ (s3 _ _ hnl)))
        have Dw : D ≠ wl := fun z => by have := n7.no; rw [z, I.same _ _ upd_same] at this; cases this
        simp_all only [hw7, n7.at_]
        have ly : ys.length ≤ 60 := by rw [I.ys, List.length_map, List.length_map, List.length_take]; omega
        refine ⟨big5 (by simp; omega), ⟨_, _, rfl⟩, fun c u ec => ?_, by rw [upd_ne nw]; exact hn7, ?_, wn, nw, ?_, by omega⟩
        · rw [upd_ne (ne_of_none ec wn)]
          exact n7.same _ _ (I.same _ _ (s5 _ _ _ ec))
        · rw [upd_same, preT_snoc hn, I.ys, el]
          have : l.take ((l.length : Nat) : Int).toNat = l := List.take_of_length_le (by omega)
          rw [this]
          simp
        · rw [preT_snoc hn, el]
          simp
          omega
    · rintro σ H' ⟨⟨t1, t2, rfl⟩, sm, hnl, hwl, wn, nw, sz, le⟩
      simp_all only []
      refine q wl H' sm wn ?_
      rw [hwl, List.length_map, List.take_of_length_le (Nat.le_refl _)]; rfl
end
abbrev s__law_words : Stmt := top 39
abbrev s__law_text : Stmt := top 40
/-! ### right words -/
theorem num_head (m : Nat) (h : 0 < m) : ∃ c r, (Nat.toDigits 10 m).map Char.toNat = c :: r ∧ 49 ≤ c := by
  induction m using Nat.strongRecOn with
  | _ m ih =>
    by_cases h1 : m < 10
    · rw [Nat.toDigits_of_lt_base h1]
      refine ⟨_, [], rfl, ?_⟩
      have : ∀ d : Nat, d < 10 → 0 < d → 49 ≤ (Nat.digitChar d).toNat := by decide
      exact this m h1 h
    · have hm : m % 10 < 10 := Nat.mod_lt m (by decide)
      have t : Nat.toDigits 10 (m / 10) ++ Nat.toDigits 10 (m % 10) = Nat.toDigits 10 (10 * (m / 10) + m % 10) := Nat.toDigits_append_toDigits (by decide) (by omega) hm
      rw [Nat.div_add_mod] at t
      obtain ⟨c, r, e, hc⟩ := ih (m / 10) (by omega) (by omega)
      rw [← t, List.map_append, e]
      exact ⟨c, _, rfl, hc⟩
structure NumF (i : Int) : Prop where
  dig : ∀ c ∈ sg (toString i : Str), 48 ≤ c ∧ c ≤ 57
  one : 1 ≤ (sg (toString i : Str)).length
  most : (sg (toString i : Str)).length ≤ 18
  back : PySem.intText? (toString i : Str) = some i
  head : (toString i : Str) = "0" ∨ ∃ c r, sg (toString i : Str) = c :: r ∧ 49 ≤ c
theorem numF {i : Int} (h0 : 0 ≤ i) (h1 : i < 10 ^ 18) : NumF i := by
  obtain ⟨m, rfl⟩ := Int.eq_ofNat_of_zero_le h0
  have hd : ∀ c ∈ sg (toString ((m : Nat) : Int) : Str), 48 ≤ c ∧ c ≤ 57 := by
    intro c hc
    rw [sg_num] at hc
    obtain ⟨ch, hch, e⟩ := List.mem_map.mp hc
    have r := Nat.isDigit_of_mem_toDigits (by decide) (by decide) hch
    rw [← e]
    exact PyProof.Rows.digit_range r
  have hn : 1 ≤ (sg (toString ((m : Nat) : Int) : Str)).length := by
    rcases Nat.eq_zero_or_pos m with h | h
    · rw [h, sg_num]; decide
    · obtain ⟨c, r, e, _⟩ := num_head m h
      rw [sg_num, e]; simp
  have hl : (sg (toString ((m : Nat) : Int) : Str)).length ≤ 18 := by
    have e : (Nat.repr m).length ≤ 18 := (Nat.length_repr_le_iff (by decide)).mpr (by omega)
    rw [sg_len]
    show (Str.ofString (toString ((m : Nat) : Int))).length ≤ 18
    rw [PySem.ofString_length]
    exact e
  refine ⟨hd, hn, hl, ?_, ?_⟩
  · have e := intText_digits (x := (toString ((m : Nat) : Int) : Str)) hd (fun z => by rw [show sg (toString ((m : Nat) : Int) : Str) = [] from z] at hn; cases hn) (by rw [← sg_len]; omega)
    have e2 : (toString ((m : Nat) : Int) : Str).cps.toList = (Nat.toDigits 10 m).map Char.toNat := sg_num m
    rw [e2, PySem.W.KIN.val_back] at e
    exact e
  · rcases Nat.eq_zero_or_pos m with h | h
    · left; rw [h]; rfl
    · obtain ⟨c, r, e, hc⟩ := num_head m h
      exact .inr ⟨c, r, by rw [sg_num, e], hc⟩
theorem num_num {i : Int} (h : 0 ≤ i ∧ i < 10 ^ 18) : numS (toString i : Str) = true := by
  have F := numF h.1 h.2
  unfold numS
  rw [Bool.and_eq_true]
  constructor
  · refine made_of (fun c hc => ?_) (by rw [← sg_len]; exact F.one) (by rw [← sg_len]; have := F.most; omega)
    have hf : sg FIG = [48, 49, 50, 51, 52, 53, 54, 55, 56, 57] := by decide
    rw [hf]
    have := F.dig c hc
    simp
    omega
  · rcases F.head with h | ⟨c, r, e, hc⟩
    · rw [decide_eq_true h]; rfl
    · rw [e]
      have : ¬ tx (List.take 1 (c :: r)) = ("0" : Str) := fun x => by
        have := congrArg sg x
        rw [sg_tx] at this
        have h0 : sg ("0" : Str) = [48] := by decide
        rw [h0] at this
        injection this with h1 _
        omega
      rw [decide_eq_false this]
      simp
structure Wd (z : Str) : Prop where
  a : asc z = true
  one : 1 ≤ z.length
  most : z.length ≤ 20
  no : 32 ∉ sg z
theorem wd_num {i : Int} (h0 : 0 ≤ i) (h1 : i < 10 ^ 18) : Wd (toString i : Str) := by
  have F := numF h0 h1
  refine ⟨?_, by rw [← sg_len]; exact F.one, by rw [← sg_len]; have := F.most; omega, fun h => by have := F.dig 32 h; omega⟩
  rw [asc_sg, List.all_eq_true]
  exact fun c hc => decide_eq_true (by have := F.dig c hc; omega)
theorem wd_name {z : Str} (h : nameS z = true) : Wd z := by
  unfold nameS madeS at h
  rw [Bool.and_eq_true, Bool.and_eq_true, decide_eq_true_eq, decide_eq_true_eq, List.all_eq_true] at h
  have hl : ∀ c ∈ sg LET, c < 128 ∧ c ≠ 32 := by decide +kernel
  refine ⟨?_, by omega, by omega, fun hz => (hl 32 (List.contains_iff_mem.mp (h.2 32 hz))).2 rfl⟩
  rw [asc_sg, List.all_eq_true]
  exact fun c hc => decide_eq_true (hl c (List.contains_iff_mem.mp (h.2 c hc))).1
theorem preT_wd {t : Tab} (gm : GoodM t) : ∀ {zs : List Str}, (∀ n ∈ zs, n ∈ names t) → (∀ z ∈ preT t zs, Wd z) ∧ (preT t zs).length ≤ 62 * zs.length
  | [], _ => by simp [preT]
  | n :: zs, h => by
    obtain ⟨i1, i2⟩ := preT_wd gm (zs := zs) fun m hm => h m (List.mem_cons_of_mem _ hm)
    obtain ⟨l, hl, el, l1, l2, lx⟩ := gm.lk (h n (List.mem_cons_self ..))
    have e : preT t (n :: zs) = (n :: (toString ((lk t n).length : Int) : Str) :: (lk t n).map fun x => (toString x : Str)) ++ preT t zs := by simp [preT]
    rw [e, el]
    refine ⟨fun z hz => ?_, by simp; omega⟩
    rcases List.mem_append.mp hz with hz | hz
    · rcases List.mem_cons.mp hz with rfl | hz
      · exact wd_name (gm.nm _ (h _ (List.mem_cons_self ..)))
      · rcases List.mem_cons.mp hz with rfl | hz
        · exact wd_num (by omega) (by omega)
        · obtain ⟨x, hx, rfl⟩ := List.mem_map.mp hz
          exact wd_num (lx x hx).1 (lx x hx).2
    · exact i1 z hz
theorem wordsT_wd {t : Tab} (gm : GoodM t) : (∀ z ∈ wordsT t, Wd z) ∧ (wordsT t).length ≤ 249 := by
  have hl := gm.len
  obtain ⟨i1, i2⟩ := preT_wd gm (zs := sortS (names t)) fun n hn => (sortS_spec _).1.mem_iff.mp hn
  have sl : (sortS (names t)).length = t.length := by rw [(sortS_spec _).1.length_eq]; simp [names]
  unfold wordsT
  refine ⟨fun z hz => ?_, by simp; omega⟩
  rcases List.mem_cons.mp hz with rfl | hz
  · exact wd_num (by omega) (by omega)
  · exact i1 z hz
def kkT (ks : List (Str × Tab)) (n : Str) : Tab := (look ks n).getD []
noncomputable def preK (ks : List (Str × Tab)) (zs : List Str) : List Str := zs.flatMap fun n => n :: wordsT (kkT ks n)
noncomputable def allW (t : Tab) (ks : List (Str × Tab)) : List Str := wordsT t ++ (toString (ks.length : Int) : Str) :: preK ks (sortS (names ks))
noncomputable def textF (t : Tab) (ks : List (Str × Tab)) : Str := PySem.Txt.join " " (allW t ks)
theorem preK_snoc {ks : List (Str × Tab)} {zs : List Str} {i : Nat} {n : Str} (h : zs[i]? = some n) : preK ks (zs.take (i + 1)) = preK ks (zs.take i) ++ [n] ++ wordsT (kkT ks n) := by
  unfold preK
  rw [List.take_add_one, h]
  simp
theorem GoodK.lk {ks : List (Str × Tab)} (h : GoodK ks) {n : Str} (hn : n ∈ names ks) : ∃ u, look ks n = some u ∧ kkT ks n = u ∧ GoodM u := by
  cases e : look ks n with
  | none => exact absurd hn (look_none.mp e)
  | some u => exact ⟨u, rfl, by unfold kkT; rw [e]; rfl, h.gm _ (look_mem e)⟩
theorem preK_wd {ks : List (Str × Tab)} (gk : GoodK ks) : ∀ {zs : List Str}, (∀ n ∈ zs, n ∈ names ks) → (∀ z ∈ preK ks zs, Wd z) ∧ (preK ks zs).length ≤ 250 * zs.length
  | [], _ => by simp [preK]
  | n :: zs, h => by
    obtain ⟨i1, i2⟩ := preK_wd gk (zs := zs) fun m hm => h m (List.mem_cons_of_mem _ hm)
    obtain ⟨u, hu, eu, gu⟩ := gk.lk (h n (List.mem_cons_self ..))
    obtain ⟨w1, w2⟩ := wordsT_wd gu
    have e : preK ks (n :: zs) = (n :: wordsT (kkT ks n)) ++ preK ks zs := by simp [preK]
    rw [e, eu]
    refine ⟨fun z hz => ?_, by simp; omega⟩
    rcases List.mem_append.mp hz with hz | hz
    · rcases List.mem_cons.mp hz with rfl | hz
      · exact wd_name (gk.nm _ (h _ (List.mem_cons_self ..)))
      · exact w1 z hz
    · exact i1 z hz
theorem allW_wd {t : Tab} {ks : List (Str × Tab)} (gm : GoodM t) (gk : GoodK ks) : (∀ z ∈ allW t ks, Wd z) ∧ (allW t ks).length ≤ 1000 := by
  obtain ⟨w1, w2⟩ := wordsT_wd gm
  have kl := gk.len
  obtain ⟨i1, i2⟩ := preK_wd gk (zs := sortS (names ks)) fun n hn => (sortS_spec _).1.mem_iff.mp hn
  have sl : (sortS (names ks)).length = ks.length := by rw [(sortS_spec _).1.length_eq]; simp [names]
  unfold allW
  refine ⟨fun z hz => ?_, by simp; omega⟩
  rcases List.mem_append.mp hz with hz | hz
  · exact w1 z hz
  · rcases List.mem_cons.mp hz with rfl | hz
    · exact wd_num (by omega) (by omega)
    · exact i1 z hz
theorem join_size {zs : List Str} (h : ∀ z ∈ zs, Wd z) (hl : zs.length ≤ 1000) : (zs.map (·.length)).sum + zs.length * (" " : Str).length ≤ 16777216 := by
  have : ∀ l : List Str, (∀ z ∈ l, Wd z) → (l.map (·.length)).sum ≤ 20 * l.length := by
    intro l
    induction l with
    | nil => simp
    | cons z l ih =>
      intro h
      have h1 := (h z (List.mem_cons_self ..)).most
      have h2 := ih fun y hy => h y (List.mem_cons_of_mem _ hy)
      rw [List.map_cons, List.sum_cons, List.length_cons]
      omega
  have := this zs h
  rw [show (" " : Str).length = 1 by decide]
  omega
section
variable {P : Program} {w : World} {K : PySem.W.Frag} {mg : Str → Option Value} {base : Heap} {A : ClsA} {b k : Addr}
structure FTInv (H : Hp) (p nl wl : Addr) (t : Tab) (ks : List (Str × Tab)) (i : Nat) (σ : L2.St) (H' : Hp) : Prop where
  ex : ∃ t1, σ = [some (V.ref p), some (.ref wl), some (.ref nl), t1]
  same : Same H H'
  hnl : H' nl = some (.lst ((sortS (names ks)).map V.str))
  hwl : H' wl = some (.lst ((wordsT t ++ (toString (ks.length : Int) : Str) :: preK ks ((sortS (names ks)).take i)).map V.str))
  no : H wl = none
  ne : nl ≠ wl
  sz : (preK ks ((sortS (names ks)).take i)).length ≤ 250 * i
  le : i ≤ 3
def spFT (A : ClsA) : Sp := fun vs H Q _ => ∃ (p b k : Addr) (t : Tab) (ks : List (Str × Tab)), vs = [.ref p] ∧ FilesR A H p b k t ks ∧ GoodM t ∧ GoodK ks ∧ ∀ H', Same H H' → Q (.str (textF t ks)) H'
theorem sc_files_text : FnScope ["files", "words", "held", "name"] ["files"] (defScope s_files_text) := ⟨rfl, rfl, rfl, by decide +kernel, rfl, by decide +kernel, by decide +kernel⟩
theorem ok_files_text {f : Addr} {fd : FuncData} (F : Fun K "files_text" "files_text" s_files_text f fd) (T : Txt K mg A) (G_table_words : GF P w K mg base true 5 "table_words" ["files"] (spTW A)) (M_Files_held : GM P w K mg base true 1 A.Files "held" ["self"] (spHeld A)) (M_Files_of_held : GM P w K mg base true 4 A.Files "of_held" ["self", "name"] (spOfHeld A)) : FnOk P w K mg base CX0 true 6 f fd ["files"] (spFT A) := by
  refine F.ok sc_files_text (fun vs H Q E h => ?_) (fun cdv Ar outer s H vs Q E hr h => ?_)
  · obtain ⟨p, b, k, t, ks, rfl, _⟩ := h; rfl
  · obtain ⟨p, b, k, t, ks, rfl, hF, gm, gk, q⟩ := h
    refine ⟨_, (W.h (w_pss_cons (w_ps_set (i := 1) sc_files_text.nd rfl (Or.inl rfl) (w_pe_g G_table_words hr rfl (w_pa_p (w_pv 0) w_pa_nil)))
      (w_pss_cons (w_ps_set (i := 2) sc_files_text.nd rfl (Or.inl rfl) (w_pe_m0 (w_pv 0) T.cl_Files M_Files_held hr))
      (w_pss_cons (w_ps_expr (w_pe_append (w_pv 1) (w_pe_callTyp call_strT rfl T.n_str boot_str (w_pa_p (w_pe_callBp call_lenU rfl T.n_len PySem.boot_len (w_pa_p (w_pv 2) w_pa_nil)) w_pa_nil))))
      (w_pss_cons (w_ps_for PassesOwn.never (fun _ => rfl) (w_pi_list (w_pv 2)) (w_pg_name (i := 3) sc_files_text.nd rfl (Or.inl rfl))
      (w_pss_cons (w_ps_expr (w_pe_append (w_pv 1) (w_pv 3)))
      (w_pss_one (w_ps_expr (w_pe_extend (w_pv 1) (w_pe_g G_table_words hr rfl (w_pa_p (w_pe_m (w_pv 0) T.cl_Files M_Files_of_held hr (w_pa_p (w_pv 3) w_pa_nil)) w_pa_nil)))))))
      (w_pss_one (w_ps_ret (w_pe_b_join w_pe_str (w_pv 1))))))))), ?_⟩
    simp_all only []
    refine ⟨p, b, k, t, ks, rfl, hF, gm, fun wl H1 s1 wn ew => ?_⟩
    have F1 := hF.same s1
    obtain ⟨dx, e1⟩ := F1.ob
    have kl := gk.len
    simp_all only [e1, ff_held]
    refine ⟨p, b, k, t, ks, rfl, F1, by omega, fun nl H2 n2 => ?_⟩
    have ew2 := n2.same _ _ ew
    simp_all only [ew2, n2.at_]
    have sl : (sortS (names ks)).length = ks.length := by rw [(sortS_spec _).1.length_eq]; simp [names]
    have wl2 := (wordsT_wd gm).2
    have nw : nl ≠ wl := fun z => by have := n2.no; rw [z, ew] at this; cases this
    simp only [List.length_map, sl]
    have sU : ∀ H' o, Same H H' → Same H (upd H' wl o) := fun H' o h c u ec => by rw [upd_ne (ne_of_none ec wn)]; exact h c u ec
    refine ⟨log_small (by omega), big5' (by omega), ⟨_, SqL.of (by rw [upd_ne nw]; exact n2.at_)⟩, ForJ.lst (xs := (sortS (names ks)).map V.str) (FTInv H p nl wl t ks) ⟨⟨_, rfl⟩, sU _ _ (s1.trans n2.same), by rw [upd_ne nw]; exact n2.at_, by rw [upd_same]; simp [preK], wn, nw, by simp [preK], by omega⟩ (fun i σ H' _ I => SqL.of I.hnl) ?_ ?_⟩
    · rintro i x σ H' hx ⟨⟨t1, rfl⟩, sm, hnl, hwl, wn, nw, sz, le⟩
      rw [List.getElem?_map] at hx
      obtain ⟨n, hn, rfl⟩ := Option.map_eq_some_iff.mp hx
      have hi : i < (sortS (names ks)).length := (List.getElem?_eq_some_iff.mp hn).1
      obtain ⟨u, hu, eu, gu⟩ := gk.lk ((sortS_spec _).1.mem_iff.mp (List.mem_of_getElem? hn))
      have uw := (wordsT_wd gu).2
      simp_all only [hwl]
      refine ⟨big5' (by simp; omega), ⟨_, upd_same⟩, ?_⟩
      have F4 := hF.same (sU H' (.lst (List.map V.str (wordsT t ++ (toString (ks.length : Int) : Str) :: preK ks (List.take i (sortS (names ks)))) ++ [V.str n])) sm)
      obtain ⟨dx4, e4⟩ := F4.ob
      refine ⟨dx4, _, e4, ff_of_held, p, b, k, t, ks, n, u, rfl, F4, hu, fun x b' k' H5 s5 nb nk nx hB => ⟨x, b', k', u, [], rfl, hB.files, gu, fun l6 H6 s6 n6 e6 => ?_⟩⟩
      have ew6 := s6 _ _ (s5 _ _ (upd_same (H := H')))
      have s06 : Same H H6 := ((sU H' _ sm).trans s5).trans s6
      simp_all only [ew6, e6]
      refine ⟨big5 (by simp; omega), ⟨_, rfl⟩, sU _ _ s06, ?_, ?_, wn, nw, ?_, by omega⟩
      · rw [upd_ne nw]; exact s6 _ _ (s5 _ _ (by rw [upd_ne nw]; exact hnl))
      · rw [upd_same, preK_snoc hn, eu]; simp
      · rw [preK_snoc hn, eu]; simp; omega
    · rintro σ H' ⟨⟨t1, rfl⟩, sm, hnl, hwl, wn, nw, sz, le⟩
      simp_all only []
      rw [List.length_map, List.take_of_length_le (Nat.le_refl _)] at hwl
      obtain ⟨w1, w2⟩ := allW_wd gm gk
      exact ⟨allW t ks, hwl, join_size w1 w2, q H' sm⟩
structure LWInv (H : Hp) (d nl : Addr) (t : Tab) (i : Nat) (σ : L2.St) (H' : Hp) : Prop where
  ex : ∃ wl t1, σ = [some (V.ref d), some (.ref wl), t1] ∧ H' wl = some (.lst (((toString (t.length : Int) : Str) :: preT t ((sortS (names t)).take i)).map V.str)) ∧ H wl = none
  same : Same H H'
  hnl : H' nl = some (.lst ((sortS (names t)).map V.str))
  sz : (preT t ((sortS (names t)).take i)).length ≤ 62 * i
  le : i ≤ 4
structure LWc (H : Hp) (l : List Int) (i : Nat) (τ : L2.St) (ys : List V) (H' : Hp) : Prop where
  ex : ∃ t, τ = [t]
  ys : ys = ((l.take i).map fun x => (toString x : Str)).map V.str
  same : Same H H'
  le : i ≤ 60
def spLW : Sp := fun vs H Q _ => ∃ (d : Addr) (t : Tab), vs = [.ref d] ∧ MdAt H d t ∧ GoodM t ∧ ∀ l H', Same H H' → H l = none → H' l = some (.lst ((wordsT t).map V.str)) → Q (.ref l) H'
theorem sc__law_words : FnScope ["_law_model_here", "_law_words_here", "_law_name_here"] ["_law_model_here"] (defScope s__law_words) := ⟨rfl, rfl, rfl, by decide +kernel, rfl, by decide +kernel, by decide +kernel⟩
theorem lc__law_words_0 : lcStat { kind := .function, names := [(Str.ofString ".0", .local), (Str.ofString "_law_birth_here", .local), (Str.ofString "str", .globalImplicit)], isGenerator := false, isCoroutine := false, more := [] } (defScope s__law_words).names ["_law_model_here", "_law_words_here", "_law_name_here"] ["_law_birth_here"] [none] = true := by decide +kernel
theorem lcn__law_words_0 : (["_law_birth_here"] : List Str).Nodup := by decide +kernel
theorem ok__law_words {f : Addr} {fd : FuncData} (F : Fun K "_law_words" "_law_words" s__law_words f fd) (T : Txt K mg A) : FnOk P w K mg base CX0 true 1 f fd ["_law_model_here"] spLW := by
  refine F.ok sc__law_words (fun vs H Q E h => ?_) (fun cdv Ar outer s H vs Q E hr h => ?_)
  · obtain ⟨d, t, rfl, _⟩ := h; rfl
  · obtain ⟨d, t, rfl, hM, gm, q⟩ := h
    refine ⟨_, (W.h (w_pss_cons (w_ps_set (i := 1) sc__law_words.nd rfl (Or.inl rfl) (w_pe_lstA (w_pa_p (w_pe_callTyp call_strT rfl T.n_str boot_str (w_pa_p (w_pe_callBp call_lenK rfl T.n_len PySem.boot_len (w_pa_p (w_pv 0) w_pa_nil)) w_pa_nil)) w_pa_nil)))
      (w_pss_cons (w_ps_for PassesOwn.never (fun _ => rfl) (w_pi_list (w_pe_callBp (call_sortD rfl) rfl T.n_sorted boot_sorted (w_pa_p (w_pv 0) w_pa_nil))) (w_pg_name (i := 2) sc__law_words.nd rfl (Or.inl rfl))
      (w_pss_one (w_ps_set (i := 1) sc__law_words.nd rfl (Or.inl rfl) (w_pe_op op_addU (w_pe_op op_addU (w_pv 1) (w_pe_lstA (w_pa_p (w_pv 2) (w_pa_p (w_pe_callTyp call_strT rfl T.n_str boot_str (w_pa_p (w_pe_callBp call_lenU rfl T.n_len PySem.boot_len (w_pa_p (w_pe_ix (ix_dict (hu_of hr)) (w_pv 0) (w_pv 2) (fun _ _ => rfl)) w_pa_nil)) w_pa_nil)) w_pa_nil)))) (w_pe_lc (fun _ => rfl) (LcOk.of lc__law_words_0) (w_pi_list (w_pe_ix (ix_dict (hu_of hr)) (w_pv 0) (w_pv 2) (fun _ _ => rfl))) (fun _ _ _ _ _ => (w_pg_name (i := 0) lcn__law_words_0 rfl (Or.inl rfl))) (fun _ _ _ _ _ => w_pts_nil) (fun _ _ _ _ _ => (w_pe_callTyp call_strT rfl T.n_str boot_str (w_pa_p (w_pv 0) w_pa_nil))))))))
      (w_pss_one (w_ps_ret (w_pv 1)))))), ?_⟩
    obtain ⟨kvs, e1, dc⟩ := hM.ex
    have gl := gm.len
    simp_all only []
    refine ⟨_, .inl e1, ?_⟩
    rw [sk_len, dc.length]
    refine ⟨log_small (by omega), by decide, fun wl H1 n1 _ => ⟨kvs, .inl (n1.same _ _ e1), by rw [dc.length]; omega, fun nl H2 n2 => ?_⟩⟩
    have sl : (sortS (names t)).length = t.length := by rw [(sortS_spec _).1.length_eq]; simp [names]
    rw [dc.names] at n2
    refine ⟨⟨_, SqL.of n2.at_⟩, ForJ.lst (xs := (sortS (names t)).map V.str) (LWInv H d nl t) ⟨⟨wl, _, rfl, by rw [n2.same _ _ n1.at_]; rfl, n1.no⟩, n1.same.trans n2.same, n2.at_, by simp [preT], by omega⟩ (fun i σ H' _ I => SqL.of I.hnl) ?_ ?_⟩
    · rintro i x σ H' hx ⟨⟨wl', t1, rfl, hwl, wn⟩, sm, hnl, sz, le⟩
      rw [List.getElem?_map] at hx
      obtain ⟨n, hn, rfl⟩ := Option.map_eq_some_iff.mp hx
      have hi : i < (sortS (names t)).length := (List.getElem?_eq_some_iff.mp hn).1
      obtain ⟨l, hl, el, l1, l2, lx⟩ := gm.lk ((sortS_spec _).1.mem_iff.mp (List.mem_of_getElem? hn))
      obtain ⟨v, l', d1, d2, r⟩ : ∃ v l', look kvs n = some v ∧ look t n = some l' ∧ MdR H v l' := by
        rcases dc.look n with z | ⟨_, d2⟩
        · exact z
        · rw [hl] at d2; cases d2
      rw [hl] at d2
      cases d2
      obtain ⟨pl, rfl, hpl⟩ := r
      have ed' := sm _ _ e1
      simp_all only [hwl]
      refine ⟨_, .inl ed', .ref pl, by rw [valV_sk]; exact d1, ?_⟩
      rw [uLen_r]
      refine ⟨_, .inl (sm _ _ hpl), ?_⟩
      rw [List.length_map]
      simp_all only []
      refine ⟨log_small (by omega), by decide, fun p3 H3 n3 _ => ⟨_, n3.same _ _ hwl, _, n3.at_, big5 (by simp; omega), fun p4 H4 n4 => ?_⟩⟩
      have s4 := (sm.trans n3.same).trans n4.same
      refine ⟨_, .inl (s4 _ _ e1), .ref pl, by rw [valV_sk]; exact d1, pl, rfl, ⟨_, SqL.of (s4 _ _ hpl)⟩, CompJ.lst (xs := l.map V.int) (LWc H4 l) (fun j τ ys H6 I => ?_) (fun j τ ys H6 I => SqL.of (I.same _ _ (s4 _ _ hpl))) ⟨⟨_, rfl⟩, by simp, Same.refl _, by omega⟩ ?_ ?_⟩
      · rw [I.ys, List.length_map, List.length_map, List.length_take]
        exact big5' (by have := I.le; omega)
      · intro N j x τ ys H6 hx I hN
        obtain ⟨tt, rfl⟩ := I.ex
        rw [List.getElem?_map] at hx
        obtain ⟨y, hy, rfl⟩ := Option.map_eq_some_iff.mp hx
        have hj' : j < l.length := (List.getElem?_eq_some_iff.mp hy).1
        have hyx := lx y (List.mem_of_getElem? hy)
        simp_all only []
        refine ⟨log_small (by omega), hN _ _ _ ⟨⟨_, rfl⟩, ?_, I.same, by omega⟩⟩
        rw [I.ys, List.take_add_one, hy, List.map_append, List.map_append]
        rfl
      · intro τ ys H6 I D H7 n7
        have ly : ys.length ≤ 60 := by rw [I.ys, List.length_map, List.length_map, List.length_take]; omega
        rw [uAdd_rr]
        refine ⟨_, _, n7.same _ _ (I.same _ _ n4.at_), n7.at_, big5 (by simp; omega), fun p8 H8 n8 => ?_⟩
        have s8 : Same H4 H8 := (I.same.trans n7.same).trans n8.same
        refine ⟨⟨p8, _, rfl, ?_, ?_⟩, s4.trans s8, s8 _ _ (n4.same _ _ (n3.same _ _ hnl)), ?_, by omega⟩
        · rw [n8.at_, preT_snoc hn, I.ys, el]
          have : l.take (List.map V.int l).length = l := List.take_of_length_le (by simp)
          rw [this]
          simp
        · exact ((s4.trans I.same).trans n7.same).free n8.no
        · rw [preT_snoc hn, el]; simp; omega
    · rintro σ H' ⟨⟨wl', t1, rfl, hwl, wn⟩, sm, hnl, sz, le⟩
      simp_all only []
      refine q wl' H' sm wn ?_
      rw [hwl, List.length_map, List.take_of_length_le (Nat.le_refl _)]; rfl
structure MkAt (H : Hp) (k : Addr) (ks : List (Str × Tab)) : Prop where
  ex : ∃ kvs, H k = some (.dK (sk kvs)) ∧ Dct (fun v t => ∃ d, v = .ref d ∧ d ≠ k ∧ MdAt H d t) kvs ks
theorem MkAt.same {H H' : Hp} {k : Addr} {ks : List (Str × Tab)} (h : MkAt H k ks) (s : Same H H') : MkAt H' k ks := let ⟨kvs, e, r⟩ := h.ex; ⟨⟨kvs, s _ _ e, r.imp fun v a ⟨d, ev, n, z⟩ => ⟨d, ev, n, z.same s⟩⟩⟩
structure LTInv (H : Hp) (d k nl : Addr) (t : Tab) (ks : List (Str × Tab)) (i : Nat) (σ : L2.St) (H' : Hp) : Prop where
  ex : ∃ wl t1, σ = [some (V.ref d), some (.ref k), some (.ref wl), t1] ∧ H' wl = some (.lst ((wordsT t ++ (toString (ks.length : Int) : Str) :: preK ks ((sortS (names ks)).take i)).map V.str))
  same : Same H H'
  hnl : H' nl = some (.lst ((sortS (names ks)).map V.str))
  sz : (preK ks ((sortS (names ks)).take i)).length ≤ 250 * i
  le : i ≤ 3
def spLT : Sp := fun vs H Q _ => ∃ (d k : Addr) (t : Tab) (ks : List (Str × Tab)), vs = [.ref d, .ref k] ∧ MdAt H d t ∧ GoodM t ∧ MkAt H k ks ∧ GoodK ks ∧ ∀ H', Same H H' → Q (.str (textF t ks)) H'
theorem sc__law_text : FnScope ["_law_model_here", "_law_kept", "_law_words_here", "_law_name_here"] ["_law_model_here", "_law_kept"] (defScope s__law_text) := ⟨rfl, rfl, rfl, by decide +kernel, rfl, by decide +kernel, by decide +kernel⟩
theorem ok__law_text {f : Addr} {fd : FuncData} (F : Fun K "_law_text" "_law_text" s__law_text f fd) (T : Txt K mg A) (G__law_words : GF P w K mg base true 1 "_law_words" ["_law_model_here"] spLW) : FnOk P w K mg base CX0 true 2 f fd ["_law_model_here", "_law_kept"] spLT := by
  refine F.ok sc__law_text (fun vs H Q E h => ?_) (fun cdv Ar outer s H vs Q E hr h => ?_)
  · obtain ⟨d, k, t, ks, rfl, _⟩ := h; rfl
  · obtain ⟨d, k, t, ks, rfl, hM, gm, hK, gk, q⟩ := h
    refine ⟨_, (W.h (w_pss_cons (w_ps_set (i := 2) sc__law_text.nd rfl (Or.inl rfl) (w_pe_op op_addU (w_pe_g G__law_words hr rfl (w_pa_p (w_pv 0) w_pa_nil)) (w_pe_lstA (w_pa_p (w_pe_callTyp call_strT rfl T.n_str boot_str (w_pa_p (w_pe_callBp call_lenK rfl T.n_len PySem.boot_len (w_pa_p (w_pv 1) w_pa_nil)) w_pa_nil)) w_pa_nil))))
      (w_pss_cons (w_ps_for PassesOwn.never (fun _ => rfl) (w_pi_list (w_pe_callBp (call_sortD rfl) rfl T.n_sorted boot_sorted (w_pa_p (w_pv 1) w_pa_nil))) (w_pg_name (i := 3) sc__law_text.nd rfl (Or.inl rfl))
      (w_pss_one (w_ps_set (i := 2) sc__law_text.nd rfl (Or.inl rfl) (w_pe_op op_addU (w_pe_op op_addU (w_pv 2) (w_pe_lstA (w_pa_p (w_pv 3) w_pa_nil))) (w_pe_g G__law_words hr rfl (w_pa_p (w_pe_ix (ix_dict (hu_of hr)) (w_pv 1) (w_pv 3) (fun _ _ => rfl)) w_pa_nil))))))
      (w_pss_one (w_ps_ret (w_pe_b_join w_pe_str (w_pv 2))))))), ?_⟩
    obtain ⟨kvs, e1, dc⟩ := hK.ex
    have kl := gk.len
    have wl2 := (wordsT_wd gm).2
    simp_all only []
    refine ⟨d, t, rfl, hM, gm, fun l H1 s1 n1 el => ?_⟩
    simp_all only []
    refine ⟨_, .inl (s1 _ _ e1), ?_⟩
    rw [sk_len, dc.length]
    refine ⟨log_small (by omega), by decide, fun p2 H2 n2 _ => ⟨_, n2.same _ _ el, _, n2.at_, big5 (by simp; omega), fun wl H3 n3 => ?_⟩⟩
    have s3 : Same H H3 := (s1.trans n2.same).trans n3.same
    refine ⟨kvs, .inl (s3 _ _ e1), by rw [dc.length]; omega, fun nl H4 n4 => ?_⟩
    have sl : (sortS (names ks)).length = ks.length := by rw [(sortS_spec _).1.length_eq]; simp [names]
    rw [dc.names] at n4
    refine ⟨⟨_, SqL.of n4.at_⟩, ForJ.lst (xs := (sortS (names ks)).map V.str) (LTInv H d k nl t ks) ⟨⟨wl, _, rfl, by rw [n4.same _ _ n3.at_]; simp [preK]⟩, s3.trans n4.same, n4.at_, by simp [preK], by omega⟩ (fun i σ H' _ I => SqL.of I.hnl) ?_ ?_⟩
    · rintro i x σ H' hx ⟨⟨wl', t1, rfl, hwl⟩, sm, hnl, sz, le⟩
      rw [List.getElem?_map] at hx
      obtain ⟨n, hn, rfl⟩ := Option.map_eq_some_iff.mp hx
      have hi : i < (sortS (names ks)).length := (List.getElem?_eq_some_iff.mp hn).1
      obtain ⟨u, hu, eu, gu⟩ := gk.lk ((sortS_spec _).1.mem_iff.mp (List.mem_of_getElem? hn))
      have uw := (wordsT_wd gu).2
      obtain ⟨v, u', d1, d2, r⟩ : ∃ v u', look kvs n = some v ∧ look ks n = some u' ∧ ∃ d, v = .ref d ∧ d ≠ k ∧ MdAt H d u' := by
        rcases dc.look n with z | ⟨_, d2⟩
        · exact z
        · rw [hu] at d2; cases d2
      rw [hu] at d2
      cases d2
      obtain ⟨pd, rfl, _, hpd⟩ := r
      simp_all only [hwl]
      refine ⟨by decide, fun p5 H5 n5 _ => ⟨_, n5.same _ _ hwl, _, n5.at_, big5 (by simp; omega), fun p6 H6 n6 => ?_⟩⟩
      have s6 : Same H H6 := (sm.trans n5.same).trans n6.same
      refine ⟨_, .inl (s6 _ _ e1), .ref pd, by rw [valV_sk]; exact d1, pd, u, rfl, hpd.same s6, gu, fun l7 H7 s7 n7 e7 => ?_⟩
      show uAdd (V.ref p6) (V.ref l7) H7 _
      rw [uAdd_rr]
      refine ⟨_, _, s7 _ _ n6.at_, e7, big5 (by simp; omega), fun p8 H8 n8 => ?_⟩
      have s8 : Same H H8 := (s6.trans s7).trans n8.same
      refine ⟨⟨p8, _, rfl, ?_⟩, s8, n8.same _ _ (s7 _ _ (n6.same _ _ (n5.same _ _ hnl))), ?_, by omega⟩
      · rw [n8.at_, preK_snoc hn, eu]; simp
      · rw [preK_snoc hn, eu]; simp; omega
    · rintro σ H' ⟨⟨wl', t1, rfl, hwl⟩, sm, hnl, sz, le⟩
      simp_all only []
      rw [List.length_map, List.take_of_length_le (Nat.le_refl _)] at hwl
      obtain ⟨w1, w2⟩ := allW_wd gm gk
      exact ⟨allW t ks, hwl, join_size w1 w2, q H' sm⟩
end
abbrev s_Words_is_at_end : Stmt := inClass (top 19) 5
abbrev s_Words_take_word : Stmt := inClass (top 19) 1
abbrev s_Words_take_number : Stmt := inClass (top 19) 2
abbrev s_Words_take_name : Stmt := inClass (top 19) 3
abbrev s_Words_take_end : Stmt := inClass (top 19) 6
abbrev s_take_later_name : Stmt := top 28
/-! ### words, taken one by one -/
def wflds (wl : Addr) (i : Int) : List (Str × V) := [("words", .ref wl), ("taken", .int i)]
structure WordsAt (A : ClsA) (H : Hp) (p : Addr) (ws : List Str) : Prop where
  ex : ∃ (dx wl : Addr) (pre : List Str), H p = some (.ins A.Words dx (wflds wl pre.length)) ∧ H wl = some (.lst ((pre ++ ws).map V.str)) ∧ (pre ++ ws).length ≤ 2000
theorem WordsAt.same {A : ClsA} {H H' : Hp} {p : Addr} {ws : List Str} (h : WordsAt A H p ws) (s : Same H H') : WordsAt A H' p ws := let ⟨dx, wl, pre, e1, e2, r⟩ := h.ex; ⟨⟨dx, wl, pre, s _ _ e1, s _ _ e2, r⟩⟩
theorem WordsAt.but {A : ClsA} {H H' : Hp} {p b : Addr} {ws : List Str} (h : WordsAt A H p ws) (s : But b H H') (hb : ∃ kvs, H b = some (.dK kvs)) : WordsAt A H' p ws := by
  obtain ⟨dx, wl, pre, e1, e2, r⟩ := h.ex
  obtain ⟨kvs, hb⟩ := hb
  exact ⟨⟨dx, wl, pre, s _ _ (fun z => by subst z; rw [e1] at hb; cases hb) e1, s _ _ (fun z => by subst z; rw [e2] at hb; cases hb) e2, r⟩⟩
section
variable {P : Program} {w : World} {K : PySem.W.Frag} {mg : Str → Option Value} {base : Heap} {A : ClsA} {wl : Addr} {i : Int}
theorem wf_words : (wflds wl i).lookup ("words" : Str) = some (.ref wl) := by simp only [wflds, List.lookup, beq_self_eq_true]
theorem wf_taken : (wflds wl i).lookup ("taken" : Str) = some (.int i) := by simp only [wflds, List.lookup, beq_self_eq_true, nb_taken_words]
theorem wf_take_word : (wflds wl i).lookup ("take_word" : Str) = none := by simp only [wflds, List.lookup, nb_take_word_words, nb_take_word_taken]
theorem wf_take_number : (wflds wl i).lookup ("take_number" : Str) = none := by simp only [wflds, List.lookup, nb_take_number_words, nb_take_number_taken]
theorem wf_take_name : (wflds wl i).lookup ("take_name" : Str) = none := by simp only [wflds, List.lookup, nb_take_name_words, nb_take_name_taken]
theorem wf_is_at_end : (wflds wl i).lookup ("is_at_end" : Str) = none := by simp only [wflds, List.lookup, nb_is_at_end_words, nb_is_at_end_taken]
theorem wf_take_end : (wflds wl i).lookup ("take_end" : Str) = none := by simp only [wflds, List.lookup, nb_take_end_words, nb_take_end_taken]
def spAtEnd (A : ClsA) : Sp := fun vs H Q _ => ∃ (p : Addr) (ws : List Str), vs = [.ref p] ∧ WordsAt A H p ws ∧ Q (.bl (decide (ws = []))) H
theorem sc_Words_is_at_end : FnScope ["self"] ["self"] (defScope s_Words_is_at_end) := ⟨rfl, rfl, rfl, by decide +kernel, rfl, by decide +kernel, by decide +kernel⟩
theorem ok_Words_is_at_end {f : Addr} {fd : FuncData} (F : Fun K "is_at_end" "Words.is_at_end" s_Words_is_at_end f fd) (T : Txt K mg A) : FnOk P w K mg base CX0 true 1 f fd ["self"] (spAtEnd A) := by
  refine F.ok sc_Words_is_at_end (fun vs H Q E h => ?_) (fun cdv Ar outer s H vs Q E hr h => ?_)
  · obtain ⟨p, ws, rfl, _⟩ := h; rfl
  · obtain ⟨p, ws, rfl, hW, q⟩ := h
    have hu : _ < cLine := Nat.lt_of_succ_lt (hu_of hr)
    refine ⟨_, (W.h (w_pss_one (w_ps_ret (w_pe_cmpR (op_eqU hu) (w_pe_fldU T.cl_Words T.na_Words_taken (w_pv 0)) (w_pe_callBp call_lenU rfl T.n_len PySem.boot_len (w_pa_p (w_pe_fldU T.cl_Words T.na_Words_words (w_pv 0)) w_pa_nil)) (nomark _))))), ?_⟩
    obtain ⟨dx, wl, pre, e1, e2, r⟩ := hW.ex
    simp_all only [e1, e2, wf_words, wf_taken]
    have e : decide ((pre.length : Int) = ((List.map V.str (pre ++ ws)).length : Nat)) = decide (ws = []) := by
      rw [List.length_map, List.length_append]
      cases ws with
      | nil => simp
      | cons z ws => simp; omega
    rw [e]
    exact q
def spTakeW (A : ClsA) : Sp := fun vs H Q _ => ∃ (p : Addr) (z : Str) (ws : List Str), vs = [.ref p] ∧ WordsAt A H p (z :: ws) ∧ ∀ H', But p H H' → WordsAt A H' p ws → Q (.str z) H'
theorem sc_Words_take_word : FnScope ["self"] ["self"] (defScope s_Words_take_word) := ⟨rfl, rfl, rfl, by decide +kernel, rfl, by decide +kernel, by decide +kernel⟩
theorem ok_Words_take_word {f : Addr} {fd : FuncData} (F : Fun K "take_word" "Words.take_word" s_Words_take_word f fd) (T : Txt K mg A) (M_Words_is_at_end : GM P w K mg base true 1 A.Words "is_at_end" ["self"] (spAtEnd A)) : FnOk P w K mg base CX0 true 2 f fd ["self"] (spTakeW A) := by
  refine F.ok sc_Words_take_word (fun vs H Q E h => ?_) (fun cdv Ar outer s H vs Q E hr h => ?_)
  · obtain ⟨p, z, ws, rfl, _⟩ := h; rfl
  · obtain ⟨p, z, ws, rfl, hW, q⟩ := h
    refine ⟨_, (W.h (w_pss_cons (w_ps_if (w_pt_tru (w_pe_m0 (w_pv 0) T.cl_Words M_Words_is_at_end hr))
      (w_pss_one w_ps_dead)
      w_pss_nil)
      (w_pss_cons (w_ps_augFU T.cl_Words T.na_Words_taken (w_pv 0) w_pe_int in_add)
      (w_pss_one (w_ps_ret (w_pe_ix ix_U (w_pe_fldU T.cl_Words T.na_Words_words (w_pv 0)) (w_pe_op op_sub (w_pe_fldU T.cl_Words T.na_Words_taken (w_pv 0)) w_pe_int) (fun _ _ => rfl))))))), ?_⟩
    obtain ⟨dx, wl, pre, e1, e2, r⟩ := hW.ex
    simp_all only [e1, wf_is_at_end]
    refine ⟨p, z :: ws, rfl, hW, ?_⟩
    have wp : wl ≠ p := fun y => by rw [y, e1] at e2; cases e2
    simp_all only [e1, wf_taken, List.cons_ne_nil, decide_false]
    have eF : putF ("taken" : Str) (V.int ((pre.length : Int) + 1)) (wflds wl pre.length) = wflds wl ((pre.length : Int) + 1) := by simp only [putF, wflds, np_words_taken, if_false, if_true]
    rw [eF]
    refine ⟨by show 2 < 1000; decide, dx, _, upd_same, _, wf_words, dx, _, upd_same, _, wf_taken, ?_⟩
    rw [rI0_ii, uIx_r]
    have ei : (pre.length : Int) + 1 - 1 = ((pre.length : Nat) : Int) := by omega
    refine ⟨_, .inl (by rw [upd_ne wp]; exact e2), .str z, by rw [ei]; exact atI_nat (by simp), q _ But.upd ⟨⟨dx, wl, pre ++ [z], ?_, ?_, ?_⟩⟩⟩
    · rw [upd_same]; simp
    · rw [upd_ne wp, e2]; simp
    · simpa using r
def spTakeNum (A : ClsA) : Sp := fun vs H Q _ => ∃ (p : Addr) (i : Int) (ws : List Str), vs = [.ref p] ∧ WordsAt A H p ((toString i : Str) :: ws) ∧ 0 ≤ i ∧ i < 10 ^ 18 ∧ ∀ H', But p H H' → WordsAt A H' p ws → Q (.int i) H'
theorem sc_Words_take_number : FnScope ["self", "word"] ["self"] (defScope s_Words_take_number) := ⟨rfl, rfl, rfl, by decide +kernel, rfl, by decide +kernel, by decide +kernel⟩
theorem ok_Words_take_number {f : Addr} {fd : FuncData} (F : Fun K "take_number" "Words.take_number" s_Words_take_number f fd) (T : Txt K mg A) (M_Words_take_word : GM P w K mg base true 2 A.Words "take_word" ["self"] (spTakeW A)) (G_is_number_text : GF P w K mg base true 2 "is_number_text" ["text"] (spTest numS)) : FnOk P w K mg base CX0 true 3 f fd ["self"] (spTakeNum A) := by
  refine F.ok sc_Words_take_number (fun vs H Q E h => ?_) (fun cdv Ar outer s H vs Q E hr h => ?_)
  · obtain ⟨p, i, ws, rfl, _⟩ := h; rfl
  · obtain ⟨p, i, ws, rfl, hW, i0, i1, q⟩ := h
    refine ⟨_, (W.h (w_pss_cons (w_ps_set (i := 1) sc_Words_take_number.nd rfl (Or.inl rfl) (w_pe_m0 (w_pv 0) T.cl_Words M_Words_take_word hr))
      (w_pss_cons (w_ps_if (w_pt_not (w_pt_tru (w_pe_g G_is_number_text hr rfl (w_pa_p (w_pv 1) w_pa_nil))))
      (w_pss_one w_ps_dead)
      w_pss_nil)
      (w_pss_one (w_ps_ret (w_pe_callTyp call_intT rfl T.n_int boot_int (w_pa_p (w_pv 1) w_pa_nil))))))), ?_⟩
    obtain ⟨dx, wl, pre, e1, e2, r⟩ := hW.ex
    simp_all only [e1, wf_take_word]
    refine ⟨p, _, ws, rfl, hW, fun H1 b1 hW1 => ?_⟩
    have wd := wd_num i0 i1
    simp_all only []
    refine ⟨_, rfl, wd.a, by have := wd.most; omega, fun H2 s2 => ?_⟩
    rw [num_num ⟨i0, i1⟩]
    simp_all only []
    exact ⟨by rw [← sg_len]; have := (numF i0 i1).most; omega, i, (numF i0 i1).back, q H2 (b1.trans (But.of s2)) (hW1.same s2)⟩
def spTakeName (A : ClsA) : Sp := fun vs H Q _ => ∃ (p : Addr) (z : Str) (ws : List Str), vs = [.ref p] ∧ WordsAt A H p (z :: ws) ∧ nameS z = true ∧ ∀ H', But p H H' → WordsAt A H' p ws → Q (.str z) H'
theorem sc_Words_take_name : FnScope ["self", "word"] ["self"] (defScope s_Words_take_name) := ⟨rfl, rfl, rfl, by decide +kernel, rfl, by decide +kernel, by decide +kernel⟩
theorem ok_Words_take_name {f : Addr} {fd : FuncData} (F : Fun K "take_name" "Words.take_name" s_Words_take_name f fd) (T : Txt K mg A) (M_Words_take_word : GM P w K mg base true 2 A.Words "take_word" ["self"] (spTakeW A)) (G_is_name : GF P w K mg base true 2 "is_name" ["text"] (spTest nameS)) : FnOk P w K mg base CX0 true 3 f fd ["self"] (spTakeName A) := by
  refine F.ok sc_Words_take_name (fun vs H Q E h => ?_) (fun cdv Ar outer s H vs Q E hr h => ?_)
  · obtain ⟨p, z, ws, rfl, _⟩ := h; rfl
  · obtain ⟨p, z, ws, rfl, hW, hz, q⟩ := h
    refine ⟨_, (W.h (w_pss_cons (w_ps_set (i := 1) sc_Words_take_name.nd rfl (Or.inl rfl) (w_pe_m0 (w_pv 0) T.cl_Words M_Words_take_word hr))
      (w_pss_cons (w_ps_if (w_pt_not (w_pt_tru (w_pe_g G_is_name hr rfl (w_pa_p (w_pv 1) w_pa_nil))))
      (w_pss_one w_ps_dead)
      w_pss_nil)
      (w_pss_one (w_ps_ret (w_pv 1)))))), ?_⟩
    obtain ⟨dx, wl, pre, e1, e2, r⟩ := hW.ex
    simp_all only [e1, wf_take_word]
    refine ⟨p, z, ws, rfl, hW, fun H1 b1 hW1 => ?_⟩
    have wd := wd_name hz
    simp_all only []
    refine ⟨_, rfl, wd.a, by have := wd.most; omega, fun H2 s2 => ?_⟩
    rw [hz]
    simp_all only []
    exact q H2 (b1.trans (But.of s2)) (hW1.same s2)
def spTakeEnd (A : ClsA) : Sp := fun vs H Q _ => ∃ (p : Addr), vs = [.ref p] ∧ WordsAt A H p [] ∧ Q .non H
theorem sc_Words_take_end : FnScope ["self"] ["self"] (defScope s_Words_take_end) := ⟨rfl, rfl, rfl, by decide +kernel, rfl, by decide +kernel, by decide +kernel⟩
theorem ok_Words_take_end {f : Addr} {fd : FuncData} (F : Fun K "take_end" "Words.take_end" s_Words_take_end f fd) (T : Txt K mg A) (M_Words_is_at_end : GM P w K mg base true 1 A.Words "is_at_end" ["self"] (spAtEnd A)) : FnOk P w K mg base CX0 true 2 f fd ["self"] (spTakeEnd A) := by
  refine F.ok sc_Words_take_end (fun vs H Q E h => ?_) (fun cdv Ar outer s H vs Q E hr h => ?_)
  · obtain ⟨p, rfl, _⟩ := h; rfl
  · obtain ⟨p, rfl, hW, q⟩ := h
    refine ⟨_, (W.h (w_pss_one (w_ps_if (w_pt_not (w_pt_tru (w_pe_m0 (w_pv 0) T.cl_Words M_Words_is_at_end hr)))
      (w_pss_one w_ps_dead)
      w_pss_nil))), ?_⟩
    obtain ⟨dx, wl, pre, e1, e2, r⟩ := hW.ex
    simp_all only [e1, wf_is_at_end]
    refine ⟨p, [], rfl, hW, ?_⟩
    simp_all only [decide_true]
    exact q
def spLater (A : ClsA) : Sp := fun vs H Q _ => ∃ (p : Addr) (y z : Str) (ws : List Str), vs = [.ref p, .str y] ∧ WordsAt A H p (z :: ws) ∧ nameS z = true ∧ y.cps.toList < z.cps.toList ∧ ∀ H', But p H H' → WordsAt A H' p ws → Q (.str z) H'
theorem sc_take_later_name : FnScope ["words", "name", "later"] ["words", "name"] (defScope s_take_later_name) := ⟨rfl, rfl, rfl, by decide +kernel, rfl, by decide +kernel, by decide +kernel⟩
theorem ok_take_later_name {f : Addr} {fd : FuncData} (F : Fun K "take_later_name" "take_later_name" s_take_later_name f fd) (T : Txt K mg A) (M_Words_take_name : GM P w K mg base true 3 A.Words "take_name" ["self"] (spTakeName A)) : FnOk P w K mg base CX0 true 4 f fd ["words", "name"] (spLater A) := by
  refine F.ok sc_take_later_name (fun vs H Q E h => ?_) (fun cdv Ar outer s H vs Q E hr h => ?_)
  · obtain ⟨p, y, z, ws, rfl, _⟩ := h; rfl
  · obtain ⟨p, y, z, ws, rfl, hW, hz, lt, q⟩ := h
    refine ⟨_, (W.h (w_pss_cons (w_ps_set (i := 2) sc_take_later_name.nd rfl (Or.inl rfl) (w_pe_m0 (w_pv 0) T.cl_Words M_Words_take_name hr))
      (w_pss_cons (w_ps_if (w_pt_cmpR op_leT (w_pv 2) (w_pv 1) (nomark _))
      (w_pss_one w_ps_dead)
      w_pss_nil)
      (w_pss_one (w_ps_ret (w_pv 2)))))), ?_⟩
    obtain ⟨dx, wl, pre, e1, e2, r⟩ := hW.ex
    simp_all only [e1, wf_take_name]
    refine ⟨p, z, ws, rfl, hW, hz, fun H1 b1 hW1 => ?_⟩
    simp_all only []
    rw [decide_eq_true lt]
    simp_all only []
    exact q H1 b1 hW1
end
abbrev s_Words___init__ : Stmt := inClass (top 19) 0
theorem join_flat : ∀ (v : Str) (ws : List Str), sg (PySem.Txt.join " " (v :: ws)) = sg v ++ ((ws.map sg).map (32 :: ·)).flatten := by
  intro v ws
  have e : PySem.Txt.join " " (v :: ws) = Str.join " " (v :: ws) := StrLaws.glued_eq_join " " (v :: ws)
  rw [e]
  induction ws generalizing v with
  | nil => show sg v = _; simp
  | cons x ws ih =>
    have ih := ih x (StrLaws.glued_eq_join " " _)
    show sg (v ++ " " ++ Str.join " " (x :: ws)) = _
    rw [sg_append, sg_append, ih]
    have : sg (" " : Str) = [32] := by decide
    rw [this]
    simp
theorem join_split {v : Str} {ws : List Str} (h : ∀ z ∈ v :: ws, Wd z) : PySem.Txt.split (PySem.Txt.join " " (v :: ws)) " " = v :: ws := by
  have e := split_one (PySem.Txt.join " " (v :: ws)) (c := 32) (by decide)
  have e2 := splitL_words (c := 32) (sg v) (ws.map sg) (fun x hx => by
    rcases List.mem_cons.mp hx with rfl | hx
    · exact (h v (List.mem_cons_self ..)).no
    · obtain ⟨y, hy, rfl⟩ := List.mem_map.mp hx
      exact (h y (List.mem_cons_of_mem _ hy)).no)
  rw [join_flat] at e
  have e3 := e.trans (congrArg (List.map tx) e2)
  have e4 : PySem.Txt.split (PySem.Txt.join " " (v :: ws)) " " = PySem.Txt.split (PySem.Txt.join " " (v :: ws)) (c1 32) := congrArg (PySem.Txt.split (PySem.Txt.join " " (v :: ws))) (show (" " : Str) = c1 32 from by decide)
  rw [e4, e3, List.map_cons, tx_sg, List.map_map]
  congr 1
  have : (tx ∘ sg) = id := funext fun z => tx_sg z
  rw [this, List.map_id]
theorem flat_len : ∀ ws : List Str, (∀ z ∈ ws, Wd z) → (((ws.map sg).map (32 :: ·)).flatten).length ≤ 21 * ws.length
  | [], _ => by simp
  | z :: ws, h => by
    have h1 := (h z (List.mem_cons_self ..)).most
    have h2 := flat_len ws fun y hy => h y (List.mem_cons_of_mem _ hy)
    rw [List.map_cons, List.map_cons, List.flatten_cons, List.length_append, List.length_cons, List.length_cons, sg_len]
    omega
theorem join_most {v : Str} {ws : List Str} (h : ∀ z ∈ v :: ws, Wd z) : (PySem.Txt.join " " (v :: ws)).length ≤ 21 * (ws.length + 1) := by
  have h1 := (h v (List.mem_cons_self ..)).most
  have h2 := flat_len ws fun y hy => h y (List.mem_cons_of_mem _ hy)
  rw [← sg_len, join_flat, List.length_append, sg_len]
  omega
section
variable {P : Program} {w : World} {K : PySem.W.Frag} {mg : Str → Option Value} {base : Heap} {A : ClsA}
def spInitW (A : ClsA) : Sp := fun vs H Q _ => ∃ (p dx : Addr) (v : Str) (ws : List Str), vs = [.ref p, .str (PySem.Txt.join " " (v :: ws))] ∧ H p = some (.ins A.Words dx []) ∧ (∀ z ∈ v :: ws, Wd z) ∧ ws.length ≤ 1000 ∧ ∀ H', But p H H' → WordsAt A H' p (v :: ws) → Q .non H'
theorem sc_Words___init__ : FnScope ["self", "text"] ["self", "text"] (defScope s_Words___init__) := ⟨rfl, rfl, rfl, by decide +kernel, rfl, by decide +kernel, by decide +kernel⟩
theorem ok_Words_init {f : Addr} {fd : FuncData} (F : Fun K "__init__" "Words.__init__" s_Words___init__ f fd) (T : Txt K mg A) : FnOk P w K mg base CX0 true 1 f fd ["self", "text"] (spInitW A) := by
  refine F.ok sc_Words___init__ (fun vs H Q E h => ?_) (fun cdv Ar outer s H vs Q E hr h => ?_)
  · obtain ⟨p, dx, v, ws, rfl, _⟩ := h; rfl
  · obtain ⟨p, dx, v, ws, rfl, hp, hw, hl, q⟩ := h
    refine ⟨_, (W.h (w_pss_cons (w_ps_fldU T.cl_Words T.na_Words_words (w_pv 0) (w_pe_b_split (w_pv 1) w_pe_str))
      (w_pss_one (w_ps_fldU T.cl_Words T.na_Words_taken (w_pv 0) w_pe_int)))), ?_⟩
    have hm := join_most hw
    simp_all only []
    rw [join_split hw]
    refine ⟨by decide, big5' (by omega), big5 (by simp; omega), fun l H2 n2 => ⟨dx, [], n2.same _ _ hp, by decide, dx, _, upd_same, by show 1 < 1000; decide, ?_⟩⟩
    have eF : putF ("taken" : Str) (V.int 0) (putF ("words" : Str) (V.ref l) []) = wflds l 0 := by simp only [putF, wflds, np_words_taken, if_false]
    rw [eF]
    have lp : l ≠ p := fun z => by have := n2.no; rw [z, hp] at this; cases this
    exact q _ (fun a o n e => by rw [upd_ne n, upd_ne n]; exact n2.same _ _ e) ⟨⟨dx, l, [], by rw [upd_same]; rfl, by rw [upd_ne lp, upd_ne lp]; exact n2.at_, by simp; omega⟩⟩
end
abbrev s_take_table : Stmt := top 27
theorem lt_of_leS {a b : Str} (h : leS a b) (n : a ≠ b) : a.cps.toList < b.cps.toList := by
  refine Classical.byContradiction fun z => n (leS_anti h ?_)
  unfold leS
  rw [← lt_meets, decide_eq_false z]
theorem rising {ks : List Str} (nd : ks.Nodup) : (sortS ks).Pairwise (fun a b => a.cps.toList < b.cps.toList) :=
  ((sortS_spec ks).2.and ((sortS_spec ks).1.nodup_iff.mpr nd)).imp fun h => lt_of_leS h.1 h.2
def prev (zs : List Str) : Nat → Str
  | 0 => ""
  | i + 1 => zs.getD i ""
theorem prev_lt {zs : List Str} (h : zs.Pairwise (fun a b => a.cps.toList < b.cps.toList)) {i : Nat} {n : Str} (hn : zs[i]? = some n) (h1 : 1 ≤ n.length) : (prev zs i).cps.toList < n.cps.toList := by
  cases i with
  | zero =>
    have e0 : ("" : Str).cps.toList = [] := by decide
    show ("" : Str).cps.toList < n.cps.toList
    rw [e0]
    have hl : 1 ≤ n.cps.toList.length := by rw [show n.cps.toList = sg n from rfl, sg_len]; exact h1
    cases e : n.cps.toList with
    | nil => rw [e] at hl; cases hl
    | cons c r => exact List.nil_lt_cons c r
  | succ i =>
    obtain ⟨hi, e⟩ := List.getElem?_eq_some_iff.mp hn
    have := List.pairwise_iff_getElem.mp h i (i + 1) (by omega) hi (by omega)
    show (zs.getD i "").cps.toList < n.cps.toList
    rw [List.getD_eq_getElem?_getD, List.getElem?_eq_getElem (by omega), ← e]
    exact this
theorem prev_succ {zs : List Str} {i : Nat} {n : Str} (hn : zs[i]? = some n) : prev zs (i + 1) = n := by
  show zs.getD i "" = n
  rw [List.getD_eq_getElem?_getD, hn]; rfl
theorem mem_take_succ {α : Type} {zs : List α} {i : Nat} {n m : α} (h : zs[i]? = some n) : m ∈ zs.take (i + 1) ↔ m ∈ zs.take i ∨ m = n := by
  rw [List.take_add_one, h]; simp
theorem not_mem_take {α : Type} {zs : List α} (nd : zs.Nodup) {i : Nat} {n : α} (h : zs[i]? = some n) : n ∉ zs.take i := by
  have h1 : (zs.take (i + 1)).Nodup := nd.sublist (List.take_sublist _ _)
  rw [List.take_add_one, h, List.nodup_append] at h1
  intro hn
  exact h1.2.2 n hn n (by simp) rfl
theorem drop_at {α : Type} {zs : List α} {i : Nat} {n : α} (h : zs[i]? = some n) : zs.drop i = n :: zs.drop (i + 1) := by
  obtain ⟨hi, e⟩ := List.getElem?_eq_some_iff.mp h
  rw [List.drop_eq_getElem_cons hi, e]
theorem preT_drop {t : Tab} {zs : List Str} {i : Nat} {n : Str} (h : zs[i]? = some n) : preT t (zs.drop i) = n :: (toString ((lk t n).length : Int) : Str) :: (((lk t n).map fun x => (toString x : Str)) ++ preT t (zs.drop (i + 1))) := by
  rw [drop_at h]
  simp [preT]
theorem ff_ne_wf {b k wl : Addr} {i : Int} : fflds b k ≠ wflds wl i := by
  intro h
  have h1 : (fflds b k).map (·.1) = (wflds wl i).map (·.1) := by rw [h]
  have h2 : ("births" : Str) = ("words" : Str) := by injection h1
  exact absurd h2 (by decide)
theorem But.fresh {p b : Addr} {H H1 H2 : Hp} (x : But p H H1) (y : But b H1 H2) (n : H b = none) : But p H H2 := fun a o na e => y a o (fun z => by rw [← z, e] at n; cases n) (x a o na e)
section
variable {P : Program} {w : World} {K : PySem.W.Frag} {mg : Str → Option Value} {base : Heap} {A : ClsA}
theorem WordsAt.ne {H : Hp} {p q b k dx : Addr} {ws : List Str} (h : WordsAt A H p ws) (e : H q = some (.ins A.Files dx (fflds b k))) : q ≠ p := fun z => by
  obtain ⟨dx', wl, pre, e1, _⟩ := h.ex
  rw [z, e1] at e
  injection e with e
  injection e with _ _ e
  exact ff_ne_wf e.symm
theorem WordsAt.ned {H : Hp} {p q : Addr} {ws : List Str} {kvs : List (Key × V)} (h : WordsAt A H p ws) (e : H q = some (.dK kvs)) : q ≠ p := fun z => by
  obtain ⟨dx', wl, pre, e1, _⟩ := h.ex
  rw [z, e1] at e
  cases e
theorem WordsAt.nf {H : Hp} {p q : Addr} {ws : List Str} {kvs : List (Key × V)} {o : Obj} (h : WordsAt A H p ws) (e : H q = some (.frz o (.dK kvs))) : q ≠ p := fun z => by
  obtain ⟨dx', wl, pre, e1, _⟩ := h.ex
  rw [z, e1] at e
  cases e
theorem WordsAt.nt {H : Hp} {p : Addr} {ws : List Str} (h : WordsAt A H p ws) (xs : List V) : H p ≠ some (.tup xs) := fun z => by
  obtain ⟨dx', wl, pre, e1, _⟩ := h.ex
  rw [e1] at z
  cases z
theorem Bare.butW {H H' : Hp} {p q b k : Addr} {t : Tab} {ws : List Str} (h : Bare A H q b k t) (s : But p H H') (hp : WordsAt A H p ws) : Bare A H' q b k t := by
  obtain ⟨dx, e⟩ := h.ob
  have hd : ∀ a kvs, Rd H a (.dK kvs) → Rd H' a (.dK kvs) := fun a kvs r => r.elim (fun e => .inl (s _ _ (hp.ned e) e)) (fun ⟨o, e⟩ => .inr ⟨o, s _ _ (hp.nf e) e⟩)
  obtain ⟨kvs, e2, d⟩ := h.births.ex
  exact ⟨⟨dx, s _ _ (hp.ne e) e⟩, ⟨⟨kvs, hd _ _ e2, d.imp fun v a r => r.but s hp.nt⟩, h.births.nd⟩, hd _ _ h.kept⟩
theorem FilesAt.butW {H H' : Hp} {p q b k : Addr} {t : Tab} {ks : List (Str × Tab)} {ws : List Str} (h : FilesAt A H q b k t ks) (s : But p H H') (hp : WordsAt A H p ws) : FilesAt A H' q b k t ks := by
  obtain ⟨dx, e⟩ := h.ob
  obtain ⟨kvs, e2, d⟩ := h.births.ex
  obtain ⟨kk, e3, d3⟩ := h.kept
  exact ⟨⟨dx, s _ _ (hp.ne e) e⟩, ⟨⟨kvs, s _ _ (hp.ned e2) e2, d.imp fun v a r => r.but s hp.nt⟩, h.births.nd⟩, ⟨kk, s _ _ (hp.ned e3) e3, d3.imp fun v a ⟨q, b', k', ev, r, n⟩ => ⟨q, b', k', ev, r.butW s hp, n⟩⟩, h.ndk, h.ne⟩
theorem FilesAt.bare {H : Hp} {q b k : Addr} {t : Tab} (h : FilesAt A H q b k t []) : Bare A H q b k t := by
  obtain ⟨kk, e3, d3⟩ := h.kept
  have : kk = [] := List.length_eq_zero_iff.mp d3.length
  subst this
  exact ⟨h.ob, h.births.r, .inl e3⟩
structure TTInv (A : ClsA) (H : Hp) (p q b k : Addr) (t : Tab) (zs rest : List Str) (i : Nat) (σ : L2.St) (H' : Hp) : Prop where
  ex : ∃ t1 t2 t3, σ = [some (V.ref p), some (.ref q), some (.str (prev zs i)), t1, t2, t3]
  but : But p H H'
  wd : WordsAt A H' p (preT t (zs.drop i) ++ rest)
  fl : ∃ u, FilesAt A H' q b k u [] ∧ (∀ m, look u m = if m ∈ zs.take i then look t m else none) ∧ u.length ≤ 60 * i
structure TPInv (A : ClsA) (H : Hp) (p q b k : Addr) (n : Str) (l : List Int) (u : Tab) (rest : List Str) (j : Nat) (σ : L2.St) (H' : Hp) : Prop where
  ex : ∃ t1 t3, σ = [some (V.ref p), some (.ref q), some (.str n), t1, some (.int l.length), t3]
  but : But p H H'
  wd : WordsAt A H' p (((l.drop j).map fun x => (toString x : Str)) ++ rest)
  fl : ∃ u', FilesAt A H' q b k u' [] ∧ lk u' n = l.take j ∧ (∀ m, m ≠ n → look u' m = look u m) ∧ (0 < j → look u' n = some (l.take j)) ∧ u'.length ≤ u.length + j
def spTable (A : ClsA) : Sp := fun vs H Q _ => ∃ (p : Addr) (t : Tab) (rest : List Str), vs = [.ref p] ∧ WordsAt A H p (wordsT t ++ rest) ∧ GoodM t ∧ ∀ q b k u H', But p H H' → H q = none → H b = none → H k = none → FilesAt A H' q b k u [] → Alike u t → WordsAt A H' p rest → Q (.ref q) H'
theorem sc_take_table : FnScope ["words", "files", "name", "number", "many", "place"] ["words"] (defScope s_take_table) := ⟨rfl, rfl, rfl, by decide +kernel, rfl, by decide +kernel, by decide +kernel⟩
theorem ok_take_table {f : Addr} {fd : FuncData} (F : Fun K "take_table" "take_table" s_take_table f fd) (T : Txt K mg A) (G_Files : GC P w K mg base true 1 "Files" A.Files ["self"] (spInitF A)) (M_Words_take_number : GM P w K mg base true 3 A.Words "take_number" ["self"] (spTakeNum A)) (G_take_later_name : GF P w K mg base true 4 "take_later_name" ["words", "name"] (spLater A)) (M_Files_put : GM P w K mg base true 4 A.Files "put" ["self", "file", "place", "birth"] (spPut A)) : FnOk P w K mg base CX0 true 5 f fd ["words"] (spTable A) := by
  refine F.ok sc_take_table (fun vs H Q E h => ?_) (fun cdv Ar outer s H vs Q E hr h => ?_)
  · obtain ⟨p, t, rest, rfl, _⟩ := h; rfl
  · obtain ⟨p, t, rest, rfl, hW, gm, q⟩ := h
    have hu : _ < cLine := Nat.lt_of_succ_lt (hu_of hr)
    refine ⟨_, (W.h (w_pss_cons (w_ps_set (i := 1) sc_take_table.nd rfl (Or.inl rfl) (w_pe_c0 G_Files hr rfl))
      (w_pss_cons (w_ps_set (i := 2) sc_take_table.nd rfl (Or.inl rfl) w_pe_str)
      (w_pss_cons (w_ps_for PassesOwn.never (fun _ => rfl) (w_pi_range1p rfl T.n_range (w_pa_p (w_pe_m0 (w_pv 0) T.cl_Words M_Words_take_number hr) w_pa_nil)) (w_pg_name (i := 3) sc_take_table.nd rfl (Or.inl rfl))
      (w_pss_cons (w_ps_set (i := 2) sc_take_table.nd rfl (Or.inl rfl) (w_pe_g G_take_later_name hr rfl (w_pa_p (w_pv 0) (w_pa_p (w_pv 2) w_pa_nil))))
      (w_pss_cons (w_ps_set (i := 4) sc_take_table.nd rfl (Or.inl rfl) (w_pe_m0 (w_pv 0) T.cl_Words M_Words_take_number hr))
      (w_pss_cons (w_ps_if (w_pt_cmpR (op_eqU hu) (w_pv 4) w_pe_int (nomark _))
      (w_pss_one w_ps_dead)
      w_pss_nil)
      (w_pss_one (w_ps_for PassesOwn.never (fun _ => rfl) (w_pi_range1p rfl T.n_range (w_pa_p (w_pv 4) w_pa_nil)) (w_pg_name (i := 5) sc_take_table.nd rfl (Or.inl rfl))
      (w_pss_one (w_ps_expr (w_pe_m (w_pv 1) T.cl_Files M_Files_put hr (w_pa_p (w_pv 2) (w_pa_p (w_pv 5) (w_pa_p (w_pe_m0 (w_pv 0) T.cl_Words M_Words_take_number hr) w_pa_nil))))))))))))
      (w_pss_one (w_ps_ret (w_pv 1))))))), ?_⟩
    have gl := gm.len
    simp_all only []
    refine fun x dx2 H2 nI => ⟨x, dx2, rfl, nI.at_, fun b1 k1 H3 s3 nb nk eb ek nbk ex => ⟨rfl, ?_⟩⟩
    have px : ∀ c o, H c = some o → c ≠ x := fun c o e z => by have := nI.no; rw [← z, e] at this; cases this
    have s03 : Same H H3 := fun c o e => s3 c o (px c o e) (nI.same c o e)
    have b0 : H b1 = none := nI.same.free nb
    have k0 : H k1 = none := nI.same.free nk
    have F3 : FilesAt A H3 x b1 k1 [] [] := ⟨⟨dx2, ex⟩, ⟨⟨[], eb, .nil⟩, by simp [names]⟩, ⟨[], ek, .nil⟩, by simp [names], nbk⟩
    have W3 := hW.same s03
    obtain ⟨dx, wl, pre, e1, e2, r⟩ := W3.ex
    simp_all only [e1, wf_take_number]
    refine ⟨p, t.length, preT t (sortS (names t)) ++ rest, rfl, W3, by omega, by omega, fun H4 b4 hW4 => ?_⟩
    have F4 := F3.butW b4 W3
    simp_all only []
    have sl : (sortS (names t)).length = t.length := by rw [(sortS_spec _).1.length_eq]; simp [names]
    have ris := rising gm.nd
    have ndz : (sortS (names t)).Nodup := (sortS_spec _).1.nodup_iff.mpr gm.nd
    have el : ((t.length : Nat) : Int).toNat = (sortS (names t)).length := by rw [sl]; omega
    rw [el]
    have b04 : But p H H4 := (But.of s03).trans b4
    refine ⟨by omega, by omega, ForJ.rng (TTInv A H p x b1 k1 t (sortS (names t)) rest) ⟨⟨_, _, _, rfl⟩, b04, hW4, ⟨[], F4, by simp [look], by simp⟩⟩ ?_ ?_⟩
    · rintro i σ H' hi ⟨⟨t1, t2, t3, rfl⟩, bt, hW', u, hF, hu1, hul⟩
      have hn : (sortS (names t))[i]? = some (sortS (names t))[i] := List.getElem?_eq_getElem hi
      generalize (sortS (names t))[i] = n at hn
      have hmem := (sortS_spec _).1.mem_iff.mp (List.mem_of_getElem? hn)
      obtain ⟨l, hl, el, l1, l2, lx⟩ := gm.lk hmem
      have hnm := gm.nm n hmem
      rw [preT_drop hn, el] at hW'
      simp_all only []
      refine ⟨p, _, n, _, rfl, hW', hnm, prev_lt ris hn (wd_name hnm).one, fun H5 b5 hW5 => ?_⟩
      have F5 := hF.butW b5 hW'
      obtain ⟨dx5, wl5, pre5, e15, _⟩ := hW5.ex
      simp_all only [e15, wf_take_number]
      refine ⟨p, l.length, _, rfl, hW5, by omega, by omega, fun H6 b6 hW6 => ?_⟩
      have F6 := F5.butW b6 hW5
      have hl0 : decide ((l.length : Int) = 0) = false := decide_eq_false (by omega)
      simp_all only [hl0]
      have ell : ((l.length : Nat) : Int).toNat = l.length := by omega
      rw [ell]
      have nu : look u n = none := by rw [hu1, if_neg (not_mem_take ndz hn)]
      refine ⟨by omega, by omega, ForJ.rng (TPInv A H p x b1 k1 n l u (preT t ((sortS (names t)).drop (i + 1)) ++ rest)) ⟨⟨_, _, rfl⟩, (bt.trans b5).trans b6, by simpa using hW6, u, F6, by unfold lk; rw [nu]; rfl, fun _ _ => rfl, fun z => absurd z (by omega), by omega⟩ ?_ ?_⟩
      · rintro j σ H' hj ⟨⟨t1, t3, rfl⟩, bt, hW', u', hF, hlk, hu2, hu3, hul2⟩
        obtain ⟨dx7, e17⟩ := hF.ob
        obtain ⟨dx8, wl8, pre8, e18, _⟩ := hW'.ex
        have hj' : l[j]? = some l[j] := List.getElem?_eq_getElem hj
        have lxj := lx l[j] (List.getElem_mem hj)
        generalize l[j] = y at hj' lxj
        rw [drop_at hj'] at hW'
        simp_all only [e17, e18, ff_put, wf_take_number]
        refine ⟨p, y, _, rfl, hW', lxj.1, lxj.2, fun H8 b8 hW8 => ?_⟩
        have F8 := hF.butW b8 hW'
        have ej : (0 + (j : Int)).toNat = j := by omega
        refine ⟨x, b1, k1, u', [], n, _, y, rfl, F8, by omega, ?_, ?_, ?_, fun H9 b9 F9 => ?_⟩
        · rw [hlk, List.length_take]; omega
        · rw [hlk, List.length_take]; omega
        · omega
        · rw [ej, hlk, List.drop_eq_nil_of_le (by rw [List.length_take]; omega), List.take_take, Nat.min_self, List.append_nil] at F9
          have et : l.take j ++ [y] = l.take (j + 1) := by rw [List.take_add_one, hj']; rfl
          rw [et] at F9
          obtain ⟨kvb, ebb, _⟩ := F8.births.ex
          refine ⟨⟨_, _, rfl⟩, (bt.trans b8).fresh b9 b0, hW8.but b9 ⟨_, ebb⟩, _, F9, ?_, fun m hm => ?_, fun _ => ?_, ?_⟩
          · unfold lk; rw [look_putA, if_pos rfl]; rfl
          · rw [look_putA, if_neg hm]; exact hu2 m hm
          · rw [look_putA, if_pos rfl]
          · have := len_putA (t := u') (n := n) (a := l.take (j + 1)); omega
      · rintro σ H' ⟨⟨t1, t3, rfl⟩, bt, hW', u', hF, hlk, hu2, hu3, hul2⟩
        have h3 := hu3 (by omega)
        rw [List.take_of_length_le (Nat.le_refl _)] at h3
        refine ⟨⟨_, _, _, by rw [prev_succ hn]⟩, bt, by simpa using hW', u', hF, fun m => ?_, by omega⟩
        by_cases hm : m = n
        · rw [hm, h3, if_pos ((mem_take_succ hn).mpr (.inr rfl)), hl]
        · rw [hu2 m hm, hu1]
          have : m ∈ (sortS (names t)).take (i + 1) ↔ m ∈ (sortS (names t)).take i := by rw [mem_take_succ hn]; simp [hm]
          simp only [this]
    · rintro σ H' ⟨⟨t1, t2, t3, rfl⟩, bt, hW', u, hF, hu1, hul⟩
      simp_all only []
      rw [List.drop_eq_nil_of_le (Nat.le_refl _)] at hW'
      refine q x b1 k1 u H' bt nI.no b0 k0 hF (fun m => ?_) (by simpa [preT] using hW')
      rw [hu1, List.take_of_length_le (Nat.le_refl _)]
      by_cases hm : m ∈ sortS (names t)
      · rw [if_pos hm]
      · rw [if_neg hm]
        exact (look_none.mpr fun z => hm ((sortS_spec _).1.mem_iff.mpr z)).symm
end
abbrev s_take_files : Stmt := top 26
abbrev s_read_files : Stmt := top 25
def AlikeK (us ks : List (Str × Tab)) : Prop := ∀ n, (look us n = none ∧ look ks n = none) ∨ ∃ x y, look us n = some x ∧ look ks n = some y ∧ Alike x y ∧ (names x).Nodup
theorem preK_drop {ks : List (Str × Tab)} {zs : List Str} {i : Nat} {n : Str} (h : zs[i]? = some n) : preK ks (zs.drop i) = n :: (wordsT (kkT ks n) ++ preK ks (zs.drop (i + 1))) := by
  rw [drop_at h]
  simp [preK]
theorem But.gone {p : Addr} {H H' : Hp} (x : But p H H') (n : H p = none) : Same H H' := fun a o e => x a o (fun z => by rw [← z, e] at n; cases n) e
section
variable {P : Program} {w : World} {K : PySem.W.Frag} {mg : Str → Option Value} {base : Heap} {A : ClsA}
structure TFInv (A : ClsA) (H : Hp) (p q b k : Addr) (t : Tab) (ks : List (Str × Tab)) (zs : List Str) (i : Nat) (σ : L2.St) (H' : Hp) : Prop where
  ex : ∃ t1, σ = [some (V.ref p), some (.ref q), some (.str (prev zs i)), t1]
  but : But p H H'
  wd : WordsAt A H' p (preK ks (zs.drop i))
  fl : ∃ u us, FilesAt A H' q b k u us ∧ Alike u t ∧ (∀ m, (m ∉ zs.take i ∧ look us m = none) ∨ (m ∈ zs.take i ∧ ∃ x y, look us m = some x ∧ look ks m = some y ∧ Alike x y ∧ (names x).Nodup)) ∧ us.length ≤ i
def spTF (A : ClsA) : Sp := fun vs H Q _ => ∃ (p : Addr) (t : Tab) (ks : List (Str × Tab)), vs = [.ref p] ∧ WordsAt A H p (allW t ks) ∧ GoodM t ∧ GoodK ks ∧ ∀ q b k u us H', But p H H' → H q = none → H b = none → H k = none → FilesAt A H' q b k u us → Alike u t → AlikeK us ks → WordsAt A H' p [] → Q (.ref q) H'
theorem sc_take_files : FnScope ["words", "files", "name", "number"] ["words"] (defScope s_take_files) := ⟨rfl, rfl, rfl, by decide +kernel, rfl, by decide +kernel, by decide +kernel⟩
theorem ok_take_files {f : Addr} {fd : FuncData} (F : Fun K "take_files" "take_files" s_take_files f fd) (T : Txt K mg A) (G_take_table : GF P w K mg base true 5 "take_table" ["words"] (spTable A)) (M_Words_take_number : GM P w K mg base true 3 A.Words "take_number" ["self"] (spTakeNum A)) (G_take_later_name : GF P w K mg base true 4 "take_later_name" ["words", "name"] (spLater A)) (M_Files_keep : GM P w K mg base true 4 A.Files "keep" ["self", "name", "files"] (spKeep A)) : FnOk P w K mg base CX0 true 6 f fd ["words"] (spTF A) := by
  refine F.ok sc_take_files (fun vs H Q E h => ?_) (fun cdv Ar outer s H vs Q E hr h => ?_)
  · obtain ⟨p, t, ks, rfl, _⟩ := h; rfl
  · obtain ⟨p, t, ks, rfl, hW, gm, gk, q⟩ := h
    refine ⟨_, (W.h (w_pss_cons (w_ps_set (i := 1) sc_take_files.nd rfl (Or.inl rfl) (w_pe_g G_take_table hr rfl (w_pa_p (w_pv 0) w_pa_nil)))
      (w_pss_cons (w_ps_set (i := 2) sc_take_files.nd rfl (Or.inl rfl) w_pe_str)
      (w_pss_cons (w_ps_for PassesOwn.never (fun _ => rfl) (w_pi_range1p rfl T.n_range (w_pa_p (w_pe_m0 (w_pv 0) T.cl_Words M_Words_take_number hr) w_pa_nil)) (w_pg_name (i := 3) sc_take_files.nd rfl (Or.inl rfl))
      (w_pss_cons (w_ps_set (i := 2) sc_take_files.nd rfl (Or.inl rfl) (w_pe_g G_take_later_name hr rfl (w_pa_p (w_pv 0) (w_pa_p (w_pv 2) w_pa_nil))))
      (w_pss_one (w_ps_expr (w_pe_m (w_pv 1) T.cl_Files M_Files_keep hr (w_pa_p (w_pv 2) (w_pa_p (w_pe_g G_take_table hr rfl (w_pa_p (w_pv 0) w_pa_nil)) w_pa_nil)))))))
      (w_pss_one (w_ps_ret (w_pv 1))))))), ?_⟩
    have kl := gk.len
    simp_all only []
    refine ⟨p, t, _, rfl, hW, gm, fun x b1 k1 u0 H3 b03 x0 b0 k0 F3 al W3 => ?_⟩
    obtain ⟨dx, wl, pre, e1, e2, r⟩ := W3.ex
    simp_all only [e1, wf_take_number]
    refine ⟨p, ks.length, preK ks (sortS (names ks)), rfl, W3, by omega, by omega, fun H4 b4 hW4 => ?_⟩
    have F4 := F3.butW b4 W3
    simp_all only []
    have sl : (sortS (names ks)).length = ks.length := by rw [(sortS_spec _).1.length_eq]; simp [names]
    have ris := rising gk.nd
    have ndz : (sortS (names ks)).Nodup := (sortS_spec _).1.nodup_iff.mpr gk.nd
    have el : ((ks.length : Nat) : Int).toNat = (sortS (names ks)).length := by rw [sl]; omega
    rw [el]
    have b04 : But p H H4 := b03.trans b4
    refine ⟨by omega, by omega, ForJ.rng (TFInv A H p x b1 k1 t ks (sortS (names ks))) ⟨⟨_, rfl⟩, b04, hW4, u0, [], F4, al, by simp [look], by simp⟩ ?_ ?_⟩
    · rintro i σ H' hi ⟨⟨t1, rfl⟩, bt, hW', u, us, hF, al', hu1, hul⟩
      have hn : (sortS (names ks))[i]? = some (sortS (names ks))[i] := List.getElem?_eq_getElem hi
      generalize (sortS (names ks))[i] = n at hn
      have hmem := (sortS_spec _).1.mem_iff.mp (List.mem_of_getElem? hn)
      obtain ⟨y, hy, ey, gy⟩ := gk.lk hmem
      have hnm := gk.nm n hmem
      rw [preK_drop hn, ey] at hW'
      simp_all only []
      refine ⟨p, _, n, _, rfl, hW', hnm, prev_lt ris hn (wd_name hnm).one, fun H5 b5 hW5 => ?_⟩
      have F5 := hF.butW b5 hW'
      obtain ⟨dx5, e15⟩ := F5.ob
      simp_all only [e15, ff_keep]
      refine ⟨p, y, _, rfl, hW5, gy, fun q6 b6 k6 u6 H6 bt6 _ _ _ F6 al6 hW6 => ?_⟩
      have F6' := F5.butW bt6 hW5
      obtain ⟨kk6, ek6, _⟩ := F6'.kept
      refine ⟨x, b1, k1, u, us, n, q6, u6, rfl, F6', F6.has, by omega, fun H7 b7 F7 => ⟨⟨_, by rw [prev_succ hn]⟩, ((bt.trans b5).trans bt6).fresh b7 k0, hW6.but b7 ⟨_, ek6⟩, u, _, F7, al', fun m => ?_, ?_⟩⟩
      · by_cases hm : m = n
        · exact .inr ⟨(mem_take_succ hn).mpr (.inr hm), u6, y, by rw [look_putA, if_pos hm], by rw [hm]; exact hy, al6, F6.births.nd⟩
        · rw [look_putA, if_neg hm]
          have : m ∈ (sortS (names ks)).take (i + 1) ↔ m ∈ (sortS (names ks)).take i := by rw [mem_take_succ hn]; simp [hm]
          rw [this]
          exact hu1 m
      · have := len_putA (t := us) (n := n) (a := u6); omega
    · rintro σ H' ⟨⟨t1, rfl⟩, bt, hW', u, us, hF, al', hu1, hul⟩
      simp_all only []
      rw [List.drop_eq_nil_of_le (Nat.le_refl _)] at hW'
      refine q x b1 k1 u us H' bt x0 b0 k0 hF al' (fun m => ?_) hW'
      have h := hu1 m
      rw [List.take_of_length_le (Nat.le_refl _)] at h
      rcases h with ⟨h1, h2⟩ | ⟨_, h⟩
      · exact .inl ⟨h2, look_none.mpr fun z => h1 ((sortS_spec _).1.mem_iff.mpr z)⟩
      · exact .inr h
theorem allW_cons (t : Tab) (ks : List (Str × Tab)) : ∃ v ws, allW t ks = v :: ws := ⟨_, _, by unfold allW wordsT; rw [List.cons_append]⟩
def spRead (A : ClsA) : Sp := fun vs H Q _ => ∃ (t : Tab) (ks : List (Str × Tab)), vs = [.str (textF t ks)] ∧ GoodM t ∧ GoodK ks ∧ ∀ q b k u us H', Same H H' → H q = none → H b = none → H k = none → FilesAt A H' q b k u us → Alike u t → AlikeK us ks → Q (.ref q) H'
theorem sc_read_files : FnScope ["text", "words", "files"] ["text"] (defScope s_read_files) := ⟨rfl, rfl, rfl, by decide +kernel, rfl, by decide +kernel, by decide +kernel⟩
theorem ok_read_files {f : Addr} {fd : FuncData} (F : Fun K "read_files" "read_files" s_read_files f fd) (T : Txt K mg A) (G_Words : GC P w K mg base true 1 "Words" A.Words ["self", "text"] (spInitW A)) (G_take_files : GF P w K mg base true 6 "take_files" ["words"] (spTF A)) (M_Words_take_end : GM P w K mg base true 2 A.Words "take_end" ["self"] (spTakeEnd A)) : FnOk P w K mg base CX0 true 7 f fd ["text"] (spRead A) := by
  refine F.ok sc_read_files (fun vs H Q E h => ?_) (fun cdv Ar outer s H vs Q E hr h => ?_)
  · obtain ⟨t, ks, rfl, _⟩ := h; rfl
  · obtain ⟨t, ks, rfl, gm, gk, q⟩ := h
    refine ⟨_, (W.h (w_pss_cons (w_ps_if (w_pt_not (w_pt_tru (w_pe_callBp call_isi rfl T.n_isinstance boot_isinstance (w_pa_p (w_pv 0) (w_pa_p (w_pe_bltn rfl T.n_str boot_str (v := .ty "str") rfl) w_pa_nil)))))
      (w_pss_one w_ps_dead)
      w_pss_nil)
      (w_pss_cons (w_ps_set (i := 1) sc_read_files.nd rfl (Or.inl rfl) (w_pe_c G_Words hr rfl (w_pa_p (w_pv 0) w_pa_nil)))
      (w_pss_cons (w_ps_tryD (fun pins => (w_pss_cons (w_ps_set (i := 2) sc_read_files.nd rfl (Or.inl rfl) (w_pe_g G_take_files hr rfl (w_pa_p (w_pv 1) w_pa_nil)))
      (w_pss_one (w_ps_expr (w_pe_m0 (w_pv 1) T.cl_Words M_Words_take_end hr))))))
      (w_pss_one (w_ps_ret (w_pv 2))))))), ?_⟩
    simp_all only []
    refine ⟨_, _, _, _, _, rfl, rfl, .of (.str _), rfl, ?_⟩
    simp_all only []
    intro x dx H2 nI
    obtain ⟨v, ws, ea⟩ := allW_cons t ks
    obtain ⟨w1, w2⟩ := allW_wd gm gk
    have et : textF t ks = PySem.Txt.join " " (v :: ws) := by unfold textF; rw [ea]
    rw [ea] at w1 w2
    refine ⟨x, dx, v, ws, by rw [et], nI.at_, w1, by simp at w2; omega, fun H3 b3 hW3 => ⟨rfl, x, t, ks, rfl, by rw [ea]; exact hW3, gm, gk, fun q' b k u us H4 b4 q0 b0 k0 F4 al alk hW4 => ?_⟩⟩
    obtain ⟨dx4, wl, pre, e14, _⟩ := hW4.ex
    have s3 : Same H H3 := ((But.of nI.same).trans b3).gone nI.no
    have s4 : Same H H4 := (((But.of nI.same).trans b3).trans b4).gone nI.no
    exact ⟨dx4, _, e14, wf_take_end, x, rfl, hW4, q q' b k u us H4 s4 (s3.free q0) (s3.free b0) (s3.free k0) F4 al alk⟩
end
abbrev s__law_settle : Stmt := top 41
abbrev s__law_files : Stmt := top 42
theorem len_dropA {α : Type} {t : List (Str × α)} {n : Str} : (dropA t n).length ≤ t.length := by
  unfold dropA
  exact List.length_filter_le _ _
/-! ### what is alike is as good -/
theorem alike_mem {α : Type} {u t : List (Str × α)} (al : Alike u t) (nd : (names u).Nodup) {p : Str × α} (h : p ∈ u) : p ∈ t := by
  have e : look u p.1 = some p.2 := look_of_nd nd h
  rw [al p.1] at e
  exact look_mem e
theorem alike_name {α : Type} {u t : List (Str × α)} (al : Alike u t) {n : Str} (h : n ∈ names u) : n ∈ names t := by
  refine Classical.byContradiction fun z => ?_
  have e := look_none.mpr z
  rw [← al n] at e
  exact look_none.mp e h
theorem GoodM.alike {u t : Tab} (gm : GoodM t) (al : Alike u t) (nd : (names u).Nodup) : GoodM u :=
  ⟨nd, by rw [alike_len al nd gm.nd]; exact gm.len, fun n hn => gm.nm n (alike_name al hn), fun p hp => gm.ls p (alike_mem al nd hp)⟩
theorem alikeK_names {us ks : List (Str × Tab)} (al : AlikeK us ks) {n : Str} : n ∈ names us ↔ n ∈ names ks := by
  constructor
  · intro h
    refine Classical.byContradiction fun z => ?_
    rcases al n with ⟨h1, _⟩ | ⟨x, y, _, h2, _⟩
    · exact look_none.mp h1 h
    · rw [look_none.mpr z] at h2; cases h2
  · intro h
    refine Classical.byContradiction fun z => ?_
    rcases al n with ⟨_, h1⟩ | ⟨x, y, h2, _⟩
    · exact look_none.mp h1 h
    · rw [look_none.mpr z] at h2; cases h2
theorem alikeK_perm {us ks : List (Str × Tab)} (al : AlikeK us ks) (nd : (names us).Nodup) (nd' : (names ks).Nodup) : (names us).Perm (names ks) := (List.perm_ext_iff_of_nodup nd nd').mpr fun _ => alikeK_names al
theorem alikeK_len {us ks : List (Str × Tab)} (al : AlikeK us ks) (nd : (names us).Nodup) (nd' : (names ks).Nodup) : us.length = ks.length := by
  have := (alikeK_perm al nd nd').length_eq
  simpa [names] using this
theorem GoodK.alike {us ks : List (Str × Tab)} (gk : GoodK ks) (al : AlikeK us ks) (nd : (names us).Nodup) : GoodK us := by
  refine ⟨nd, by rw [alikeK_len al nd gk.nd]; exact gk.len, fun n hn => gk.nm n ((alikeK_names al).mp hn), fun p hp => ?_⟩
  have e : look us p.1 = some p.2 := look_of_nd nd hp
  rcases al p.1 with ⟨h1, _⟩ | ⟨x, y, h1, h2, h3, h4⟩
  · rw [e] at h1; cases h1
  · rw [e] at h1
    cases h1
    exact GoodM.alike (gk.gm _ (look_mem h2)) h3 h4
theorem alike_text {u t : Tab} {us ks : List (Str × Tab)} (gm : GoodM t) (gk : GoodK ks) (al : Alike u t) (alk : AlikeK us ks) (nd : (names u).Nodup) (ndk : (names us).Nodup) : textF u us = textF t ks := by
  have e : ∀ n, wordsT (kkT us n) = wordsT (kkT ks n) := fun n => by
    unfold kkT
    rcases alk n with ⟨h1, h2⟩ | ⟨x, y, h1, h2, h3, h4⟩
    · rw [h1, h2]
    · rw [h1, h2]; exact alike_words h3 h4 (gk.gm _ (look_mem h2)).nd
  unfold textF allW preK
  rw [alike_words al nd gm.nd, alikeK_len alk ndk gk.nd, sortS_eq (alikeK_perm alk ndk gk.nd)]
  simp only [e]
section
variable {P : Program} {w : World} {K : PySem.W.Frag} {mg : Str → Option Value} {base : Heap} {A : ClsA}
theorem MdR.fs {H H' : Hp} {v : V} {l : List Int} (h : MdR H v l) (s : FS H H') : MdR H' v l := let ⟨p, e, hp⟩ := h; ⟨p, e, s.oth p _ (fun _ => nofun) (fun _ _ => nofun) hp⟩
theorem MdR.butD {H H' : Hp} {b : Addr} {v : V} {l : List Int} {kvs : List (Key × V)} (h : MdR H v l) (s : But b H H') (hb : H b = some (.dK kvs)) : MdR H' v l := let ⟨p, e, hp⟩ := h; ⟨p, e, s _ _ (fun z => by subst z; rw [hp] at hb; cases hb) hp⟩
/-- first loop -/
structure SeInv (A : ClsA) (H : Hp) (p b k d nl : Addr) (t u : Tab) (ks : List (Str × Tab)) (zs : List Str) (i : Nat) (σ : L2.St) (H' : Hp) : Prop where
  ex : ∃ t1 t2 t3, σ = [some (V.ref p), some (.ref d), t1, t2, t3]
  but : But b H H'
  hnl : H' nl = some (.lst (zs.map V.str))
  fl : ∃ t', FilesAt A H' p b k t' ks ∧ (∀ m, look t' m = if m ∈ zs.take i ∧ look u m = none then none else look t m) ∧ t'.length ≤ t.length
structure SfInv (A : ClsA) (H : Hp) (p b k d : Addr) (kvs : List (Str × V)) (o : Obj) (t u : Tab) (ks : List (Str × Tab)) (i : Nat) (σ : L2.St) (H' : Hp) : Prop where
  ex : ∃ t1 t2 t3, σ = [some (V.ref p), some (.ref d), t1, t2, t3]
  but : But b H H'
  hd : H' d = some (.frz o (.dK (sk kvs)))
  md : Dct (MdR H') kvs u
  fl : ∃ t', FilesAt A H' p b k t' ks ∧ (∀ m, look t' m = if m ∈ (names u).take i then look u m else if look u m = none then none else look t m) ∧ t'.length ≤ 4 + 61 * i
structure SgInv (A : ClsA) (H : Hp) (p b k d r : Addr) (kvs : List (Str × V)) (o : Obj) (n : Str) (l : List Int) (t u : Tab) (ks : List (Str × Tab)) (j : Nat) (σ : L2.St) (H' : Hp) : Prop where
  ex : ∃ t2 t3, σ = [some (V.ref p), some (.ref d), some (.str n), t2, t3]
  but : But b H H'
  hd : H' d = some (.frz o (.dK (sk kvs)))
  md : Dct (MdR H') kvs u
  hr : H' r = some (.lst (l.map V.int))
  fl : ∃ t', FilesAt A H' p b k t' ks ∧ lk t' n = l.take j ++ (lk t n).drop j ∧ (∀ m, m ≠ n → look t' m = look t m) ∧ (0 < j → look t' n = some (lk t' n)) ∧ t'.length ≤ t.length + j
def spSettle (A : ClsA) : Sp := fun vs H Q _ => ∃ (p b k d : Addr) (t u : Tab) (ks : List (Str × Tab)), vs = [.ref p, .ref d] ∧ FilesAt A H p b k t ks ∧ GoodM t ∧ MdAt H d u ∧ GoodM u ∧ d ≠ b ∧ d ≠ k ∧ ∀ t' H', But b H H' → FilesAt A H' p b k t' ks → Alike t' u → Q .non H'
theorem sc__law_settle : FnScope ["_law_files_here", "_law_model_here", "_law_name_here", "_law_place", "_law_birth_here"] ["_law_files_here", "_law_model_here"] (defScope s__law_settle) := ⟨rfl, rfl, rfl, by decide +kernel, rfl, by decide +kernel, by decide +kernel⟩
theorem ok__law_settle {f : Addr} {fd : FuncData} (F : Fun K "_law_settle" "_law_settle" s__law_settle f fd) (T : Txt K mg A) (M_Files_names : GM P w K mg base true 1 A.Files "names" ["self"] (spNames A)) (M_Files_put : GM P w K mg base true 4 A.Files "put" ["self", "file", "place", "birth"] (spPut A)) (M_Files_cut : GM P w K mg base true 4 A.Files "cut" ["self", "file", "many"] (spCut A)) : FnOk P w K mg base CX0 true 5 f fd ["_law_files_here", "_law_model_here"] (spSettle A) := by
  refine F.ok sc__law_settle (fun vs H Q E h => ?_) (fun cdv Ar outer s H vs Q E hr h => ?_)
  · obtain ⟨p, b, k, d, t, u, ks, rfl, _⟩ := h; rfl
  · obtain ⟨p, b, k, d, t, u, ks, rfl, hF, gt, hM, gu, db, dk, q⟩ := h
    refine ⟨_, (W.h (w_pss_cons (w_ps_for PassesOwn.never (fun _ => rfl) (w_pi_list (w_pe_m0 (w_pv 0) T.cl_Files M_Files_names hr)) (w_pg_name (i := 2) sc__law_settle.nd rfl (Or.inl rfl))
      (w_pss_one (w_ps_if (w_pt_cmpR (op_nin_dict (hu_of hr)) (w_pv 2) (w_pv 1) rfl)
      (w_pss_one (w_ps_expr (w_pe_m (w_pv 0) T.cl_Files M_Files_cut hr (w_pa_p (w_pv 2) (w_pa_p w_pe_int w_pa_nil)))))
      w_pss_nil)))
      (w_pss_one (w_ps_fz (w_ps_for PassesOwn.never (fun _ => rfl) (w_pi_dict (w_pv 1)) (w_pg_name (i := 2) sc__law_settle.nd rfl (Or.inl rfl))
      (w_pss_cons (w_ps_for PassesOwn.never (fun _ => rfl) (w_pi_enumL rfl T.n_enumerate (w_pa_p (w_pe_ix (ix_dict (hu_of hr)) (w_pv 1) (w_pv 2) (fun _ _ => rfl)) w_pa_nil)) (w_pg_tupA (n := 2) (w_pgs_cons (w_pg_name (i := 3) sc__law_settle.nd rfl (Or.inl rfl)) (w_pgs_cons (w_pg_name (i := 4) sc__law_settle.nd rfl (Or.inl rfl)) w_pgs_nil)))
      (w_pss_one (w_ps_expr (w_pe_m (w_pv 0) T.cl_Files M_Files_put hr (w_pa_p (w_pv 2) (w_pa_p (w_pv 3) (w_pa_p (w_pv 4) w_pa_nil)))))))
      (w_pss_one (w_ps_expr (w_pe_m (w_pv 0) T.cl_Files M_Files_cut hr (w_pa_p (w_pv 2) (w_pa_p (w_pe_callBp call_lenU rfl T.n_len PySem.boot_len (w_pa_p (w_pe_ix (ix_dict (hu_of hr)) (w_pv 1) (w_pv 2) (fun _ _ => rfl)) w_pa_nil)) w_pa_nil))))))))))), ?_⟩
    obtain ⟨dx, e1⟩ := hF.ob
    obtain ⟨kvs, ed, dc⟩ := hM.ex
    have gtl := gt.len
    have gul := gu.len
    simp_all only [e1, ff_names]
    refine ⟨p, b, k, t, ks, rfl, hF.r, by omega, fun nl H1 n1 => ?_⟩
    have sl : (sortS (names t)).length = t.length := by rw [(sortS_spec _).1.length_eq]; simp [names]
    have ndz : (sortS (names t)).Nodup := (sortS_spec _).1.nodup_iff.mpr gt.nd
    obtain ⟨kvb, ebb, _⟩ := hF.births.ex
    have nlb : nl ≠ b := fun z => by have := n1.no; rw [z, ebb] at this; cases this
    simp_all only []
    refine ⟨⟨_, SqL.of n1.at_⟩, ForJ.lst (xs := (sortS (names t)).map V.str) (SeInv A H p b k d nl t u ks (sortS (names t))) ⟨⟨_, _, _, rfl⟩, But.of n1.same, n1.at_, t, hF.same n1.same, by simp, by omega⟩ (fun i σ H' _ I => SqL.of I.hnl) ?_ ?_⟩
    · rintro i x σ H' hx ⟨⟨t1, t2, t3, rfl⟩, bt, hnl, t', hF', ht', htl⟩
      rw [List.getElem?_map] at hx
      obtain ⟨n, hn, rfl⟩ := Option.map_eq_some_iff.mp hx
      have ed' := bt _ _ db ed
      simp_all only []
      refine ⟨_, .inl ed', ?_⟩
      rw [valV_sk, Dct.some_iff dc n]
      obtain ⟨dx', e1'⟩ := hF'.ob
      obtain ⟨l, hl, el, l1, l2, lx⟩ := gt.lk ((sortS_spec _).1.mem_iff.mp (List.mem_of_getElem? hn))
      have hnt : look t' n = some l := by rw [ht', if_neg (fun z => not_mem_take ndz hn z.1), hl]
      have hmi : ∀ m, m ≠ n → (m ∈ (sortS (names t)).take (i + 1) ↔ m ∈ (sortS (names t)).take i) := fun m hm => by rw [mem_take_succ hn]; simp [hm]
      refine ite2 (fun h => ?_) (fun h => ?_)
      · have hu : look u n = none := by simpa using h
        have ec : cutT t' n 0 = dropA t' n := if_pos rfl
        refine ⟨dx', _, e1', ff_cut, p, b, k, t', ks, n, l, 0, rfl, hF', hnt, by omega, by omega, by omega, fun H2 b2 F2 => ⟨⟨_, _, _, rfl⟩, bt.trans b2, b2 _ _ nlb hnl, _, F2, fun m => ?_, ?_⟩⟩
        · rw [ec, look_dropA]
          by_cases hm : m = n
          · rw [if_pos hm, if_pos ⟨(mem_take_succ hn).mpr (.inr hm), by rw [hm]; exact hu⟩]
          · rw [if_neg hm, ht']
            simp only [hmi m hm]
        · rw [ec]; exact Nat.le_trans len_dropA htl
      · have hu : ¬ look u n = none := fun z => h (by rw [z]; rfl)
        refine ⟨⟨_, _, _, rfl⟩, bt, hnl, t', hF', fun m => ?_, htl⟩
        by_cases hm : m = n
        · rw [hm, if_neg (fun z => hu z.2), ht', if_neg (fun z => hu z.2)]
        · rw [ht']
          simp only [hmi m hm]
    · rintro σ H' ⟨⟨t1, t2, t3, rfl⟩, bt, hnl, t', hF', ht', htl⟩
      rw [List.length_map, List.take_of_length_le (Nat.le_refl _)] at ht'
      have hed := bt _ _ db ed
      have dc' : Dct (MdR H') kvs u := dc.imp fun v a r => r.butD bt ebb
      simp_all only []
      refine ⟨d, sk kvs, hed, fun o => ⟨o, sk kvs, upd_same, ForJ.dct (SfInv A (upd H' d (.frz o (.dK (sk kvs)))) p b k d kvs o t u ks) ⟨⟨_, _, _, rfl⟩, fun _ _ _ e => e, upd_same, dc'.imp fun v a r => r.fs (FS.freeze hed), t', hF'.fs (FS.freeze hed) But.upd (Ne.symm db) (Ne.symm dk), fun m => ?_, by omega⟩ (fun i σ H _ I => I.hd) ?_ ?_⟩⟩
      · rw [ht']
        by_cases h1 : look u m = none
        · simp [h1]
          by_cases h2 : m ∈ sortS (names t)
          · simp [h2]
          · simp [h2]; exact look_none.mpr fun z => h2 ((sortS_spec _).1.mem_iff.mpr z)
        · simp [h1]
      · rintro i pr σ H2 hpr ⟨⟨t1, t2, t3, rfl⟩, bt2, hd, dc2, t2', hF2, ht2, htl2⟩
        obtain ⟨q0, hq0, rfl⟩ := sk_at hpr
        obtain ⟨l, hul, _⟩ := dc2.at hq0
        generalize q0.1 = n at hul
        have hlu : look u n = some l := look_of_nd gu.nd (List.mem_of_getElem? hul)
        have hnn : (names u)[i]? = some n := by unfold names; rw [List.getElem?_map, hul]; rfl
        obtain ⟨l', hl', el', l1, l2, lx⟩ := gu.lk (List.mem_of_getElem? hnn)
        rw [hlu] at hl'
        cases hl'
        have hil : i < u.length := (List.getElem?_eq_some_iff.mp hul).1
        obtain ⟨v, l', d1, d2, pl, ev, hpl⟩ : ∃ v l', look kvs n = some v ∧ look u n = some l' ∧ MdR H2 v l' := by
          rcases dc2.look n with z | ⟨_, d2⟩
          · exact z
          · rw [hlu] at d2; cases d2
        rw [hlu] at d2
        cases d2
        subst ev
        show gName 2 (V.str n) _ H2 _
        simp_all only []
        refine ⟨_, .inr ⟨o, hd⟩, .ref pl, by rw [valV_sk]; exact d1, ?_⟩
        simp_all only []
        have hlk : (lk t2' n).length ≤ 60 := by
          have : look t2' n = look t n := by rw [ht2, if_neg (not_mem_take gu.nd hnn), if_neg (fun z => by rw [hlu] at z; cases z)]
          unfold lk
          rw [this]
          cases e : look t n with
          | none => simp
          | some y => exact (gt.ls _ (look_mem e)).2.1
        refine ⟨⟨_, SqL.of hpl⟩, ForJ.enum (xs := l.map V.int) (SgInv A (upd H' d (.frz o (.dK (sk kvs)))) p b k d pl kvs o n l t2' u ks) ⟨⟨_, _, rfl⟩, bt2, hd, dc2, hpl, t2', hF2, by simp, fun _ _ => rfl, fun z => absurd z (by omega), by omega⟩ (fun i σ H' _ I => SqL.of I.hr) ?_ ?_⟩
        · rintro j x pp σ H3 hx ⟨⟨t2, t3, rfl⟩, bt3, hd3, dc3, hr3, t3', hF3, hlk3, hm3, hs3, htl3⟩ hp
          rw [List.getElem?_map] at hx
          obtain ⟨y, hy, rfl⟩ := Option.map_eq_some_iff.mp hx
          have hjl : j < l.length := (List.getElem?_eq_some_iff.mp hy).1
          refine ⟨pp, _, rfl, SqT.of upd_same, rfl, ?_⟩
          have nw : New H3 pp (.tup [.int j, .int y]) (upd H3 pp (.tup [.int j, .int y])) := .mk' hp
          generalize upd H3 pp (.tup [.int j, .int y]) = H4 at nw ⊢
          have F4 := hF3.same nw.same
          obtain ⟨dx4, e4⟩ := F4.ob
          obtain ⟨kv4, eb4, _⟩ := F4.births.ex
          simp_all only [e4, ff_put]
          have hl3 : (lk t3' n).length ≤ 120 := by rw [hlk3, List.length_append, List.length_take, List.length_drop]; omega
          have hl3' : j ≤ (lk t3' n).length := by rw [hlk3, List.length_append, List.length_take, List.length_drop]; omega
          have dpl : pl ≠ b := fun z => by have e := nw.same _ _ hr3; rw [z, eb4] at e; cases e
          refine ⟨p, b, k, t3', ks, n, j, y, rfl, F4, by omega, by omega, by omega, by omega, fun H5 b5 F5 => ?_⟩
          have ej : ((j : Nat) : Int).toNat = j := by omega
          have e5 : (lk t3' n).take ((j : Nat) : Int).toNat ++ [y] ++ (lk t3' n).drop (((j : Nat) : Int).toNat + 1) = l.take (j + 1) ++ (lk t2' n).drop (j + 1) := by
            rw [ej, hlk3]
            have h1 : (l.take j ++ (lk t2' n).drop j).take j = l.take j := List.take_left' (by rw [List.length_take]; omega)
            have h2 : (l.take j ++ (lk t2' n).drop j).drop (j + 1) = (lk t2' n).drop (j + 1) := by
              rw [List.drop_append, List.drop_eq_nil_of_le (by rw [List.length_take]; omega), List.length_take, Nat.min_eq_left (by omega), List.drop_drop, List.nil_append]
              congr 1; omega
            have h3 : l.take j ++ [y] = l.take (j + 1) := by rw [List.take_add_one, hy]; rfl
            rw [h1, h2, h3]
          rw [e5] at F5
          refine ⟨⟨_, _, rfl⟩, (bt3.trans (But.of nw.same)).trans b5, b5 _ _ db (nw.same _ _ hd3), dc3.imp fun v a r => (r.same nw.same).butD b5 eb4, b5 _ _ dpl (nw.same _ _ hr3), _, F5, ?_, fun m hm => ?_, fun _ => ?_, ?_⟩
          · unfold lk; rw [look_putA, if_pos rfl]; rfl
          · rw [look_putA, if_neg hm]; exact hm3 m hm
          · unfold lk; rw [look_putA, if_pos rfl]; rfl
          · have := len_putA (t := t3') (n := n) (a := l.take (j + 1) ++ (lk t2' n).drop (j + 1)); omega
        · rintro σ H3 ⟨⟨t2, t3, rfl⟩, bt3, hd3, dc3, hr3, t3', hF3, hlk3, hm3, hs3, htl3⟩
          obtain ⟨dx4, e4⟩ := hF3.ob
          rw [List.length_map] at hlk3 hs3 htl3
          have hs3 := hs3 (by omega)
          rw [List.take_of_length_le (Nat.le_refl _)] at hlk3
          simp_all only [e4, ff_cut]
          refine ⟨_, .inr ⟨o, hd3⟩, .ref pl, by rw [valV_sk]; exact d1, ?_⟩
          rw [uLen_r]
          refine ⟨_, .inl hr3, ?_⟩
          rw [List.length_map]
          refine ⟨p, b, k, t3', ks, n, lk t3' n, l.length, rfl, hF3, hs3, by omega, ?_, by omega, fun H5 b5 F5 => ?_⟩
          · rw [hlk3, List.length_append]; omega
          · obtain ⟨kv4, eb4, _⟩ := hF3.births.ex
            have ec : cutT t3' n l.length = putA t3' n l := by
              unfold cutT
              rw [if_neg (by omega), hlk3, show ((l.length : Nat) : Int).toNat = l.length by omega, List.take_left' rfl]
            rw [ec] at F5
            refine ⟨⟨_, _, _, rfl⟩, bt3.trans b5, b5 _ _ db hd3, dc3.imp fun v a r => r.butD b5 eb4, _, F5, fun m => ?_, ?_⟩
            · rw [look_putA]
              by_cases hm : m = n
              · rw [if_pos hm, if_pos ((mem_take_succ hnn).mpr (.inr hm)), hm, hlu]
              · rw [if_neg hm, hm3 m hm, ht2]
                have : m ∈ (names u).take (i + 1) ↔ m ∈ (names u).take i := by rw [mem_take_succ hnn]; simp [hm]
                simp only [this]
            · have := len_putA (t := t3') (n := n) (a := l); omega
      · rintro σ H2 ⟨⟨t1, t2, t3, rfl⟩, bt2, hd, dc2, t2', hF2, ht2, htl2⟩
        refine ⟨o, hd, q t2' _ (fun a oo na e => ?_) (hF2.fs (FS.thaw hd) But.upd (Ne.symm db) (Ne.symm dk)) fun m => ?_⟩
        · by_cases z : a = d
          · subst z; rw [upd_same, ← e, ed]
          · rw [upd_ne z]; exact bt2 _ _ na (by rw [upd_ne z]; exact bt _ _ na e)
        · rw [sk_len, dc.length] at ht2
          have hle : (names u).take u.length = names u := List.take_of_length_le (by simp [names])
          rw [ht2, hle]
          by_cases h : m ∈ names u
          · rw [if_pos h]
          · rw [if_neg h, if_pos (look_none.mpr h), look_none.mpr h]
end
section
variable {P : Program} {w : World} {K : PySem.W.Frag} {mg : Str → Option Value} {base : Heap} {A : ClsA}
theorem MdAt.butD {H H' : Hp} {d x : Addr} {t : Tab} {kvs : List (Key × V)} (h : MdAt H d t) (s : But x H H') (hx : H x = some (.dK kvs)) (n : d ≠ x) : MdAt H' d t := by
  obtain ⟨kv, e, r⟩ := h.ex
  exact ⟨⟨kv, s _ _ n e, r.imp fun v a z => z.butD s hx⟩⟩
structure LFInv (A : ClsA) (H : Hp) (d kd p b k : Addr) (kvs : List (Str × V)) (o : Obj) (ks : List (Str × Tab)) (i : Nat) (σ : L2.St) (H' : Hp) : Prop where
  ex : ∃ t1, σ = [some (V.ref d), some (.ref kd), some (.ref p), t1]
  but : But kd H H'
  hd : H' kd = some (.frz o (.dK (sk kvs)))
  fl : ∃ t' us, FilesAt A H' p b k t' us ∧ GoodM t' ∧ (∀ m, (m ∉ (names ks).take i ∧ look us m = none) ∨ (m ∈ (names ks).take i ∧ ∃ x y, look us m = some x ∧ look ks m = some y ∧ Alike x y ∧ (names x).Nodup)) ∧ us.length ≤ i
def spFiles (A : ClsA) : Sp := fun vs H Q _ => ∃ (d kd : Addr) (t : Tab) (ks : List (Str × Tab)), vs = [.ref d, .ref kd] ∧ MdAt H d t ∧ GoodM t ∧ MkAt H kd ks ∧ GoodK ks ∧ ∀ p b k t' us H', Same H H' → H p = none → H b = none → H k = none → FilesAt A H' p b k t' us → Alike t' t → AlikeK us ks → Q (.ref p) H'
theorem sc__law_files : FnScope ["_law_model_here", "_law_kept", "_law_files_here", "_law_name_here"] ["_law_model_here", "_law_kept"] (defScope s__law_files) := ⟨rfl, rfl, rfl, by decide +kernel, rfl, by decide +kernel, by decide +kernel⟩
theorem ok__law_files {f : Addr} {fd : FuncData} (F : Fun K "_law_files" "_law_files" s__law_files f fd) (T : Txt K mg A) (G_Files : GC P w K mg base true 1 "Files" A.Files ["self"] (spInitF A)) (G__law_settle : GF P w K mg base true 5 "_law_settle" ["_law_files_here", "_law_model_here"] (spSettle A)) (M_Files_hold : GM P w K mg base true 5 A.Files "hold" ["self", "name"] (spHold A)) : FnOk P w K mg base CX0 true 6 f fd ["_law_model_here", "_law_kept"] (spFiles A) := by
  refine F.ok sc__law_files (fun vs H Q E h => ?_) (fun cdv Ar outer s H vs Q E hr h => ?_)
  · obtain ⟨d, kd, t, ks, rfl, _⟩ := h; rfl
  · obtain ⟨d, kd, t, ks, rfl, hM, gm, hK, gk, q⟩ := h
    refine ⟨_, (W.h (w_pss_cons (w_ps_set (i := 2) sc__law_files.nd rfl (Or.inl rfl) (w_pe_c0 G_Files hr rfl))
      (w_pss_cons (w_ps_fz (w_ps_for PassesOwn.never (fun _ => rfl) (w_pi_dict (w_pv 1)) (w_pg_name (i := 3) sc__law_files.nd rfl (Or.inl rfl))
      (w_pss_cons (w_ps_expr (w_pe_g G__law_settle hr rfl (w_pa_p (w_pv 2) (w_pa_p (w_pe_ix (ix_dict (hu_of hr)) (w_pv 1) (w_pv 3) (fun _ _ => rfl)) w_pa_nil))))
      (w_pss_one (w_ps_expr (w_pe_m (w_pv 2) T.cl_Files M_Files_hold hr (w_pa_p (w_pv 3) w_pa_nil)))))))
      (w_pss_cons (w_ps_expr (w_pe_g G__law_settle hr rfl (w_pa_p (w_pv 2) (w_pa_p (w_pv 0) w_pa_nil))))
      (w_pss_one (w_ps_ret (w_pv 2))))))), ?_⟩
    obtain ⟨kvs, ekd, dc⟩ := hK.ex
    have kl := gk.len
    simp_all only []
    refine fun x dx2 H2 nI => ⟨x, dx2, rfl, nI.at_, fun b1 k1 H3 s3 nb nk eb ek nbk ex => ⟨rfl, ?_⟩⟩
    have px : ∀ c o, H c = some o → c ≠ x := fun c o e z => by have := nI.no; rw [← z, e] at this; cases this
    have s03 : Same H H3 := fun c o e => s3 c o (px c o e) (nI.same c o e)
    have b0 : H b1 = none := nI.same.free nb
    have k0 : H k1 = none := nI.same.free nk
    have F3 : FilesAt A H3 x b1 k1 [] [] := ⟨⟨dx2, ex⟩, ⟨⟨[], eb, .nil⟩, by simp [names]⟩, ⟨[], ek, .nil⟩, by simp [names], nbk⟩
    have g0 : GoodM [] := ⟨by simp [names], by simp, by simp [names], by simp⟩
    have nb' : ∀ c o, H c = some o → b1 ≠ c := fun c o e z => by rw [← z, b0] at e; cases e
    have nk' : ∀ c o, H c = some o → k1 ≠ c := fun c o e z => by rw [← z, k0] at e; cases e
    have bkd := nb' _ _ ekd
    have kkd := nk' _ _ ekd
    have ekd3 := s03 _ _ ekd
    refine ⟨kd, sk kvs, ekd3, fun o => ⟨o, sk kvs, upd_same, ForJ.dct (LFInv A H d kd x b1 k1 kvs o ks) ⟨⟨_, rfl⟩, fun a u na e => by rw [upd_ne na]; exact s03 _ _ e, upd_same, [], [], F3.fs (FS.freeze ekd3) But.upd bkd kkd, g0, by simp [look], by simp⟩ (fun i σ H _ I => I.hd) ?_ ?_⟩⟩
    · rintro i pr σ H2 hpr ⟨⟨t1, rfl⟩, bt, hd, t', us, hF, gt, hus, hul⟩
      obtain ⟨q0, hq0, rfl⟩ := sk_at hpr
      obtain ⟨u, hul', _⟩ := dc.at hq0
      generalize q0.1 = n at hul'
      have hlu : look ks n = some u := look_of_nd gk.nd (List.mem_of_getElem? hul')
      have hnn : (names ks)[i]? = some n := by unfold names; rw [List.getElem?_map, hul']; rfl
      have hil : i < ks.length := (List.getElem?_eq_some_iff.mp hul').1
      have gu : GoodM u := gk.gm _ (List.mem_of_getElem? hul')
      obtain ⟨v, u', d1, d2, d', ev, ned, hMd⟩ : ∃ v u', look kvs n = some v ∧ look ks n = some u' ∧ ∃ d, v = .ref d ∧ d ≠ kd ∧ MdAt H d u' := by
        rcases dc.look n with z | ⟨_, d2⟩
        · exact z
        · rw [hlu] at d2; cases d2
      rw [hlu] at d2
      cases d2
      subst ev
      obtain ⟨kvd, ed', _⟩ := hMd.ex
      show gName 3 (V.str n) _ H2 _
      simp_all only []
      refine ⟨_, .inr ⟨o, hd⟩, .ref d', by rw [valV_sk]; exact d1, ?_⟩
      refine ⟨x, b1, k1, d', t', u, us, rfl, hF, gt, hMd.butD bt ekd ned, gu, Ne.symm (nb' _ _ ed'), Ne.symm (nk' _ _ ed'), fun t2 H4 b4 F4 al4 => ?_⟩
      have F4g := GoodM.alike gu al4 F4.births.nd
      obtain ⟨dx4, e4⟩ := F4.ob
      have hnone : look us n = none := by
        rcases hus n with ⟨_, h⟩ | ⟨h, _⟩
        · exact h
        · exact absurd h (not_mem_take gk.nd hnn)
      simp_all only [e4, ff_hold]
      refine ⟨x, b1, k1, t2, us, n, rfl, F4, hnone, by omega, fun H5 b5 F5 => ?_⟩
      refine ⟨⟨_, rfl⟩, (bt.fresh b4 b0).fresh b5 k0, b5 _ _ (Ne.symm kkd) (b4 _ _ (Ne.symm bkd) hd), t2, _, F5, F4g, fun m => ?_, ?_⟩
      · by_cases hm : m = n
        · exact .inr ⟨(mem_take_succ hnn).mpr (.inr hm), t2, u, by rw [look_putA, if_pos hm], by rw [hm]; exact hlu, al4, F4.births.nd⟩
        · rw [look_putA, if_neg hm]
          have : m ∈ (names ks).take (i + 1) ↔ m ∈ (names ks).take i := by rw [mem_take_succ hnn]; simp [hm]
          rw [this]
          exact hus m
      · have := len_putA (t := us) (n := n) (a := t2); omega
    · rintro σ H2 ⟨⟨t1, rfl⟩, bt, hd, t', us, hF, gt, hus, hul⟩
      have hle : (names ks).take (sk kvs).length = names ks := List.take_of_length_le (by rw [sk_len, dc.length]; simp [names])
      rw [hle] at hus
      refine ⟨o, hd, ?_⟩
      have sT : Same H (upd H2 kd (.dK (sk kvs))) := fun a oo e => by
        by_cases z : a = kd
        · subst z; rw [upd_same, ← e, ekd]
        · rw [upd_ne z]; exact bt _ _ z e
      have FT := hF.fs (FS.thaw hd) But.upd bkd kkd
      obtain ⟨kvm, edm, _⟩ := hM.ex
      simp_all only []
      refine ⟨x, b1, k1, d, t', t, us, rfl, FT, gt, hM.same sT, gm, Ne.symm (nb' _ _ edm), Ne.symm (nk' _ _ edm), fun t2 H4 b4 F4 al4 => ?_⟩
      have s4 : Same H H4 := fun a oo e => b4 _ _ (Ne.symm (nb' _ _ e)) (sT _ _ e)
      refine q x b1 k1 t2 us H4 s4 nI.no b0 k0 F4 al4 fun m => ?_
      rcases hus m with ⟨h1, h2⟩ | ⟨_, h⟩
      · exact .inl ⟨h2, look_none.mpr h1⟩
      · exact .inr h
end
abbrev s__law_is_model : Stmt := top 43
abbrev s__law_is_so : Stmt := top 44
theorem eqL_strs (zs : List Str) : eqL (zs.map V.str) (zs.map V.str) = true := eqL_self flat_strs fun x hx b e => by
  obtain ⟨y, _, rfl⟩ := List.mem_map.mp hx
  cases e
theorem flat_ints {zs : List Int} : (zs.map V.int).all flatV = true := by simp [flatV]
theorem eqL_ints (zs : List Int) : eqL (zs.map V.int) (zs.map V.int) = true := eqL_self flat_ints fun x hx b e => by
  obtain ⟨y, _, rfl⟩ := List.mem_map.mp hx
  cases e
section
variable {P : Program} {w : World} {K : PySem.W.Frag} {mg : Str → Option Value} {base : Heap} {A : ClsA}
structure IMInv (H : Hp) (p d : Addr) (i : Nat) (σ : L2.St) (H' : Hp) : Prop where
  ex : ∃ t1 t2, σ = [some (V.ref p), some (.ref d), t1, t2]
  same : Same H H'
structure IMc (H : Hp) (p : Addr) (n : Str) (l : List Int) (i : Nat) (τ : L2.St) (ys : List V) (H' : Hp) : Prop where
  ex : ∃ t, τ = [t, some (V.ref p), some (.str n)]
  ys : ys = (l.take i).map V.int
  same : Same H H'
  le : i ≤ 60
def spIsM (A : ClsA) : Sp := fun vs H Q _ => ∃ (p b k d : Addr) (t u : Tab) (ks : List (Str × Tab)), vs = [.ref p, .ref d] ∧ FilesR A H p b k t ks ∧ MdAt H d u ∧ GoodM u ∧ Alike t u ∧ ∀ H', Same H H' → Q (.bl true) H'
theorem sc__law_is_model : FnScope ["_law_files_here", "_law_model_here", "_law_name_here", "_law_row"] ["_law_files_here", "_law_model_here"] (defScope s__law_is_model) := ⟨rfl, rfl, rfl, by decide +kernel, rfl, by decide +kernel, by decide +kernel⟩
theorem lc__law_is_model_0 : lcStat { kind := .function, names := [(Str.ofString ".0", .local), (Str.ofString "_law_place", .local), (Str.ofString "_law_files_here", .free), (Str.ofString "_law_name_here", .free)], isGenerator := false, isCoroutine := false, more := [] } (defScope s__law_is_model).names ["_law_files_here", "_law_model_here", "_law_name_here", "_law_row"] ["_law_place", "_law_files_here", "_law_name_here"] [none, some 0, some 2] = true := by decide +kernel
theorem lcn__law_is_model_0 : (["_law_place", "_law_files_here", "_law_name_here"] : List Str).Nodup := by decide +kernel
theorem ok__law_is_model {f : Addr} {fd : FuncData} (F : Fun K "_law_is_model" "_law_is_model" s__law_is_model f fd) (T : Txt K mg A) (M_Files_names : GM P w K mg base true 1 A.Files "names" ["self"] (spNames A)) (M_Files_many : GM P w K mg base true 1 A.Files "many" ["self", "file"] (spMany A)) (M_Files_birth : GM P w K mg base true 4 A.Files "birth" ["self", "file", "place"] (spBirth A)) : FnOk P w K mg base CX0 true 5 f fd ["_law_files_here", "_law_model_here"] (spIsM A) := by
  refine F.ok sc__law_is_model (fun vs H Q E h => ?_) (fun cdv Ar outer s H vs Q E hr h => ?_)
  · obtain ⟨p, b, k, d, t, u, ks, rfl, _⟩ := h; rfl
  · obtain ⟨p, b, k, d, t, u, ks, rfl, hF, hM, gu, al, q⟩ := h
    have hu : _ < cLine := Nat.lt_of_succ_lt (hu_of hr)
    refine ⟨_, (W.h (w_pss_cons (w_ps_if (w_pt_cmpR (op_neU hu) (w_pe_m0 (w_pv 0) T.cl_Files M_Files_names hr) (w_pe_callBp (call_sortD rfl) rfl T.n_sorted boot_sorted (w_pa_p (w_pv 1) w_pa_nil)) (nomark _))
      (w_pss_one (w_ps_ret w_pe_bl))
      w_pss_nil)
      (w_pss_cons (w_ps_fz (w_ps_for PassesOwn.never (fun _ => rfl) (w_pi_dict (w_pv 1)) (w_pg_name (i := 2) sc__law_is_model.nd rfl (Or.inr rfl))
      (w_pss_cons (w_ps_set (i := 3) sc__law_is_model.nd rfl (Or.inl rfl) (w_pe_ix (ix_dict (hu_of hr)) (w_pv 1) (w_pv 2) (fun _ _ => rfl)))
      (w_pss_cons (w_ps_if (w_pt_cmpR (op_neU hu) (w_pe_m (w_pv 0) T.cl_Files M_Files_many hr (w_pa_p (w_pv 2) w_pa_nil)) (w_pe_callBp call_lenU rfl T.n_len PySem.boot_len (w_pa_p (w_pv 3) w_pa_nil)) (nomark _))
      (w_pss_one (w_ps_ret w_pe_bl))
      w_pss_nil)
      (w_pss_one (w_ps_if (w_pt_cmpR (op_neU hu) (w_pe_lc (fun _ => rfl) (LcOk.of lc__law_is_model_0) (w_pi_range1p rfl T.n_range (w_pa_p (w_pe_callBp call_lenU rfl T.n_len PySem.boot_len (w_pa_p (w_pv 3) w_pa_nil)) w_pa_nil)) (fun _ _ _ _ _ => (w_pg_name (i := 0) lcn__law_is_model_0 rfl (Or.inl rfl))) (fun _ _ _ _ _ => w_pts_nil) (fun _ _ _ _ _ => (w_pe_m (w_pv 1) T.cl_Files M_Files_birth hr (w_pa_p (w_pv 2) (w_pa_p (w_pv 0) w_pa_nil))))) (w_pv 3) (nomark _))
      (w_pss_one (w_ps_ret w_pe_bl))
      w_pss_nil))))))
      (w_pss_one (w_ps_ret w_pe_bl))))), ?_⟩
    obtain ⟨dx, e1⟩ := hF.ob
    obtain ⟨kvs, ed, dc⟩ := hM.ex
    have gul := gu.len
    have gt := GoodM.alike gu al hF.births.nd
    have gtl := gt.len
    simp_all only [e1, ff_names]
    refine ⟨p, b, k, t, ks, rfl, hF, by omega, fun nl H1 n1 => ⟨kvs, .inl (n1.same _ _ ed), by rw [dc.length]; omega, fun ml H2 n2 => ?_⟩⟩
    rw [dc.names, ← alike_sort al gt.nd gu.nd] at n2
    have nl2 := n2.same _ _ n1.at_
    simp_all only [nl2, n2.at_]
    refine ⟨flat_strs, flat_strs, ?_⟩
    rw [eqL_strs]
    simp_all only []
    have s2 : Same H H2 := n1.same.trans n2.same
    have ed2 := s2 _ _ ed
    refine ⟨d, sk kvs, ed2, fun o => ⟨o, sk kvs, upd_same, ForJ.dct (IMInv (upd H2 d (.frz o (.dK (sk kvs)))) p d) ⟨⟨_, _, rfl⟩, Same.refl _⟩ (fun i σ H _ I => I.same _ _ upd_same) ?_ ?_⟩⟩
    · rintro i pr σ H3 hpr ⟨⟨t1, t2, rfl⟩, sm⟩
      have F3 := (hF.same s2).fs ((FS.freeze ed2).trans (FS.of sm))
      have hd3 := sm _ _ (upd_same (H := H2) (a := d))
      obtain ⟨q0, hq0, rfl⟩ := sk_at hpr
      obtain ⟨l, hul, _⟩ := dc.at hq0
      generalize q0.1 = n at hul
      have hlu : look u n = some l := look_of_nd gu.nd (List.mem_of_getElem? hul)
      have hnn : (names u)[i]? = some n := by unfold names; rw [List.getElem?_map, hul]; rfl
      obtain ⟨l', hl', el', l1, l2, lx⟩ := gu.lk (List.mem_of_getElem? hnn)
      rw [hlu] at hl'
      cases hl'
      have hlt : look t n = some l := by rw [al n]; exact hlu
      obtain ⟨v, l', d1, d2, pl, ev, hpl⟩ : ∃ v l', look kvs n = some v ∧ look u n = some l' ∧ MdR H v l' := by
        rcases dc.look n with z | ⟨_, d2⟩
        · exact z
        · rw [hlu] at d2; cases d2
      rw [hlu] at d2
      cases d2
      subst ev
      have hpl3 : H3 pl = some (.lst (l.map V.int)) := ((FS.freeze ed2).trans (FS.of sm)).oth _ _ (fun _ => nofun) (fun _ _ => nofun) (s2 _ _ hpl)
      obtain ⟨dx3, e3⟩ := F3.ob
      show gName 2 (V.str n) _ H3 _
      simp_all only [e3, ff_many]
      refine ⟨_, .inr ⟨o, hd3⟩, .ref pl, by rw [valV_sk]; exact d1, ?_⟩
      simp_all only [e3, ff_many]
      refine ⟨p, b, k, t, ks, n, rfl, F3, fun H4 s4 => ⟨_, .inl (s4 _ _ hpl3), ?_⟩⟩
      have ell : lk t n = l := by unfold lk; rw [hlt]; rfl
      rw [ell, List.length_map]
      simp_all only [decide_true]
      refine ⟨_, .inl (s4 _ _ hpl3), ?_⟩
      rw [List.length_map]
      refine ⟨by omega, by omega, CompJ.rng (IMc H4 p n l) (fun j τ ys H6 I => ?_) ⟨⟨_, rfl⟩, by simp, Same.refl _, by omega⟩ ?_ ?_⟩
      · rw [I.ys, List.length_map, List.length_take]
        exact big5' (by have := I.le; omega)
      · intro N j τ ys H6 hj I hN
        obtain ⟨tt, rfl⟩ := I.ex
        have F6 := (F3.same s4).same I.same
        obtain ⟨dx6, e6⟩ := F6.ob
        have hj' : j < l.length := by omega
        simp_all only [e6, ff_birth]
        refine ⟨p, b, k, t, ks, n, l, _, rfl, F6, hlt, by omega, by omega, fun H7 s7 => ?_⟩
        have ej : (0 + (j : Int)).toNat = j := by omega
        have eg : l.getD j 0 = l[j] := by rw [List.getD_eq_getElem?_getD, List.getElem?_eq_getElem hj']; rfl
        rw [ej, eg]
        refine hN _ _ _ ⟨⟨_, rfl⟩, ?_, I.same.trans s7, by omega⟩
        rw [I.ys, List.take_add_one, List.getElem?_eq_getElem hj', List.map_append]
        rfl
      · intro τ ys H6 I D H7 n7
        have s37 : Same H3 H7 := (s4.trans I.same).trans n7.same
        have e7 := s37 _ _ hpl3
        have ey : ys = l.map V.int := by rw [I.ys, List.take_of_length_le (by omega)]
        rw [ey] at n7
        simp_all only [n7.at_, e7]
        refine ⟨flat_ints, flat_ints, ?_⟩
        rw [eqL_ints]
        simp_all only []
        exact ⟨⟨_, _, rfl⟩, sm.trans s37⟩
    · rintro σ H3 ⟨⟨t1, t2, rfl⟩, sm⟩
      have hd3 := sm _ _ (upd_same (H := H2) (a := d))
      refine ⟨o, hd3, ?_⟩
      simp_all only []
      refine q _ fun a oo e => ?_
      by_cases z : a = d
      · subst z; rw [upd_same, ← e, ed]
      · rw [upd_ne z]; exact sm _ _ (by rw [upd_ne z]; exact s2 _ _ e)
structure ISc (H : Hp) (p kd : Addr) (i : Nat) (τ : L2.St) (ys : List V) (H' : Hp) : Prop where
  ex : ∃ t, τ = [t, some (V.ref p), some (.ref kd)]
  ys : ys = (List.replicate i true).map V.bl
  same : Same H H'
  le : i ≤ 3
def spIsSo (A : ClsA) : Sp := fun vs H Q _ => ∃ (p b k d kd : Addr) (t u : Tab) (us ks : List (Str × Tab)), vs = [.ref p, .ref d, .ref kd] ∧ FilesR A H p b k t us ∧ MdAt H d u ∧ GoodM u ∧ Alike t u ∧ MkAt H kd ks ∧ GoodK ks ∧ AlikeK us ks ∧ ∀ H', Same H H' → Q (.bl true) H'
theorem sc__law_is_so : FnScope ["_law_files_here", "_law_model_here", "_law_kept"] ["_law_files_here", "_law_model_here", "_law_kept"] (defScope s__law_is_so) := ⟨rfl, rfl, rfl, by decide +kernel, rfl, by decide +kernel, by decide +kernel⟩
theorem lc__law_is_so_0 : lcStat { kind := .function, names := [(Str.ofString ".0", .local), (Str.ofString "_law_name_here", .local), (Str.ofString "_law_is_model", .globalImplicit), (Str.ofString "_law_files_here", .free), (Str.ofString "_law_kept", .free)], isGenerator := false, isCoroutine := false, more := [] } (defScope s__law_is_so).names ["_law_files_here", "_law_model_here", "_law_kept"] ["_law_name_here", "_law_files_here", "_law_kept"] [none, some 0, some 2] = true := by decide +kernel
theorem lcn__law_is_so_0 : (["_law_name_here", "_law_files_here", "_law_kept"] : List Str).Nodup := by decide +kernel
theorem ok__law_is_so {f : Addr} {fd : FuncData} (F : Fun K "_law_is_so" "_law_is_so" s__law_is_so f fd) (T : Txt K mg A) (G__law_is_model : GF P w K mg base true 5 "_law_is_model" ["_law_files_here", "_law_model_here"] (spIsM A)) (M_Files_held : GM P w K mg base true 1 A.Files "held" ["self"] (spHeld A)) (M_Files_of_held : GM P w K mg base true 4 A.Files "of_held" ["self", "name"] (spOfHeld A)) : FnOk P w K mg base CX0 true 6 f fd ["_law_files_here", "_law_model_here", "_law_kept"] (spIsSo A) := by
  refine F.ok sc__law_is_so (fun vs H Q E h => ?_) (fun cdv Ar outer s H vs Q E hr h => ?_)
  · obtain ⟨p, b, k, d, kd, t, u, us, ks, rfl, _⟩ := h; rfl
  · obtain ⟨p, b, k, d, kd, t, u, us, ks, rfl, hF, hM, gu, al, hK, gk, alk, q⟩ := h
    have hu : _ < cLine := Nat.lt_of_succ_lt (hu_of hr)
    refine ⟨_, (W.h (w_pss_cons (w_ps_if (w_pt (w_pw_or (w_pt_not (w_pt_tru (w_pe_callBp call_isi rfl T.n_isinstance boot_isinstance (w_pa_p (w_pv 0) (w_pa_p (w_pe_gv rfl T.c_Files) w_pa_nil))))) (w_pw_or (w_pt_not (w_pt_tru (w_pe_g G__law_is_model hr rfl (w_pa_p (w_pv 0) (w_pa_p (w_pv 1) w_pa_nil))))) (w_pw_or1 (w_pt_cmpR (op_neU hu) (w_pe_m0 (w_pv 0) T.cl_Files M_Files_held hr) (w_pe_callBp (call_sortD rfl) rfl T.n_sorted boot_sorted (w_pa_p (w_pv 2) w_pa_nil)) (nomark _))))))
      (w_pss_one (w_ps_ret w_pe_bl))
      w_pss_nil)
      (w_pss_one (w_ps_ret (w_pe_callBp (call_allU rfl) rfl T.n_all boot_all (w_pa_p (w_pe_fz (w_pe_lc (fun _ => rfl) (LcOk.of lc__law_is_so_0) (w_pi_dict (w_pv 2)) (fun _ _ _ _ _ => (w_pg_name (i := 0) lcn__law_is_so_0 rfl (Or.inl rfl))) (fun _ _ _ _ _ => w_pts_nil) (fun _ _ _ _ _ => (w_pe_g G__law_is_model hr rfl (w_pa_p (w_pe_m (w_pv 1) T.cl_Files M_Files_of_held hr (w_pa_p (w_pv 0) w_pa_nil)) (w_pa_p (w_pe_ix (ix_dict (hu_of hr)) (w_pv 2) (w_pv 0) (fun _ _ => rfl)) w_pa_nil)))))) w_pa_nil)))))), ?_⟩
    obtain ⟨dx, e1⟩ := hF.ob
    obtain ⟨kvs, ed, dc⟩ := hK.ex
    have gkl := gk.len
    simp_all only []
    refine ⟨_, _, _, _, _, rfl, rfl, T.isi_Files _ _ _ _ e1, T.kit_Files, ?_⟩
    simp_all only []
    refine ⟨p, b, k, d, t, u, us, rfl, hF, hM, gu, al, fun H1 s1 => ?_⟩
    have F1 := hF.same s1
    obtain ⟨dx1, e11⟩ := F1.ob
    simp_all only [e11, ff_held]
    have ndk := hF.ndk
    have lus := alikeK_len alk ndk gk.nd
    refine ⟨p, b, k, t, us, rfl, F1, by omega, fun hl H2 n2 => ⟨kvs, .inl (n2.same _ _ (s1 _ _ ed)), by rw [dc.length]; omega, fun ml H3 n3 => ?_⟩⟩
    rw [dc.names, ← sortS_eq (alikeK_perm alk ndk gk.nd)] at n3
    have nl3 := n3.same _ _ n2.at_
    simp_all only [nl3, n3.at_]
    refine ⟨flat_strs, flat_strs, ?_⟩
    rw [eqL_strs]
    simp_all only []
    have s3 : Same H H3 := (s1.trans n2.same).trans n3.same
    have ed3 := s3 _ _ ed
    refine ⟨kd, sk kvs, ed3, fun o => ⟨o, sk kvs, upd_same, CompJ.dct (ISc (upd H3 kd (.frz o (.dK (sk kvs)))) p kd) (fun j τ ys H6 I => ?_) (fun j τ ys H6 I => I.same _ _ upd_same) ⟨⟨_, rfl⟩, by simp, Same.refl _, by omega⟩ ?_ ?_⟩⟩
    · rw [I.ys, List.length_map, List.length_replicate]
      exact big5' (by have := I.le; omega)
    · intro N i pr τ ys H4 hpr I hN
      obtain ⟨tt, rfl⟩ := I.ex
      have F4 := (hF.same s3).fs ((FS.freeze ed3).trans (FS.of I.same))
      have hd4 := I.same _ _ (upd_same (H := H3) (a := kd))
      obtain ⟨q0, hq0, rfl⟩ := sk_at hpr
      obtain ⟨u', hul, _⟩ := dc.at hq0
      generalize q0.1 = n at hul
      have hil : i < ks.length := (List.getElem?_eq_some_iff.mp hul).1
      have hlu : look ks n = some u' := look_of_nd gk.nd (List.mem_of_getElem? hul)
      have gu' : GoodM u' := gk.gm _ (List.mem_of_getElem? hul)
      obtain ⟨v, u2, d1, d2, d', ev, ned, hMd⟩ : ∃ v u', look kvs n = some v ∧ look ks n = some u' ∧ ∃ d, v = .ref d ∧ d ≠ kd ∧ MdAt H d u' := by
        rcases dc.look n with z | ⟨_, d2⟩
        · exact z
        · rw [hlu] at d2; cases d2
      rw [hlu] at d2
      cases d2
      subst ev
      obtain ⟨x, hx, alx⟩ : ∃ x, look us n = some x ∧ Alike x u' := by
        rcases alk n with ⟨_, h⟩ | ⟨x, y, h1, h2, h3, _⟩
        · rw [hlu] at h; cases h
        · rw [hlu] at h2; cases h2; exact ⟨x, h1, h3⟩
      obtain ⟨dx4, e4⟩ := F4.ob
      have M4 : MdAt H4 d' u' := ((hMd.same s3).butD (But.upd (b := kd)) ed3 ned).same I.same
      show gName 0 (V.str n) _ H4 _
      simp_all only [e4, ff_of_held]
      refine ⟨p, b, k, t, us, n, x, rfl, F4, hx, fun q' b' k' H5 s5 _ _ _ hB => ⟨_, .inr ⟨o, s5 _ _ hd4⟩, .ref d', by rw [valV_sk]; exact d1, q', b', k', d', x, u', [], rfl, hB.files, M4.same s5, gu', alx, fun H6 s6 => ?_⟩⟩
      refine hN _ _ _ ⟨⟨_, rfl⟩, ?_, (I.same.trans s5).trans s6, by omega⟩
      rw [I.ys, List.replicate_succ', List.map_append]; rfl
    · intro τ ys H4 I D H5 n5
      have hd5 := n5.same _ _ (I.same _ _ (upd_same (H := H3) (a := kd)))
      have Dk : D ≠ kd := fun z => by have := n5.no; rw [z, I.same _ _ (upd_same (H := H3) (a := kd))] at this; cases this
      refine ⟨o, hd5, ?_⟩
      show uAll [V.ref D] _ Q
      rw [uAll_r]
      refine ⟨_, by rw [upd_ne Dk, n5.at_, I.ys], ?_⟩
      have et : (List.replicate (sk kvs).length true).all id = true := by simp
      rw [et]
      refine q _ fun a oo e => ?_
      by_cases z : a = kd
      · subst z; rw [upd_same, ← e, ed]
      · rw [upd_ne z]; exact n5.same _ _ (I.same _ _ (by rw [upd_ne z]; exact s3 _ _ e))
end
abbrev s__law_right : Stmt := top 45
abbrev s_law : Stmt := top 46
section
variable {P : Program} {w : World} {K : PySem.W.Frag} {mg : Str → Option Value} {base : Heap} {A : ClsA}
structure FrInv (A : ClsA) (H : Hp) (d kd p q b k nl : Addr) (due : Str) (t : Tab) (us : List (Str × Tab)) (zs : List Str) (i : Nat) (σ : L2.St) (H' : Hp) : Prop where
  ex : ∃ t1, σ = [some (V.ref d), some (.ref kd), some (.ref p), some (.str due), some (.ref q), t1]
  same : Same H H'
  hnl : H' nl = some (.lst (zs.map V.str))
  fl : ∃ us', FilesAt A H' q b k t us' ∧ ∀ m, look us' m = if m ∈ zs.take i then none else look us m
def spRight (A : ClsA) : Sp := fun vs H Q _ => ∃ (d kd : Addr) (t : Tab) (ks : List (Str × Tab)), vs = [.ref d, .ref kd] ∧ MdAt H d t ∧ GoodM t ∧ MkAt H kd ks ∧ GoodK ks ∧ ∀ H', Same H H' → Q (.bl true) H'
theorem sc__law_right : FnScope ["_law_model_here", "_law_kept", "_law_files_here", "_law_due", "_law_told", "_law_name_here"] ["_law_model_here", "_law_kept"] (defScope s__law_right) := ⟨rfl, rfl, rfl, by decide +kernel, rfl, by decide +kernel, by decide +kernel⟩
theorem ok__law_right {f : Addr} {fd : FuncData} (F : Fun K "_law_right" "_law_right" s__law_right f fd) (T : Txt K mg A) (G__law_files : GF P w K mg base true 6 "_law_files" ["_law_model_here", "_law_kept"] (spFiles A)) (G__law_text : GF P w K mg base true 2 "_law_text" ["_law_model_here", "_law_kept"] spLT) (G_files_text : GF P w K mg base true 6 "files_text" ["files"] (spFT A)) (G__law_is_so : GF P w K mg base true 6 "_law_is_so" ["_law_files_here", "_law_model_here", "_law_kept"] (spIsSo A)) (G_read_files : GF P w K mg base true 7 "read_files" ["text"] (spRead A)) (M_Files_put : GM P w K mg base true 4 A.Files "put" ["self", "file", "place", "birth"] (spPut A)) (M_Files_held : GM P w K mg base true 1 A.Files "held" ["self"] (spHeld A)) (M_Files_free : GM P w K mg base true 3 A.Files "free" ["self", "name"] (spFree A)) : FnOk P w K mg base CX0 true 8 f fd ["_law_model_here", "_law_kept"] (spRight A) := by
  refine F.ok sc__law_right (fun vs H Q E h => ?_) (fun cdv Ar outer s H vs Q E hr h => ?_)
  · obtain ⟨d, kd, t, ks, rfl, _⟩ := h; rfl
  · obtain ⟨d, kd, t, ks, rfl, hM, gm, hK, gk, q⟩ := h
    have hu : _ < cLine := Nat.lt_of_succ_lt (hu_of hr)
    refine ⟨_, (W.h (w_pss_cons (w_ps_set (i := 2) sc__law_right.nd rfl (Or.inl rfl) (w_pe_g G__law_files hr rfl (w_pa_p (w_pv 0) (w_pa_p (w_pv 1) w_pa_nil))))
      (w_pss_cons (w_ps_set (i := 3) sc__law_right.nd rfl (Or.inl rfl) (w_pe_g G__law_text hr rfl (w_pa_p (w_pv 0) (w_pa_p (w_pv 1) w_pa_nil))))
      (w_pss_cons (w_ps_if (w_pt (w_pw_or (w_pt_cmpR (op_neU hu) (w_pe_g G_files_text hr rfl (w_pa_p (w_pv 2) w_pa_nil)) (w_pv 3) (nomark _)) (w_pw_or1 (w_pt_not (w_pt_tru (w_pe_g G__law_is_so hr rfl (w_pa_p (w_pv 2) (w_pa_p (w_pv 0) (w_pa_p (w_pv 1) w_pa_nil)))))))))
      (w_pss_one (w_ps_ret w_pe_bl))
      w_pss_nil)
      (w_pss_cons (w_ps_set (i := 4) sc__law_right.nd rfl (Or.inl rfl) (w_pe_g G_read_files hr rfl (w_pa_p (w_pv 3) w_pa_nil)))
      (w_pss_cons (w_ps_if (w_pt_not (w_pt_tru (w_pe_g G__law_is_so hr rfl (w_pa_p (w_pv 4) (w_pa_p (w_pv 0) (w_pa_p (w_pv 1) w_pa_nil))))))
      (w_pss_one (w_ps_ret w_pe_bl))
      w_pss_nil)
      (w_pss_cons (w_ps_expr (w_pe_m (w_pv 4) T.cl_Files M_Files_put hr (w_pa_p w_pe_str (w_pa_p w_pe_int (w_pa_p w_pe_int w_pa_nil)))))
      (w_pss_cons (w_ps_for PassesOwn.never (fun _ => rfl) (w_pi_list (w_pe_m0 (w_pv 4) T.cl_Files M_Files_held hr)) (w_pg_name (i := 5) sc__law_right.nd rfl (Or.inl rfl))
      (w_pss_one (w_ps_expr (w_pe_m (w_pv 4) T.cl_Files M_Files_free hr (w_pa_p (w_pv 5) w_pa_nil)))))
      (w_pss_one (w_ps_ret (w_pe_and (w_pe_g G__law_is_so hr rfl (w_pa_p (w_pe_g G_read_files hr rfl (w_pa_p (w_pv 3) w_pa_nil)) (w_pa_p (w_pv 0) (w_pa_p (w_pv 1) w_pa_nil)))) (w_pe_one (w_pe_cmpR (op_eqU hu) (w_pe_g G_files_text hr rfl (w_pa_p (w_pv 2) w_pa_nil)) (w_pv 3) (nomark _)))))))))))))), ?_⟩
    simp_all only []
    refine ⟨d, kd, t, ks, rfl, hM, gm, hK, gk, fun p b k t' us H1 s1 _ _ _ F1 al alk => ⟨d, kd, t, ks, rfl, hM.same s1, gm, hK.same s1, gk, fun H2 s2 => ?_⟩⟩
    have gt := GoodM.alike gm al F1.births.nd
    have gus := GoodK.alike gk alk F1.ndk
    have et := alike_text gm gk al alk F1.births.nd F1.ndk
    simp_all only []
    refine ⟨p, b, k, t', us, rfl, (F1.same s2).r, gt, gus, fun H3 s3 => ?_⟩
    rw [et]
    simp_all only [decide_true]
    have s03 := (s1.trans s2).trans s3
    have F3 := (F1.same s2).same s3
    refine ⟨p, b, k, d, kd, t', t, us, ks, rfl, F3.r, hM.same s03, gm, al, hK.same s03, gk, alk, fun H4 s4 => ?_⟩
    simp_all only []
    have s04 := s03.trans s4
    have F4 := F3.same s4
    refine ⟨t, ks, rfl, gm, gk, fun q5 b5 k5 u5 us5 H5 s5 q50 b50 k50 F5 al5 alk5 => ?_⟩
    have s05 := s04.trans s5
    refine ⟨q5, b5, k5, d, kd, u5, t, us5, ks, rfl, F5.r, hM.same s05, gm, al5, hK.same s05, gk, alk5, fun H6 s6 => ?_⟩
    have F6 := F5.same s6
    have s46 : Same H4 H6 := s5.trans s6
    obtain ⟨dx6, e6⟩ := F6.ob
    have g5 := GoodM.alike gm al5 F5.births.nd
    have g5l := g5.len
    have gk5 := GoodK.alike gk alk5 F5.ndk
    have gk5l := gk5.len
    have l5 : (lk u5 "new").length ≤ 60 := by
      unfold lk
      cases e : look u5 "new" with
      | none => simp
      | some y => exact (g5.ls _ (look_mem e)).2.1
    simp_all only [e6, ff_put]
    refine ⟨q5, b5, k5, u5, us5, "new", 0, 3, rfl, F6, by omega, by omega, by omega, by omega, fun H7 b7 F7 => ?_⟩
    have s47 : Same H4 H7 := fun a o e => b7 _ _ (fun z => by rw [z, b50] at e; cases e) (s46 _ _ e)
    obtain ⟨dx7, e7⟩ := F7.ob
    simp_all only [e7, ff_held]
    refine ⟨q5, b5, k5, _, us5, rfl, F7.r, by omega, fun nl H8 n8 => ?_⟩
    have sl : (sortS (names us5)).length = us5.length := by rw [(sortS_spec _).1.length_eq]; simp [names]
    have ndz : (sortS (names us5)).Nodup := (sortS_spec _).1.nodup_iff.mpr F5.ndk
    simp_all only []
    refine ⟨⟨_, SqL.of n8.at_⟩, ForJ.lst (xs := (sortS (names us5)).map V.str) (FrInv A H4 d kd p q5 b5 k5 nl (textF t ks) _ us5 (sortS (names us5))) ⟨⟨_, rfl⟩, s47.trans n8.same, n8.at_, us5, F7.same n8.same, by simp⟩ (fun i σ H' _ I => SqL.of I.hnl) ?_ ?_⟩
    · rintro i x σ H' hx ⟨⟨t1, rfl⟩, sm, hnl, us', hF', hus'⟩
      rw [List.getElem?_map] at hx
      obtain ⟨n, hn, rfl⟩ := Option.map_eq_some_iff.mp hx
      obtain ⟨y, hy, _⟩ := gk5.lk ((sortS_spec _).1.mem_iff.mp (List.mem_of_getElem? hn))
      have hnt : look us' n = some y := by rw [hus', if_neg (not_mem_take ndz hn), hy]
      obtain ⟨dx9, e9⟩ := hF'.ob
      obtain ⟨kk9, ek9, _⟩ := hF'.kept
      simp_all only [e9, ff_free]
      have nlk : nl ≠ k5 := fun z => by rw [z, ek9] at hnl; cases hnl
      refine ⟨q5, b5, k5, _, us', n, rfl, hF', by rw [hnt]; rfl, fun H9 b9 F9 => ⟨⟨_, rfl⟩, fun a o e => b9 _ _ (fun z => by rw [z, k50] at e; cases e) (sm _ _ e), b9 _ _ nlk hnl, _, F9, fun m => ?_⟩⟩
      rw [look_dropA]
      by_cases hm : m = n
      · rw [if_pos hm, if_pos ((mem_take_succ hn).mpr (.inr hm))]
      · rw [if_neg hm, hus']
        have : m ∈ (sortS (names us5)).take (i + 1) ↔ m ∈ (sortS (names us5)).take i := by rw [mem_take_succ hn]; simp [hm]
        simp only [this]
    · rintro σ H' ⟨⟨t1, rfl⟩, sm, hnl, us', hF', hus'⟩
      have s0 := s04.trans sm
      simp_all only []
      refine ⟨t, ks, rfl, gm, gk, fun qa ba ka ua usa Ha sa _ _ _ Fa ala alka => ?_⟩
      have sA := s0.trans sa
      refine ⟨qa, ba, ka, d, kd, ua, t, usa, ks, rfl, Fa.r, hM.same sA, gm, ala, hK.same sA, gk, alka, fun Hb sb => ?_⟩
      simp_all only []
      refine ⟨p, b, k, t', us, rfl, (((F4.same sm).same sa).same sb).r, gt, gus, fun Hc sc => ?_⟩
      rw [et]
      simp_all only [decide_true]
      exact q Hc ((sA.trans sb).trans sc)
structure Pair (H : Hp) (d kd : Addr) : Prop where
  ex : ∃ (t : Tab) (ks : List (Str × Tab)), MdAt H d t ∧ GoodM t ∧ MkAt H kd ks ∧ GoodK ks
theorem Pair.same {H H' : Hp} {d kd : Addr} (h : Pair H d kd) (s : Same H H') : Pair H' d kd := let ⟨t, ks, a, b, c, e⟩ := h.ex; ⟨⟨t, ks, a.same s, b, c.same s, e⟩⟩
structure LawInv (H : Hp) (a : Addr) (i : Nat) (σ : L2.St) (H' : Hp) : Prop where
  ex : ∃ te t1 t2 t3, σ = [some (V.ref a), some te, t1, t2, t3] ∧ (te = .non ∨ ∃ pe d kd, te = .ref pe ∧ H' pe = some (.tup [.ref d, .ref kd]) ∧ Pair H' d kd)
  same : Same H H'
def spLaw (K : PySem.W.Frag) : Sp := fun vs H Q _ => ∃ (a : Addr) (ns : List Int), vs = [.ref a] ∧ SqL K H a (ns.map V.int) ∧ ns.length ≤ 63 ∧ ∀ H', Q (.bl true) H'
theorem sc_law : FnScope ["_law_script", "_law_elder", "_law_k", "_law_model_here", "_law_kept"] ["_law_script"] (defScope s_law) := ⟨rfl, rfl, rfl, by decide +kernel, rfl, by decide +kernel, by decide +kernel⟩
theorem ok_law {f : Addr} {fd : FuncData} (F : Fun K "law" "law" s_law f fd) (T : Txt K mg A) (G__law_pot : GF P w K mg base true 2 "_law_pot" ["_law_script", "_law_k"] (spPot K)) (G__law_models : GF P w K mg base true 6 "_law_models" ["_law_pot_here"] spModels) (G__law_right : GF P w K mg base true 8 "_law_right" ["_law_model_here", "_law_kept"] (spRight A)) : FnOk P w K mg base CX0 true 9 f fd ["_law_script"] (spLaw K) := by
  refine F.ok sc_law (fun vs H Q E h => ?_) (fun cdv Ar outer s H vs Q E hr h => ?_)
  · obtain ⟨a, ns, rfl, _⟩ := h; rfl
  · obtain ⟨a, ns, rfl, hS, hl, q⟩ := h
    have hu : _ < cLine := Nat.lt_of_succ_lt (hu_of hr)
    refine ⟨_, (W.h (w_pss_cons (w_ps_set (i := 1) sc_law.nd rfl (Or.inl rfl) w_pe_non)
      (w_pss_cons (w_ps_for PassesOwn.never (fun _ => rfl) (w_pi_range1p rfl T.n_range (w_pa_p (w_pe_callBp (call_maxU rfl) rfl T.n_max boot_max (w_pa_p w_pe_int (w_pa_p (w_pe_callBp (call_minU rfl) rfl T.n_min boot_min (w_pa_p (w_pe_callBp call_len_seq rfl T.n_len PySem.boot_len (w_pa_p (w_pv 0) w_pa_nil)) (w_pa_p w_pe_int w_pa_nil))) w_pa_nil))) w_pa_nil)) (w_pg_name (i := 2) sc_law.nd rfl (Or.inl rfl))
      (w_pss_cons (w_ps_asg (w_pe_g G__law_models hr rfl (w_pa_p (w_pe_g G__law_pot hr rfl (w_pa_p (w_pv 0) (w_pa_p (w_pv 2) w_pa_nil))) w_pa_nil)) (w_pg_tupA (n := 2) (w_pgs_cons (w_pg_name (i := 3) sc_law.nd rfl (Or.inl rfl)) (w_pgs_cons (w_pg_name (i := 4) sc_law.nd rfl (Or.inl rfl)) w_pgs_nil))))
      (w_pss_cons (w_ps_if (w_pt_not (w_pt_tru (w_pe_g G__law_right hr rfl (w_pa_p (w_pv 3) (w_pa_p (w_pv 4) w_pa_nil)))))
      (w_pss_one (w_ps_ret w_pe_bl))
      w_pss_nil)
      (w_pss_cons (w_ps_if (w_pt (w_pw_and (w_pt_cmpR op_isnU (w_pv 1) w_pe_non (nomark _)) (w_pw_and1 (w_pt_not (w_pt_tru (w_pe_g G__law_right hr rfl (w_pa_p (w_pe_ix ix_U (w_pv 1) w_pe_int (fun _ _ => rfl)) (w_pa_p (w_pe_ix ix_U (w_pv 1) w_pe_int (fun _ _ => rfl)) w_pa_nil))))))))
      (w_pss_one (w_ps_ret w_pe_bl))
      w_pss_nil)
      (w_pss_one (w_ps_set (i := 1) sc_law.nd rfl (Or.inl rfl) (w_pe_tupA (w_pa_p (w_pv 3) (w_pa_p (w_pv 4) w_pa_nil)))))))))
      (w_pss_one (w_ps_ret w_pe_bl))))), ?_⟩
    simp_all only []
    refine ⟨_, .inl hS, ?_⟩
    rw [List.length_map]
    refine ⟨by split <;> (try split) <;> omega, by split <;> (try split) <;> omega, ForJ.rng (LawInv H a) ⟨⟨_, _, _, _, rfl, .inl rfl⟩, Same.refl _⟩ ?_ ?_⟩
    · rintro i σ H' hi ⟨⟨te, t1, t2, t3, rfl, hte⟩, sm⟩
      simp_all only []
      refine ⟨a, ns, _, rfl, sm.seq hS, by omega, fun po H2 s2 po0 hP => ⟨po, rfl, hP, fun p d k t ks H3 b3 hp ⟨kvs, ed, dc⟩ gm ⟨kvk, ek, dk⟩ gk => ?_⟩⟩
      have s3 : Same H' H3 := ((But.of s2).trans b3).gone po0
      have P3 : Pair H3 d k := ⟨⟨t, ks, ⟨⟨kvs, ed, dc.imp fun v x ⟨p, e, hp, _⟩ => ⟨p, e, hp⟩⟩⟩, gm, ⟨⟨kvk, ek, dk.imp fun v x ⟨d, kv, e, _, n, ed, dc⟩ => ⟨d, e, n, ⟨⟨kv, ed, dc.imp fun v x ⟨p, e, hp, _⟩ => ⟨p, e, hp⟩⟩⟩⟩⟩⟩, gk⟩⟩
      refine ⟨p, _, rfl, SqT.of hp, rfl, ?_⟩
      simp_all only []
      obtain ⟨t, ks, c1, c2, c3, c4⟩ := P3.ex
      refine ⟨d, k, t, ks, rfl, c1, c2, c3, c4, fun H4 s4 => ?_⟩
      simp_all only []
      have s04 := s3.trans s4
      have P4 := P3.same s4
      have fin : ∀ H5, Same H4 H5 → 2 ≤ sizeLine ∧ ∀ (p : Addr) (H2 : Hp), New H5 p (HO.tup [V.ref d, V.ref k]) H2 → LawInv H a (i + 1) [some (V.ref a), some (V.ref p), some (V.int (0 + (i : Int))), some (V.ref d), some (V.ref k)] H2 := fun H5 s5 => ⟨by decide, fun p6 H6 n6 => ⟨⟨_, _, _, _, rfl, .inr ⟨p6, d, k, rfl, n6.at_, (P4.same s5).same n6.same⟩⟩, ((sm.trans s04).trans s5).trans n6.same⟩⟩
      rcases hte with rfl | ⟨pe, de, ke, rfl, hpe, Pe⟩
      · simp_all only []
        exact fin H4 (Same.refl _)
      · have hpe4 := s04 _ _ hpe
        obtain ⟨t', ks', g1, g2, g3, g4⟩ := (Pe.same s04).ex
        simp_all only [hpe4, at2_0, at2_1]
        refine ⟨de, ke, t', ks', rfl, g1, g2, g3, g4, fun H5 s5 => ?_⟩
        simp_all only []
        exact fin H5 s5
    · rintro σ H' ⟨⟨te, t1, t2, t3, rfl, hte⟩, sm⟩
      simp_all only []
      exact q H'
end
theorem all_mk {l : PySem.W.OpenLaw} {w : World} {K : PySem.W.Frag} {h : Heap} {mg : Str → Option Value} {fa : Addr} {a_CleanError : Addr} {a_NoFile : Addr} {a_NoPlace : Addr} {a_HeldAlready : Addr} {a_NotHeld : Addr} {a_NoFiles : Addr} {a_NoPart : Addr} {a_Words : Addr} {a_Files : Addr} {f_is_whole : Addr} {od_is_whole an_is_whole : Option Addr} {sl_is_whole : Array (Option Value)} {oc_is_whole kV_is_whole dc_is_whole pm_is_whole cd_is_whole ct_is_whole : Value} {f_is_within : Addr} {od_is_within an_is_within : Option Addr} {sl_is_within : Array (Option Value)} {oc_is_within kV_is_within dc_is_within pm_is_within cd_is_within ct_is_within : Value} {f_is_made_of : Addr} {od_is_made_of an_is_made_of : Option Addr} {sl_is_made_of : Array (Option Value)} {oc_is_made_of kV_is_made_of dc_is_made_of pm_is_made_of cd_is_made_of ct_is_made_of : Value} {f_is_number_text : Addr} {od_is_number_text an_is_number_text : Option Addr} {sl_is_number_text : Array (Option Value)} {oc_is_number_text kV_is_number_text dc_is_number_text pm_is_number_text cd_is_number_text ct_is_number_text : Value} {f_is_name : Addr} {od_is_name an_is_name : Option Addr} {sl_is_name : Array (Option Value)} {oc_is_name kV_is_name dc_is_name pm_is_name cd_is_name ct_is_name : Value} {f_Words___init__ : Addr} {od_Words___init__ an_Words___init__ : Option Addr} {sl_Words___init__ : Array (Option Value)} {oc_Words___init__ kV_Words___init__ dc_Words___init__ pm_Words___init__ cd_Words___init__ ct_Words___init__ : Value} {f_Words_take_word : Addr} {od_Words_take_word an_Words_take_word : Option Addr} {sl_Words_take_word : Array (Option Value)} {oc_Words_take_word kV_Words_take_word dc_Words_take_word pm_Words_take_word cd_Words_take_word ct_Words_take_word : Value} {f_Words_take_number : Addr} {od_Words_take_number an_Words_take_number : Option Addr} {sl_Words_take_number : Array (Option Value)} {oc_Words_take_number kV_Words_take_number dc_Words_take_number pm_Words_take_number cd_Words_take_number ct_Words_take_number : Value} {f_Words_take_name : Addr} {od_Words_take_name an_Words_take_name : Option Addr} {sl_Words_take_name : Array (Option Value)} {oc_Words_take_name kV_Words_take_name dc_Words_take_name pm_Words_take_name cd_Words_take_name ct_Words_take_name : Value} {f_Words_is_at_end : Addr} {od_Words_is_at_end an_Words_is_at_end : Option Addr} {sl_Words_is_at_end : Array (Option Value)} {oc_Words_is_at_end kV_Words_is_at_end dc_Words_is_at_end pm_Words_is_at_end cd_Words_is_at_end ct_Words_is_at_end : Value} {f_Words_take_end : Addr} {od_Words_take_end an_Words_take_end : Option Addr} {sl_Words_take_end : Array (Option Value)} {oc_Words_take_end kV_Words_take_end dc_Words_take_end pm_Words_take_end cd_Words_take_end ct_Words_take_end : Value} {f_Files___init__ : Addr} {od_Files___init__ an_Files___init__ : Option Addr} {sl_Files___init__ : Array (Option Value)} {oc_Files___init__ kV_Files___init__ dc_Files___init__ pm_Files___init__ cd_Files___init__ ct_Files___init__ : Value} {f_Files_names : Addr} {od_Files_names an_Files_names : Option Addr} {sl_Files_names : Array (Option Value)} {oc_Files_names kV_Files_names dc_Files_names pm_Files_names cd_Files_names ct_Files_names : Value} {f_Files_many : Addr} {od_Files_many an_Files_many : Option Addr} {sl_Files_many : Array (Option Value)} {oc_Files_many kV_Files_many dc_Files_many pm_Files_many cd_Files_many ct_Files_many : Value} {f_Files_birth : Addr} {od_Files_birth an_Files_birth : Option Addr} {sl_Files_birth : Array (Option Value)} {oc_Files_birth kV_Files_birth dc_Files_birth pm_Files_birth cd_Files_birth ct_Files_birth : Value} {f_Files_put : Addr} {od_Files_put an_Files_put : Option Addr} {sl_Files_put : Array (Option Value)} {oc_Files_put kV_Files_put dc_Files_put pm_Files_put cd_Files_put ct_Files_put : Value} {f_Files_cut : Addr} {od_Files_cut an_Files_cut : Option Addr} {sl_Files_cut : Array (Option Value)} {oc_Files_cut kV_Files_cut dc_Files_cut pm_Files_cut cd_Files_cut ct_Files_cut : Value} {f_Files_hold : Addr} {od_Files_hold an_Files_hold : Option Addr} {sl_Files_hold : Array (Option Value)} {oc_Files_hold kV_Files_hold dc_Files_hold pm_Files_hold cd_Files_hold ct_Files_hold : Value} {f_Files_free : Addr} {od_Files_free an_Files_free : Option Addr} {sl_Files_free : Array (Option Value)} {oc_Files_free kV_Files_free dc_Files_free pm_Files_free cd_Files_free ct_Files_free : Value} {f_Files_held : Addr} {od_Files_held an_Files_held : Option Addr} {sl_Files_held : Array (Option Value)} {oc_Files_held kV_Files_held dc_Files_held pm_Files_held cd_Files_held ct_Files_held : Value} {f_Files_of_held : Addr} {od_Files_of_held an_Files_of_held : Option Addr} {sl_Files_of_held : Array (Option Value)} {oc_Files_of_held kV_Files_of_held dc_Files_of_held pm_Files_of_held cd_Files_of_held ct_Files_of_held : Value} {f_Files_bare : Addr} {od_Files_bare an_Files_bare : Option Addr} {sl_Files_bare : Array (Option Value)} {oc_Files_bare kV_Files_bare dc_Files_bare pm_Files_bare cd_Files_bare ct_Files_bare : Value} {f_Files_keep : Addr} {od_Files_keep an_Files_keep : Option Addr} {sl_Files_keep : Array (Option Value)} {oc_Files_keep kV_Files_keep dc_Files_keep pm_Files_keep cd_Files_keep ct_Files_keep : Value} {f_Files_refuse_if_none : Addr} {od_Files_refuse_if_none an_Files_refuse_if_none : Option Addr} {sl_Files_refuse_if_none : Array (Option Value)} {oc_Files_refuse_if_none kV_Files_refuse_if_none dc_Files_refuse_if_none pm_Files_refuse_if_none cd_Files_refuse_if_none ct_Files_refuse_if_none : Value} {f_Files_refuse_if_not_held : Addr} {od_Files_refuse_if_not_held an_Files_refuse_if_not_held : Option Addr} {sl_Files_refuse_if_not_held : Array (Option Value)} {oc_Files_refuse_if_not_held kV_Files_refuse_if_not_held dc_Files_refuse_if_not_held pm_Files_refuse_if_not_held cd_Files_refuse_if_not_held ct_Files_refuse_if_not_held : Value} {f_files_text : Addr} {od_files_text an_files_text : Option Addr} {sl_files_text : Array (Option Value)} {oc_files_text kV_files_text dc_files_text pm_files_text cd_files_text ct_files_text : Value} {f_table_words : Addr} {od_table_words an_table_words : Option Addr} {sl_table_words : Array (Option Value)} {oc_table_words kV_table_words dc_table_words pm_table_words cd_table_words ct_table_words : Value} {f_read_files : Addr} {od_read_files an_read_files : Option Addr} {sl_read_files : Array (Option Value)} {oc_read_files kV_read_files dc_read_files pm_read_files cd_read_files ct_read_files : Value} {f_take_files : Addr} {od_take_files an_take_files : Option Addr} {sl_take_files : Array (Option Value)} {oc_take_files kV_take_files dc_take_files pm_take_files cd_take_files ct_take_files : Value} {f_take_table : Addr} {od_take_table an_take_table : Option Addr} {sl_take_table : Array (Option Value)} {oc_take_table kV_take_table dc_take_table pm_take_table cd_take_table ct_take_table : Value} {f_take_later_name : Addr} {od_take_later_name an_take_later_name : Option Addr} {sl_take_later_name : Array (Option Value)} {oc_take_later_name kV_take_later_name dc_take_later_name pm_take_later_name cd_take_later_name ct_take_later_name : Value} {f__law_at : Addr} {od__law_at an__law_at : Option Addr} {sl__law_at : Array (Option Value)} {oc__law_at kV__law_at dc__law_at pm__law_at cd__law_at ct__law_at : Value} {f__law_pot : Addr} {od__law_pot an__law_pot : Option Addr} {sl__law_pot : Array (Option Value)} {oc__law_pot kV__law_pot dc__law_pot pm__law_pot cd__law_pot ct__law_pot : Value} {f__law_take : Addr} {od__law_take an__law_take : Option Addr} {sl__law_take : Array (Option Value)} {oc__law_take kV__law_take dc__law_take pm__law_take cd__law_take ct__law_take : Value} {f__law_drawn : Addr} {od__law_drawn an__law_drawn : Option Addr} {sl__law_drawn : Array (Option Value)} {oc__law_drawn kV__law_drawn dc__law_drawn pm__law_drawn cd__law_drawn ct__law_drawn : Value} {f__law_name : Addr} {od__law_name an__law_name : Option Addr} {sl__law_name : Array (Option Value)} {oc__law_name kV__law_name dc__law_name pm__law_name cd__law_name ct__law_name : Value} {f__law_names : Addr} {od__law_names an__law_names : Option Addr} {sl__law_names : Array (Option Value)} {oc__law_names kV__law_names dc__law_names pm__law_names cd__law_names ct__law_names : Value} {f__law_birth : Addr} {od__law_birth an__law_birth : Option Addr} {sl__law_birth : Array (Option Value)} {oc__law_birth kV__law_birth dc__law_birth pm__law_birth cd__law_birth ct__law_birth : Value} {f__law_model : Addr} {od__law_model an__law_model : Option Addr} {sl__law_model : Array (Option Value)} {oc__law_model kV__law_model dc__law_model pm__law_model cd__law_model ct__law_model : Value} {f__law_models : Addr} {od__law_models an__law_models : Option Addr} {sl__law_models : Array (Option Value)} {oc__law_models kV__law_models dc__law_models pm__law_models cd__law_models ct__law_models : Value} {f__law_words : Addr} {od__law_words an__law_words : Option Addr} {sl__law_words : Array (Option Value)} {oc__law_words kV__law_words dc__law_words pm__law_words cd__law_words ct__law_words : Value} {f__law_text : Addr} {od__law_text an__law_text : Option Addr} {sl__law_text : Array (Option Value)} {oc__law_text kV__law_text dc__law_text pm__law_text cd__law_text ct__law_text : Value} {f__law_settle : Addr} {od__law_settle an__law_settle : Option Addr} {sl__law_settle : Array (Option Value)} {oc__law_settle kV__law_settle dc__law_settle pm__law_settle cd__law_settle ct__law_settle : Value} {f__law_files : Addr} {od__law_files an__law_files : Option Addr} {sl__law_files : Array (Option Value)} {oc__law_files kV__law_files dc__law_files pm__law_files cd__law_files ct__law_files : Value} {f__law_is_model : Addr} {od__law_is_model an__law_is_model : Option Addr} {sl__law_is_model : Array (Option Value)} {oc__law_is_model kV__law_is_model dc__law_is_model pm__law_is_model cd__law_is_model ct__law_is_model : Value} {f__law_is_so : Addr} {od__law_is_so an__law_is_so : Option Addr} {sl__law_is_so : Array (Option Value)} {oc__law_is_so kV__law_is_so dc__law_is_so pm__law_is_so cd__law_is_so ct__law_is_so : Value} {f__law_right : Addr} {od__law_right an__law_right : Option Addr} {sl__law_right : Array (Option Value)} {oc__law_right kV__law_right dc__law_right pm__law_right cd__law_right ct__law_right : Value} {f_law : Addr} {od_law an_law : Option Addr} {sl_law : Array (Option Value)} {oc_law kV_law dc_law pm_law cd_law ct_law : Value} {t_FIGURES : Tok} {t_LETTERS : Tok} {t_MOST_FIGURES : Tok} {t_MOST_LETTERS : Tok} (X : K.In h) (G : h.Ns mainGlobals mg) (hfa : mg "law" = some (.ref fa))
    (c_CleanError : PySem.W.nsIn K mainGlobals "CleanError" = some (some (.ref a_CleanError)))
    (c_NoFile : PySem.W.nsIn K mainGlobals "NoFile" = some (some (.ref a_NoFile)))
    (c_NoPlace : PySem.W.nsIn K mainGlobals "NoPlace" = some (some (.ref a_NoPlace)))
    (c_HeldAlready : PySem.W.nsIn K mainGlobals "HeldAlready" = some (some (.ref a_HeldAlready)))
    (c_NotHeld : PySem.W.nsIn K mainGlobals "NotHeld" = some (some (.ref a_NotHeld)))
    (c_NoFiles : PySem.W.nsIn K mainGlobals "NoFiles" = some (some (.ref a_NoFiles)))
    (c_NoPart : PySem.W.nsIn K mainGlobals "NoPart" = some (some (.ref a_NoPart)))
    (c_Words : PySem.W.nsIn K mainGlobals "Words" = some (some (.ref a_Words)))
    (c_Files : PySem.W.nsIn K mainGlobals "Files" = some (some (.ref a_Files)))
    (ais_whole : PySem.W.nsIn K mainGlobals "is_whole" = some (some (.ref f_is_whole)))
    (lis_whole : K.lookup f_is_whole = some ⟨oc_is_whole, od_is_whole, .func (PySem.W.fnOf "is_whole" "is_whole" (defArgs s_is_whole) (defBody s_is_whole) (defScope s_is_whole) .none kV_is_whole dc_is_whole pm_is_whole an_is_whole cd_is_whole ct_is_whole), sl_is_whole⟩)
    (dis_whole : PySem.W.codeIn K cd_is_whole "is_whole" = true)
    (kis_whole : PySem.W.keepIn K (.ref f_is_whole) = true)
    (ais_within : PySem.W.nsIn K mainGlobals "is_within" = some (some (.ref f_is_within)))
    (lis_within : K.lookup f_is_within = some ⟨oc_is_within, od_is_within, .func (PySem.W.fnOf "is_within" "is_within" (defArgs s_is_within) (defBody s_is_within) (defScope s_is_within) .none kV_is_within dc_is_within pm_is_within an_is_within cd_is_within ct_is_within), sl_is_within⟩)
    (dis_within : PySem.W.codeIn K cd_is_within "is_within" = true)
    (kis_within : PySem.W.keepIn K (.ref f_is_within) = true)
    (ais_made_of : PySem.W.nsIn K mainGlobals "is_made_of" = some (some (.ref f_is_made_of)))
    (lis_made_of : K.lookup f_is_made_of = some ⟨oc_is_made_of, od_is_made_of, .func (PySem.W.fnOf "is_made_of" "is_made_of" (defArgs s_is_made_of) (defBody s_is_made_of) (defScope s_is_made_of) .none kV_is_made_of dc_is_made_of pm_is_made_of an_is_made_of cd_is_made_of ct_is_made_of), sl_is_made_of⟩)
    (dis_made_of : PySem.W.codeIn K cd_is_made_of "is_made_of" = true)
    (kis_made_of : PySem.W.keepIn K (.ref f_is_made_of) = true)
    (ais_number_text : PySem.W.nsIn K mainGlobals "is_number_text" = some (some (.ref f_is_number_text)))
    (lis_number_text : K.lookup f_is_number_text = some ⟨oc_is_number_text, od_is_number_text, .func (PySem.W.fnOf "is_number_text" "is_number_text" (defArgs s_is_number_text) (defBody s_is_number_text) (defScope s_is_number_text) .none kV_is_number_text dc_is_number_text pm_is_number_text an_is_number_text cd_is_number_text ct_is_number_text), sl_is_number_text⟩)
    (dis_number_text : PySem.W.codeIn K cd_is_number_text "is_number_text" = true)
    (kis_number_text : PySem.W.keepIn K (.ref f_is_number_text) = true)
    (ais_name : PySem.W.nsIn K mainGlobals "is_name" = some (some (.ref f_is_name)))
    (lis_name : K.lookup f_is_name = some ⟨oc_is_name, od_is_name, .func (PySem.W.fnOf "is_name" "is_name" (defArgs s_is_name) (defBody s_is_name) (defScope s_is_name) .none kV_is_name dc_is_name pm_is_name an_is_name cd_is_name ct_is_name), sl_is_name⟩)
    (dis_name : PySem.W.codeIn K cd_is_name "is_name" = true)
    (kis_name : PySem.W.keepIn K (.ref f_is_name) = true)
    (aWords___init__ : PySem.W.findIn K (.ref a_Words) "__init__" = some (some (.ref f_Words___init__)))
    (iWords___init__ : PySem.W.isFn K (.ref f_Words___init__) = true)
    (lWords___init__ : K.lookup f_Words___init__ = some ⟨oc_Words___init__, od_Words___init__, .func (PySem.W.fnOf "__init__" "Words.__init__" (defArgs s_Words___init__) (defBody s_Words___init__) (defScope s_Words___init__) .none kV_Words___init__ dc_Words___init__ pm_Words___init__ an_Words___init__ cd_Words___init__ ct_Words___init__), sl_Words___init__⟩)
    (dWords___init__ : PySem.W.codeIn K cd_Words___init__ "Words.__init__" = true)
    (kWords___init__ : PySem.W.keepIn K (.ref f_Words___init__) = true)
    (aWords_take_word : PySem.W.findIn K (.ref a_Words) "take_word" = some (some (.ref f_Words_take_word)))
    (iWords_take_word : PySem.W.isFn K (.ref f_Words_take_word) = true)
    (lWords_take_word : K.lookup f_Words_take_word = some ⟨oc_Words_take_word, od_Words_take_word, .func (PySem.W.fnOf "take_word" "Words.take_word" (defArgs s_Words_take_word) (defBody s_Words_take_word) (defScope s_Words_take_word) .none kV_Words_take_word dc_Words_take_word pm_Words_take_word an_Words_take_word cd_Words_take_word ct_Words_take_word), sl_Words_take_word⟩)
    (dWords_take_word : PySem.W.codeIn K cd_Words_take_word "Words.take_word" = true)
    (kWords_take_word : PySem.W.keepIn K (.ref f_Words_take_word) = true)
    (aWords_take_number : PySem.W.findIn K (.ref a_Words) "take_number" = some (some (.ref f_Words_take_number)))
    (iWords_take_number : PySem.W.isFn K (.ref f_Words_take_number) = true)
    (lWords_take_number : K.lookup f_Words_take_number = some ⟨oc_Words_take_number, od_Words_take_number, .func (PySem.W.fnOf "take_number" "Words.take_number" (defArgs s_Words_take_number) (defBody s_Words_take_number) (defScope s_Words_take_number) .none kV_Words_take_number dc_Words_take_number pm_Words_take_number an_Words_take_number cd_Words_take_number ct_Words_take_number), sl_Words_take_number⟩)
    (dWords_take_number : PySem.W.codeIn K cd_Words_take_number "Words.take_number" = true)
    (kWords_take_number : PySem.W.keepIn K (.ref f_Words_take_number) = true)
    (aWords_take_name : PySem.W.findIn K (.ref a_Words) "take_name" = some (some (.ref f_Words_take_name)))
    (iWords_take_name : PySem.W.isFn K (.ref f_Words_take_name) = true)
    (lWords_take_name : K.lookup f_Words_take_name = some ⟨oc_Words_take_name, od_Words_take_name, .func (PySem.W.fnOf "take_name" "Words.take_name" (defArgs s_Words_take_name) (defBody s_Words_take_name) (defScope s_Words_take_name) .none kV_Words_take_name dc_Words_take_name pm_Words_take_name an_Words_take_name cd_Words_take_name ct_Words_take_name), sl_Words_take_name⟩)
    (dWords_take_name : PySem.W.codeIn K cd_Words_take_name "Words.take_name" = true)
    (kWords_take_name : PySem.W.keepIn K (.ref f_Words_take_name) = true)
    (aWords_is_at_end : PySem.W.findIn K (.ref a_Words) "is_at_end" = some (some (.ref f_Words_is_at_end)))
    (iWords_is_at_end : PySem.W.isFn K (.ref f_Words_is_at_end) = true)
    (lWords_is_at_end : K.lookup f_Words_is_at_end = some ⟨oc_Words_is_at_end, od_Words_is_at_end, .func (PySem.W.fnOf "is_at_end" "Words.is_at_end" (defArgs s_Words_is_at_end) (defBody s_Words_is_at_end) (defScope s_Words_is_at_end) .none kV_Words_is_at_end dc_Words_is_at_end pm_Words_is_at_end an_Words_is_at_end cd_Words_is_at_end ct_Words_is_at_end), sl_Words_is_at_end⟩)
    (dWords_is_at_end : PySem.W.codeIn K cd_Words_is_at_end "Words.is_at_end" = true)
    (kWords_is_at_end : PySem.W.keepIn K (.ref f_Words_is_at_end) = true)
    (aWords_take_end : PySem.W.findIn K (.ref a_Words) "take_end" = some (some (.ref f_Words_take_end)))
    (iWords_take_end : PySem.W.isFn K (.ref f_Words_take_end) = true)
    (lWords_take_end : K.lookup f_Words_take_end = some ⟨oc_Words_take_end, od_Words_take_end, .func (PySem.W.fnOf "take_end" "Words.take_end" (defArgs s_Words_take_end) (defBody s_Words_take_end) (defScope s_Words_take_end) .none kV_Words_take_end dc_Words_take_end pm_Words_take_end an_Words_take_end cd_Words_take_end ct_Words_take_end), sl_Words_take_end⟩)
    (dWords_take_end : PySem.W.codeIn K cd_Words_take_end "Words.take_end" = true)
    (kWords_take_end : PySem.W.keepIn K (.ref f_Words_take_end) = true)
    (aFiles___init__ : PySem.W.findIn K (.ref a_Files) "__init__" = some (some (.ref f_Files___init__)))
    (iFiles___init__ : PySem.W.isFn K (.ref f_Files___init__) = true)
    (lFiles___init__ : K.lookup f_Files___init__ = some ⟨oc_Files___init__, od_Files___init__, .func (PySem.W.fnOf "__init__" "Files.__init__" (defArgs s_Files___init__) (defBody s_Files___init__) (defScope s_Files___init__) .none kV_Files___init__ dc_Files___init__ pm_Files___init__ an_Files___init__ cd_Files___init__ ct_Files___init__), sl_Files___init__⟩)
    (dFiles___init__ : PySem.W.codeIn K cd_Files___init__ "Files.__init__" = true)
    (kFiles___init__ : PySem.W.keepIn K (.ref f_Files___init__) = true)
    (aFiles_names : PySem.W.findIn K (.ref a_Files) "names" = some (some (.ref f_Files_names)))
    (iFiles_names : PySem.W.isFn K (.ref f_Files_names) = true)
    (lFiles_names : K.lookup f_Files_names = some ⟨oc_Files_names, od_Files_names, .func (PySem.W.fnOf "names" "Files.names" (defArgs s_Files_names) (defBody s_Files_names) (defScope s_Files_names) .none kV_Files_names dc_Files_names pm_Files_names an_Files_names cd_Files_names ct_Files_names), sl_Files_names⟩)
    (dFiles_names : PySem.W.codeIn K cd_Files_names "Files.names" = true)
    (kFiles_names : PySem.W.keepIn K (.ref f_Files_names) = true)
    (aFiles_many : PySem.W.findIn K (.ref a_Files) "many" = some (some (.ref f_Files_many)))
    (iFiles_many : PySem.W.isFn K (.ref f_Files_many) = true)
    (lFiles_many : K.lookup f_Files_many = some ⟨oc_Files_many, od_Files_many, .func (PySem.W.fnOf "many" "Files.many" (defArgs s_Files_many) (defBody s_Files_many) (defScope s_Files_many) .none kV_Files_many dc_Files_many pm_Files_many an_Files_many cd_Files_many ct_Files_many), sl_Files_many⟩)
    (dFiles_many : PySem.W.codeIn K cd_Files_many "Files.many" = true)
    (kFiles_many : PySem.W.keepIn K (.ref f_Files_many) = true)
    (aFiles_birth : PySem.W.findIn K (.ref a_Files) "birth" = some (some (.ref f_Files_birth)))
    (iFiles_birth : PySem.W.isFn K (.ref f_Files_birth) = true)
    (lFiles_birth : K.lookup f_Files_birth = some ⟨oc_Files_birth, od_Files_birth, .func (PySem.W.fnOf "birth" "Files.birth" (defArgs s_Files_birth) (defBody s_Files_birth) (defScope s_Files_birth) .none kV_Files_birth dc_Files_birth pm_Files_birth an_Files_birth cd_Files_birth ct_Files_birth), sl_Files_birth⟩)
    (dFiles_birth : PySem.W.codeIn K cd_Files_birth "Files.birth" = true)
    (kFiles_birth : PySem.W.keepIn K (.ref f_Files_birth) = true)
    (aFiles_put : PySem.W.findIn K (.ref a_Files) "put" = some (some (.ref f_Files_put)))
    (iFiles_put : PySem.W.isFn K (.ref f_Files_put) = true)
    (lFiles_put : K.lookup f_Files_put = some ⟨oc_Files_put, od_Files_put, .func (PySem.W.fnOf "put" "Files.put" (defArgs s_Files_put) (defBody s_Files_put) (defScope s_Files_put) .none kV_Files_put dc_Files_put pm_Files_put an_Files_put cd_Files_put ct_Files_put), sl_Files_put⟩)
    (dFiles_put : PySem.W.codeIn K cd_Files_put "Files.put" = true)
    (kFiles_put : PySem.W.keepIn K (.ref f_Files_put) = true)
    (aFiles_cut : PySem.W.findIn K (.ref a_Files) "cut" = some (some (.ref f_Files_cut)))
    (iFiles_cut : PySem.W.isFn K (.ref f_Files_cut) = true)
    (lFiles_cut : K.lookup f_Files_cut = some ⟨oc_Files_cut, od_Files_cut, .func (PySem.W.fnOf "cut" "Files.cut" (defArgs s_Files_cut) (defBody s_Files_cut) (defScope s_Files_cut) .none kV_Files_cut dc_Files_cut pm_Files_cut an_Files_cut cd_Files_cut ct_Files_cut), sl_Files_cut⟩)
    (dFiles_cut : PySem.W.codeIn K cd_Files_cut "Files.cut" = true)
    (kFiles_cut : PySem.W.keepIn K (.ref f_Files_cut) = true)
    (aFiles_hold : PySem.W.findIn K (.ref a_Files) "hold" = some (some (.ref f_Files_hold)))
    (iFiles_hold : PySem.W.isFn K (.ref f_Files_hold) = true)
    (lFiles_hold : K.lookup f_Files_hold = some ⟨oc_Files_hold, od_Files_hold, .func (PySem.W.fnOf "hold" "Files.hold" (defArgs s_Files_hold) (defBody s_Files_hold) (defScope s_Files_hold) .none kV_Files_hold dc_Files_hold pm_Files_hold an_Files_hold cd_Files_hold ct_Files_hold), sl_Files_hold⟩)
    (dFiles_hold : PySem.W.codeIn K cd_Files_hold "Files.hold" = true)
    (kFiles_hold : PySem.W.keepIn K (.ref f_Files_hold) = true)
    (aFiles_free : PySem.W.findIn K (.ref a_Files) "free" = some (some (.ref f_Files_free)))
    (iFiles_free : PySem.W.isFn K (.ref f_Files_free) = true)
    (lFiles_free : K.lookup f_Files_free = some ⟨oc_Files_free, od_Files_free, .func (PySem.W.fnOf "free" "Files.free" (defArgs s_Files_free) (defBody s_Files_free) (defScope s_Files_free) .none kV_Files_free dc_Files_free pm_Files_free an_Files_free cd_Files_free ct_Files_free), sl_Files_free⟩)
    (dFiles_free : PySem.W.codeIn K cd_Files_free "Files.free" = true)
    (kFiles_free : PySem.W.keepIn K (.ref f_Files_free) = true)
    (aFiles_held : PySem.W.findIn K (.ref a_Files) "held" = some (some (.ref f_Files_held)))
    (iFiles_held : PySem.W.isFn K (.ref f_Files_held) = true)
    (lFiles_held : K.lookup f_Files_held = some ⟨oc_Files_held, od_Files_held, .func (PySem.W.fnOf "held" "Files.held" (defArgs s_Files_held) (defBody s_Files_held) (defScope s_Files_held) .none kV_Files_held dc_Files_held pm_Files_held an_Files_held cd_Files_held ct_Files_held), sl_Files_held⟩)
    (dFiles_held : PySem.W.codeIn K cd_Files_held "Files.held" = true)
    (kFiles_held : PySem.W.keepIn K (.ref f_Files_held) = true)
    (aFiles_of_held : PySem.W.findIn K (.ref a_Files) "of_held" = some (some (.ref f_Files_of_held)))
    (iFiles_of_held : PySem.W.isFn K (.ref f_Files_of_held) = true)
    (lFiles_of_held : K.lookup f_Files_of_held = some ⟨oc_Files_of_held, od_Files_of_held, .func (PySem.W.fnOf "of_held" "Files.of_held" (defArgs s_Files_of_held) (defBody s_Files_of_held) (defScope s_Files_of_held) .none kV_Files_of_held dc_Files_of_held pm_Files_of_held an_Files_of_held cd_Files_of_held ct_Files_of_held), sl_Files_of_held⟩)
    (dFiles_of_held : PySem.W.codeIn K cd_Files_of_held "Files.of_held" = true)
    (kFiles_of_held : PySem.W.keepIn K (.ref f_Files_of_held) = true)
    (aFiles_bare : PySem.W.findIn K (.ref a_Files) "bare" = some (some (.ref f_Files_bare)))
    (iFiles_bare : PySem.W.isFn K (.ref f_Files_bare) = true)
    (lFiles_bare : K.lookup f_Files_bare = some ⟨oc_Files_bare, od_Files_bare, .func (PySem.W.fnOf "bare" "Files.bare" (defArgs s_Files_bare) (defBody s_Files_bare) (defScope s_Files_bare) .none kV_Files_bare dc_Files_bare pm_Files_bare an_Files_bare cd_Files_bare ct_Files_bare), sl_Files_bare⟩)
    (dFiles_bare : PySem.W.codeIn K cd_Files_bare "Files.bare" = true)
    (kFiles_bare : PySem.W.keepIn K (.ref f_Files_bare) = true)
    (aFiles_keep : PySem.W.findIn K (.ref a_Files) "keep" = some (some (.ref f_Files_keep)))
    (iFiles_keep : PySem.W.isFn K (.ref f_Files_keep) = true)
    (lFiles_keep : K.lookup f_Files_keep = some ⟨oc_Files_keep, od_Files_keep, .func (PySem.W.fnOf "keep" "Files.keep" (defArgs s_Files_keep) (defBody s_Files_keep) (defScope s_Files_keep) .none kV_Files_keep dc_Files_keep pm_Files_keep an_Files_keep cd_Files_keep ct_Files_keep), sl_Files_keep⟩)
    (dFiles_keep : PySem.W.codeIn K cd_Files_keep "Files.keep" = true)
    (kFiles_keep : PySem.W.keepIn K (.ref f_Files_keep) = true)
    (aFiles_refuse_if_none : PySem.W.findIn K (.ref a_Files) "refuse_if_none" = some (some (.ref f_Files_refuse_if_none)))
    (iFiles_refuse_if_none : PySem.W.isFn K (.ref f_Files_refuse_if_none) = true)
    (lFiles_refuse_if_none : K.lookup f_Files_refuse_if_none = some ⟨oc_Files_refuse_if_none, od_Files_refuse_if_none, .func (PySem.W.fnOf "refuse_if_none" "Files.refuse_if_none" (defArgs s_Files_refuse_if_none) (defBody s_Files_refuse_if_none) (defScope s_Files_refuse_if_none) .none kV_Files_refuse_if_none dc_Files_refuse_if_none pm_Files_refuse_if_none an_Files_refuse_if_none cd_Files_refuse_if_none ct_Files_refuse_if_none), sl_Files_refuse_if_none⟩)
    (dFiles_refuse_if_none : PySem.W.codeIn K cd_Files_refuse_if_none "Files.refuse_if_none" = true)
    (kFiles_refuse_if_none : PySem.W.keepIn K (.ref f_Files_refuse_if_none) = true)
    (aFiles_refuse_if_not_held : PySem.W.findIn K (.ref a_Files) "refuse_if_not_held" = some (some (.ref f_Files_refuse_if_not_held)))
    (iFiles_refuse_if_not_held : PySem.W.isFn K (.ref f_Files_refuse_if_not_held) = true)
    (lFiles_refuse_if_not_held : K.lookup f_Files_refuse_if_not_held = some ⟨oc_Files_refuse_if_not_held, od_Files_refuse_if_not_held, .func (PySem.W.fnOf "refuse_if_not_held" "Files.refuse_if_not_held" (defArgs s_Files_refuse_if_not_held) (defBody s_Files_refuse_if_not_held) (defScope s_Files_refuse_if_not_held) .none kV_Files_refuse_if_not_held dc_Files_refuse_if_not_held pm_Files_refuse_if_not_held an_Files_refuse_if_not_held cd_Files_refuse_if_not_held ct_Files_refuse_if_not_held), sl_Files_refuse_if_not_held⟩)
    (dFiles_refuse_if_not_held : PySem.W.codeIn K cd_Files_refuse_if_not_held "Files.refuse_if_not_held" = true)
    (kFiles_refuse_if_not_held : PySem.W.keepIn K (.ref f_Files_refuse_if_not_held) = true)
    (afiles_text : PySem.W.nsIn K mainGlobals "files_text" = some (some (.ref f_files_text)))
    (lfiles_text : K.lookup f_files_text = some ⟨oc_files_text, od_files_text, .func (PySem.W.fnOf "files_text" "files_text" (defArgs s_files_text) (defBody s_files_text) (defScope s_files_text) .none kV_files_text dc_files_text pm_files_text an_files_text cd_files_text ct_files_text), sl_files_text⟩)
    (dfiles_text : PySem.W.codeIn K cd_files_text "files_text" = true)
    (kfiles_text : PySem.W.keepIn K (.ref f_files_text) = true)
    (atable_words : PySem.W.nsIn K mainGlobals "table_words" = some (some (.ref f_table_words)))
    (ltable_words : K.lookup f_table_words = some ⟨oc_table_words, od_table_words, .func (PySem.W.fnOf "table_words" "table_words" (defArgs s_table_words) (defBody s_table_words) (defScope s_table_words) .none kV_table_words dc_table_words pm_table_words an_table_words cd_table_words ct_table_words), sl_table_words⟩)
    (dtable_words : PySem.W.codeIn K cd_table_words "table_words" = true)
    (ktable_words : PySem.W.keepIn K (.ref f_table_words) = true)
    (aread_files : PySem.W.nsIn K mainGlobals "read_files" = some (some (.ref f_read_files)))
    (lread_files : K.lookup f_read_files = some ⟨oc_read_files, od_read_files, .func (PySem.W.fnOf "read_files" "read_files" (defArgs s_read_files) (defBody s_read_files) (defScope s_read_files) .none kV_read_files dc_read_files pm_read_files an_read_files cd_read_files ct_read_files), sl_read_files⟩)
    (dread_files : PySem.W.codeIn K cd_read_files "read_files" = true)
    (kread_files : PySem.W.keepIn K (.ref f_read_files) = true)
    (atake_files : PySem.W.nsIn K mainGlobals "take_files" = some (some (.ref f_take_files)))
    (ltake_files : K.lookup f_take_files = some ⟨oc_take_files, od_take_files, .func (PySem.W.fnOf "take_files" "take_files" (defArgs s_take_files) (defBody s_take_files) (defScope s_take_files) .none kV_take_files dc_take_files pm_take_files an_take_files cd_take_files ct_take_files), sl_take_files⟩)
    (dtake_files : PySem.W.codeIn K cd_take_files "take_files" = true)
    (ktake_files : PySem.W.keepIn K (.ref f_take_files) = true)
    (atake_table : PySem.W.nsIn K mainGlobals "take_table" = some (some (.ref f_take_table)))
    (ltake_table : K.lookup f_take_table = some ⟨oc_take_table, od_take_table, .func (PySem.W.fnOf "take_table" "take_table" (defArgs s_take_table) (defBody s_take_table) (defScope s_take_table) .none kV_take_table dc_take_table pm_take_table an_take_table cd_take_table ct_take_table), sl_take_table⟩)
    (dtake_table : PySem.W.codeIn K cd_take_table "take_table" = true)
    (ktake_table : PySem.W.keepIn K (.ref f_take_table) = true)
    (atake_later_name : PySem.W.nsIn K mainGlobals "take_later_name" = some (some (.ref f_take_later_name)))
    (ltake_later_name : K.lookup f_take_later_name = some ⟨oc_take_later_name, od_take_later_name, .func (PySem.W.fnOf "take_later_name" "take_later_name" (defArgs s_take_later_name) (defBody s_take_later_name) (defScope s_take_later_name) .none kV_take_later_name dc_take_later_name pm_take_later_name an_take_later_name cd_take_later_name ct_take_later_name), sl_take_later_name⟩)
    (dtake_later_name : PySem.W.codeIn K cd_take_later_name "take_later_name" = true)
    (ktake_later_name : PySem.W.keepIn K (.ref f_take_later_name) = true)
    (a_law_at : PySem.W.nsIn K mainGlobals "_law_at" = some (some (.ref f__law_at)))
    (l_law_at : K.lookup f__law_at = some ⟨oc__law_at, od__law_at, .func (PySem.W.fnOf "_law_at" "_law_at" (defArgs s__law_at) (defBody s__law_at) (defScope s__law_at) .none kV__law_at dc__law_at pm__law_at an__law_at cd__law_at ct__law_at), sl__law_at⟩)
    (d_law_at : PySem.W.codeIn K cd__law_at "_law_at" = true)
    (k_law_at : PySem.W.keepIn K (.ref f__law_at) = true)
    (a_law_pot : PySem.W.nsIn K mainGlobals "_law_pot" = some (some (.ref f__law_pot)))
    (l_law_pot : K.lookup f__law_pot = some ⟨oc__law_pot, od__law_pot, .func (PySem.W.fnOf "_law_pot" "_law_pot" (defArgs s__law_pot) (defBody s__law_pot) (defScope s__law_pot) .none kV__law_pot dc__law_pot pm__law_pot an__law_pot cd__law_pot ct__law_pot), sl__law_pot⟩)
    (d_law_pot : PySem.W.codeIn K cd__law_pot "_law_pot" = true)
    (k_law_pot : PySem.W.keepIn K (.ref f__law_pot) = true)
    (a_law_take : PySem.W.nsIn K mainGlobals "_law_take" = some (some (.ref f__law_take)))
    (l_law_take : K.lookup f__law_take = some ⟨oc__law_take, od__law_take, .func (PySem.W.fnOf "_law_take" "_law_take" (defArgs s__law_take) (defBody s__law_take) (defScope s__law_take) .none kV__law_take dc__law_take pm__law_take an__law_take cd__law_take ct__law_take), sl__law_take⟩)
    (d_law_take : PySem.W.codeIn K cd__law_take "_law_take" = true)
    (k_law_take : PySem.W.keepIn K (.ref f__law_take) = true)
    (a_law_drawn : PySem.W.nsIn K mainGlobals "_law_drawn" = some (some (.ref f__law_drawn)))
    (l_law_drawn : K.lookup f__law_drawn = some ⟨oc__law_drawn, od__law_drawn, .func (PySem.W.fnOf "_law_drawn" "_law_drawn" (defArgs s__law_drawn) (defBody s__law_drawn) (defScope s__law_drawn) .none kV__law_drawn dc__law_drawn pm__law_drawn an__law_drawn cd__law_drawn ct__law_drawn), sl__law_drawn⟩)
    (d_law_drawn : PySem.W.codeIn K cd__law_drawn "_law_drawn" = true)
    (k_law_drawn : PySem.W.keepIn K (.ref f__law_drawn) = true)
    (a_law_name : PySem.W.nsIn K mainGlobals "_law_name" = some (some (.ref f__law_name)))
    (l_law_name : K.lookup f__law_name = some ⟨oc__law_name, od__law_name, .func (PySem.W.fnOf "_law_name" "_law_name" (defArgs s__law_name) (defBody s__law_name) (defScope s__law_name) .none kV__law_name dc__law_name pm__law_name an__law_name cd__law_name ct__law_name), sl__law_name⟩)
    (d_law_name : PySem.W.codeIn K cd__law_name "_law_name" = true)
    (k_law_name : PySem.W.keepIn K (.ref f__law_name) = true)
    (a_law_names : PySem.W.nsIn K mainGlobals "_law_names" = some (some (.ref f__law_names)))
    (l_law_names : K.lookup f__law_names = some ⟨oc__law_names, od__law_names, .func (PySem.W.fnOf "_law_names" "_law_names" (defArgs s__law_names) (defBody s__law_names) (defScope s__law_names) .none kV__law_names dc__law_names pm__law_names an__law_names cd__law_names ct__law_names), sl__law_names⟩)
    (d_law_names : PySem.W.codeIn K cd__law_names "_law_names" = true)
    (k_law_names : PySem.W.keepIn K (.ref f__law_names) = true)
    (a_law_birth : PySem.W.nsIn K mainGlobals "_law_birth" = some (some (.ref f__law_birth)))
    (l_law_birth : K.lookup f__law_birth = some ⟨oc__law_birth, od__law_birth, .func (PySem.W.fnOf "_law_birth" "_law_birth" (defArgs s__law_birth) (defBody s__law_birth) (defScope s__law_birth) .none kV__law_birth dc__law_birth pm__law_birth an__law_birth cd__law_birth ct__law_birth), sl__law_birth⟩)
    (d_law_birth : PySem.W.codeIn K cd__law_birth "_law_birth" = true)
    (k_law_birth : PySem.W.keepIn K (.ref f__law_birth) = true)
    (a_law_model : PySem.W.nsIn K mainGlobals "_law_model" = some (some (.ref f__law_model)))
    (l_law_model : K.lookup f__law_model = some ⟨oc__law_model, od__law_model, .func (PySem.W.fnOf "_law_model" "_law_model" (defArgs s__law_model) (defBody s__law_model) (defScope s__law_model) .none kV__law_model dc__law_model pm__law_model an__law_model cd__law_model ct__law_model), sl__law_model⟩)
    (d_law_model : PySem.W.codeIn K cd__law_model "_law_model" = true)
    (k_law_model : PySem.W.keepIn K (.ref f__law_model) = true)
    (a_law_models : PySem.W.nsIn K mainGlobals "_law_models" = some (some (.ref f__law_models)))
    (l_law_models : K.lookup f__law_models = some ⟨oc__law_models, od__law_models, .func (PySem.W.fnOf "_law_models" "_law_models" (defArgs s__law_models) (defBody s__law_models) (defScope s__law_models) .none kV__law_models dc__law_models pm__law_models an__law_models cd__law_models ct__law_models), sl__law_models⟩)
    (d_law_models : PySem.W.codeIn K cd__law_models "_law_models" = true)
    (k_law_models : PySem.W.keepIn K (.ref f__law_models) = true)
    (a_law_words : PySem.W.nsIn K mainGlobals "_law_words" = some (some (.ref f__law_words)))
    (l_law_words : K.lookup f__law_words = some ⟨oc__law_words, od__law_words, .func (PySem.W.fnOf "_law_words" "_law_words" (defArgs s__law_words) (defBody s__law_words) (defScope s__law_words) .none kV__law_words dc__law_words pm__law_words an__law_words cd__law_words ct__law_words), sl__law_words⟩)
    (d_law_words : PySem.W.codeIn K cd__law_words "_law_words" = true)
    (k_law_words : PySem.W.keepIn K (.ref f__law_words) = true)
    (a_law_text : PySem.W.nsIn K mainGlobals "_law_text" = some (some (.ref f__law_text)))
    (l_law_text : K.lookup f__law_text = some ⟨oc__law_text, od__law_text, .func (PySem.W.fnOf "_law_text" "_law_text" (defArgs s__law_text) (defBody s__law_text) (defScope s__law_text) .none kV__law_text dc__law_text pm__law_text an__law_text cd__law_text ct__law_text), sl__law_text⟩)
    (d_law_text : PySem.W.codeIn K cd__law_text "_law_text" = true)
    (k_law_text : PySem.W.keepIn K (.ref f__law_text) = true)
    (a_law_settle : PySem.W.nsIn K mainGlobals "_law_settle" = some (some (.ref f__law_settle)))
    (l_law_settle : K.lookup f__law_settle = some ⟨oc__law_settle, od__law_settle, .func (PySem.W.fnOf "_law_settle" "_law_settle" (defArgs s__law_settle) (defBody s__law_settle) (defScope s__law_settle) .none kV__law_settle dc__law_settle pm__law_settle an__law_settle cd__law_settle ct__law_settle), sl__law_settle⟩)
    (d_law_settle : PySem.W.codeIn K cd__law_settle "_law_settle" = true)
    (k_law_settle : PySem.W.keepIn K (.ref f__law_settle) = true)
    (a_law_files : PySem.W.nsIn K mainGlobals "_law_files" = some (some (.ref f__law_files)))
    (l_law_files : K.lookup f__law_files = some ⟨oc__law_files, od__law_files, .func (PySem.W.fnOf "_law_files" "_law_files" (defArgs s__law_files) (defBody s__law_files) (defScope s__law_files) .none kV__law_files dc__law_files pm__law_files an__law_files cd__law_files ct__law_files), sl__law_files⟩)
    (d_law_files : PySem.W.codeIn K cd__law_files "_law_files" = true)
    (k_law_files : PySem.W.keepIn K (.ref f__law_files) = true)
    (a_law_is_model : PySem.W.nsIn K mainGlobals "_law_is_model" = some (some (.ref f__law_is_model)))
    (l_law_is_model : K.lookup f__law_is_model = some ⟨oc__law_is_model, od__law_is_model, .func (PySem.W.fnOf "_law_is_model" "_law_is_model" (defArgs s__law_is_model) (defBody s__law_is_model) (defScope s__law_is_model) .none kV__law_is_model dc__law_is_model pm__law_is_model an__law_is_model cd__law_is_model ct__law_is_model), sl__law_is_model⟩)
    (d_law_is_model : PySem.W.codeIn K cd__law_is_model "_law_is_model" = true)
    (k_law_is_model : PySem.W.keepIn K (.ref f__law_is_model) = true)
    (a_law_is_so : PySem.W.nsIn K mainGlobals "_law_is_so" = some (some (.ref f__law_is_so)))
    (l_law_is_so : K.lookup f__law_is_so = some ⟨oc__law_is_so, od__law_is_so, .func (PySem.W.fnOf "_law_is_so" "_law_is_so" (defArgs s__law_is_so) (defBody s__law_is_so) (defScope s__law_is_so) .none kV__law_is_so dc__law_is_so pm__law_is_so an__law_is_so cd__law_is_so ct__law_is_so), sl__law_is_so⟩)
    (d_law_is_so : PySem.W.codeIn K cd__law_is_so "_law_is_so" = true)
    (k_law_is_so : PySem.W.keepIn K (.ref f__law_is_so) = true)
    (a_law_right : PySem.W.nsIn K mainGlobals "_law_right" = some (some (.ref f__law_right)))
    (l_law_right : K.lookup f__law_right = some ⟨oc__law_right, od__law_right, .func (PySem.W.fnOf "_law_right" "_law_right" (defArgs s__law_right) (defBody s__law_right) (defScope s__law_right) .none kV__law_right dc__law_right pm__law_right an__law_right cd__law_right ct__law_right), sl__law_right⟩)
    (d_law_right : PySem.W.codeIn K cd__law_right "_law_right" = true)
    (k_law_right : PySem.W.keepIn K (.ref f__law_right) = true)
    (alaw : PySem.W.nsIn K mainGlobals "law" = some (some (.ref f_law)))
    (llaw : K.lookup f_law = some ⟨oc_law, od_law, .func (PySem.W.fnOf "law" "law" (defArgs s_law) (defBody s_law) (defScope s_law) .none kV_law dc_law pm_law an_law cd_law ct_law), sl_law⟩)
    (dlaw : PySem.W.codeIn K cd_law "law" = true)
    (klaw : PySem.W.keepIn K (.ref f_law) = true)
    (z_all : PySem.W.nsIn K mainGlobals "all" = some none)
    (z_bool : PySem.W.nsIn K mainGlobals "bool" = some none)
    (z_dict : PySem.W.nsIn K mainGlobals "dict" = some none)
    (z_divmod : PySem.W.nsIn K mainGlobals "divmod" = some none)
    (z_enumerate : PySem.W.nsIn K mainGlobals "enumerate" = some none)
    (z_int : PySem.W.nsIn K mainGlobals "int" = some none)
    (z_isinstance : PySem.W.nsIn K mainGlobals "isinstance" = some none)
    (z_len : PySem.W.nsIn K mainGlobals "len" = some none)
    (z_max : PySem.W.nsIn K mainGlobals "max" = some none)
    (z_min : PySem.W.nsIn K mainGlobals "min" = some none)
    (z_range : PySem.W.nsIn K mainGlobals "range" = some none)
    (z_sorted : PySem.W.nsIn K mainGlobals "sorted" = some none)
    (z_str : PySem.W.nsIn K mainGlobals "str" = some none)
    (v_FIGURES : PySem.W.nsIn K mainGlobals "FIGURES" = some (some (.str "0123456789" t_FIGURES)))
    (v_LETTERS : PySem.W.nsIn K mainGlobals "LETTERS" = some (some (.str "abcdefghijklmnopqrstuvwxyz" t_LETTERS)))
    (v_MOST_FIGURES : PySem.W.nsIn K mainGlobals "MOST_FIGURES" = some (some (.int 18 t_MOST_FIGURES)))
    (v_MOST_LETTERS : PySem.W.nsIn K mainGlobals "MOST_LETTERS" = some (some (.int 6 t_MOST_LETTERS)))
    (pg_Words : PySem.W.plainGet K a_Words Str.empty = true)
    (hdd_Words : PySem.W.hasDictIn K a_Words = true)
    (po_Words : PySem.W.plainOver K a_Words = true)
    (sa_Words : PySem.W.findIn K (.ref a_Words) "__setattr__" = some (some (.builtin "object.__setattr__")))
    (mk_Words : PySem.W.makesIn K a_Words = true)
    (kc_Words : PySem.W.keepIn K (.ref a_Words) = true)
    (na_taken : PySem.W.findIn K (.ref a_Words) "taken" = some none)
    (na_words : PySem.W.findIn K (.ref a_Words) "words" = some none)
    (pg_Files : PySem.W.plainGet K a_Files Str.empty = true)
    (hdd_Files : PySem.W.hasDictIn K a_Files = true)
    (po_Files : PySem.W.plainOver K a_Files = true)
    (sa_Files : PySem.W.findIn K (.ref a_Files) "__setattr__" = some (some (.builtin "object.__setattr__")))
    (mk_Files : PySem.W.makesIn K a_Files = true)
    (kc_Files : PySem.W.keepIn K (.ref a_Files) = true)
    (na_births : PySem.W.findIn K (.ref a_Files) "births" = some none)
    (na_kept : PySem.W.findIn K (.ref a_Files) "kept" = some none)
    (isg : PySem.W.specialIn K (.builtin "object.__class__") "__get__" = some (some (.builtin "getset_descriptor.__get__")))
    (ist : PySem.W.takesIn K (.builtin "object.__class__") = some true)
    (isc_Files : PySem.W.findIn K (.ref a_Files) "__class__" = some (some (.builtin "object.__class__")))
    (iso_Files : PySem.W.mroIn K a_Files (.type "object") = some true)
    (isk_Files : PySem.W.kitOne K (.ref a_Files) (.ref a_Files) = some true) :
    ∃ fd : FuncData, (∀ (s : Shared) (v : Value), BindsTo s fd ⟨[v], []⟩ [("_law_script", v)]) ∧ ∀ base : Heap, K.In base → base.Ns mainGlobals mg → FnOk l.prog w K mg base CX0 true 9 fa fd ["_law_script"] (spLaw K) := by
  have e := hfa.symm.trans (PySem.W.mg_of X G alaw)
  cases e
  have T : Txt K mg ⟨a_CleanError, a_NoFile, a_NoPlace, a_HeldAlready, a_NotHeld, a_NoFiles, a_NoPart, a_Words, a_Files⟩ := ⟨PySem.W.mg_none_of X G z_all, PySem.W.mg_none_of X G z_bool, PySem.W.mg_none_of X G z_dict, PySem.W.mg_none_of X G z_divmod, PySem.W.mg_none_of X G z_enumerate, PySem.W.mg_none_of X G z_int, PySem.W.mg_none_of X G z_isinstance, PySem.W.mg_none_of X G z_len, PySem.W.mg_none_of X G z_max, PySem.W.mg_none_of X G z_min, PySem.W.mg_none_of X G z_range, PySem.W.mg_none_of X G z_sorted, PySem.W.mg_none_of X G z_str, ⟨_, PySem.W.mg_of X G v_FIGURES, ⟨_, rfl⟩⟩, ⟨_, PySem.W.mg_of X G v_LETTERS, ⟨_, rfl⟩⟩, ⟨_, PySem.W.mg_of X G v_MOST_FIGURES, ⟨_, rfl⟩⟩, ⟨_, PySem.W.mg_of X G v_MOST_LETTERS, ⟨_, rfl⟩⟩, PySem.W.mg_of X G c_CleanError, PySem.W.mg_of X G c_NoFile, PySem.W.mg_of X G c_NoPlace, PySem.W.mg_of X G c_HeldAlready, PySem.W.mg_of X G c_NotHeld, PySem.W.mg_of X G c_NoFiles, PySem.W.mg_of X G c_NoPart, PySem.W.mg_of X G c_Words, PySem.W.mg_of X G c_Files, ⟨pg_Words, hdd_Words, po_Words, sa_Words⟩, na_taken, na_words, ⟨pg_Files, hdd_Files, po_Files, sa_Files⟩, na_births, na_kept, fun H a dx fs e => .of (.ins e ⟨pg_Files, hdd_Files, po_Files, sa_Files⟩ isc_Files isg ist iso_Files), isk_Files⟩
  have Fis_whole := fun_mk (st := s_is_whole) lis_whole dis_whole kis_whole
  have bis_whole := Fis_whole.binds (ps := ["value"]) fun _ _ _ _ _ _ us hl => match us, hl with | [_], _ => rfl
  have Fis_within := fun_mk (st := s_is_within) lis_within dis_within kis_within
  have bis_within := Fis_within.binds (ps := ["value", "least", "most"]) fun _ _ _ _ _ _ us hl => match us, hl with | [_, _, _], _ => rfl
  have Fis_made_of := fun_mk (st := s_is_made_of) lis_made_of dis_made_of kis_made_of
  have bis_made_of := Fis_made_of.binds (ps := ["text", "signs", "most"]) fun _ _ _ _ _ _ us hl => match us, hl with | [_, _, _], _ => rfl
  have Fis_number_text := fun_mk (st := s_is_number_text) lis_number_text dis_number_text kis_number_text
  have bis_number_text := Fis_number_text.binds (ps := ["text"]) fun _ _ _ _ _ _ us hl => match us, hl with | [_], _ => rfl
  have Fis_name := fun_mk (st := s_is_name) lis_name dis_name kis_name
  have bis_name := Fis_name.binds (ps := ["text"]) fun _ _ _ _ _ _ us hl => match us, hl with | [_], _ => rfl
  have FWords___init__ := fun_mk (st := s_Words___init__) lWords___init__ dWords___init__ kWords___init__
  have bWords___init__ := FWords___init__.binds (ps := ["self", "text"]) fun _ _ _ _ _ _ us hl => match us, hl with | [_, _], _ => rfl
  have FWords_take_word := fun_mk (st := s_Words_take_word) lWords_take_word dWords_take_word kWords_take_word
  have bWords_take_word := FWords_take_word.binds (ps := ["self"]) fun _ _ _ _ _ _ us hl => match us, hl with | [_], _ => rfl
  have FWords_take_number := fun_mk (st := s_Words_take_number) lWords_take_number dWords_take_number kWords_take_number
  have bWords_take_number := FWords_take_number.binds (ps := ["self"]) fun _ _ _ _ _ _ us hl => match us, hl with | [_], _ => rfl
  have FWords_take_name := fun_mk (st := s_Words_take_name) lWords_take_name dWords_take_name kWords_take_name
  have bWords_take_name := FWords_take_name.binds (ps := ["self"]) fun _ _ _ _ _ _ us hl => match us, hl with | [_], _ => rfl
  have FWords_is_at_end := fun_mk (st := s_Words_is_at_end) lWords_is_at_end dWords_is_at_end kWords_is_at_end
  have bWords_is_at_end := FWords_is_at_end.binds (ps := ["self"]) fun _ _ _ _ _ _ us hl => match us, hl with | [_], _ => rfl
  have FWords_take_end := fun_mk (st := s_Words_take_end) lWords_take_end dWords_take_end kWords_take_end
  have bWords_take_end := FWords_take_end.binds (ps := ["self"]) fun _ _ _ _ _ _ us hl => match us, hl with | [_], _ => rfl
  have FFiles___init__ := fun_mk (st := s_Files___init__) lFiles___init__ dFiles___init__ kFiles___init__
  have bFiles___init__ := FFiles___init__.binds (ps := ["self"]) fun _ _ _ _ _ _ us hl => match us, hl with | [_], _ => rfl
  have FFiles_names := fun_mk (st := s_Files_names) lFiles_names dFiles_names kFiles_names
  have bFiles_names := FFiles_names.binds (ps := ["self"]) fun _ _ _ _ _ _ us hl => match us, hl with | [_], _ => rfl
  have FFiles_many := fun_mk (st := s_Files_many) lFiles_many dFiles_many kFiles_many
  have bFiles_many := FFiles_many.binds (ps := ["self", "file"]) fun _ _ _ _ _ _ us hl => match us, hl with | [_, _], _ => rfl
  have FFiles_birth := fun_mk (st := s_Files_birth) lFiles_birth dFiles_birth kFiles_birth
  have bFiles_birth := FFiles_birth.binds (ps := ["self", "file", "place"]) fun _ _ _ _ _ _ us hl => match us, hl with | [_, _, _], _ => rfl
  have FFiles_put := fun_mk (st := s_Files_put) lFiles_put dFiles_put kFiles_put
  have bFiles_put := FFiles_put.binds (ps := ["self", "file", "place", "birth"]) fun _ _ _ _ _ _ us hl => match us, hl with | [_, _, _, _], _ => rfl
  have FFiles_cut := fun_mk (st := s_Files_cut) lFiles_cut dFiles_cut kFiles_cut
  have bFiles_cut := FFiles_cut.binds (ps := ["self", "file", "many"]) fun _ _ _ _ _ _ us hl => match us, hl with | [_, _, _], _ => rfl
  have FFiles_hold := fun_mk (st := s_Files_hold) lFiles_hold dFiles_hold kFiles_hold
  have bFiles_hold := FFiles_hold.binds (ps := ["self", "name"]) fun _ _ _ _ _ _ us hl => match us, hl with | [_, _], _ => rfl
  have FFiles_free := fun_mk (st := s_Files_free) lFiles_free dFiles_free kFiles_free
  have bFiles_free := FFiles_free.binds (ps := ["self", "name"]) fun _ _ _ _ _ _ us hl => match us, hl with | [_, _], _ => rfl
  have FFiles_held := fun_mk (st := s_Files_held) lFiles_held dFiles_held kFiles_held
  have bFiles_held := FFiles_held.binds (ps := ["self"]) fun _ _ _ _ _ _ us hl => match us, hl with | [_], _ => rfl
  have FFiles_of_held := fun_mk (st := s_Files_of_held) lFiles_of_held dFiles_of_held kFiles_of_held
  have bFiles_of_held := FFiles_of_held.binds (ps := ["self", "name"]) fun _ _ _ _ _ _ us hl => match us, hl with | [_, _], _ => rfl
  have FFiles_bare := fun_mk (st := s_Files_bare) lFiles_bare dFiles_bare kFiles_bare
  have bFiles_bare := FFiles_bare.binds (ps := ["self"]) fun _ _ _ _ _ _ us hl => match us, hl with | [_], _ => rfl
  have FFiles_keep := fun_mk (st := s_Files_keep) lFiles_keep dFiles_keep kFiles_keep
  have bFiles_keep := FFiles_keep.binds (ps := ["self", "name", "files"]) fun _ _ _ _ _ _ us hl => match us, hl with | [_, _, _], _ => rfl
  have FFiles_refuse_if_none := fun_mk (st := s_Files_refuse_if_none) lFiles_refuse_if_none dFiles_refuse_if_none kFiles_refuse_if_none
  have bFiles_refuse_if_none := FFiles_refuse_if_none.binds (ps := ["self", "file"]) fun _ _ _ _ _ _ us hl => match us, hl with | [_, _], _ => rfl
  have FFiles_refuse_if_not_held := fun_mk (st := s_Files_refuse_if_not_held) lFiles_refuse_if_not_held dFiles_refuse_if_not_held kFiles_refuse_if_not_held
  have bFiles_refuse_if_not_held := FFiles_refuse_if_not_held.binds (ps := ["self", "name"]) fun _ _ _ _ _ _ us hl => match us, hl with | [_, _], _ => rfl
  have Ffiles_text := fun_mk (st := s_files_text) lfiles_text dfiles_text kfiles_text
  have bfiles_text := Ffiles_text.binds (ps := ["files"]) fun _ _ _ _ _ _ us hl => match us, hl with | [_], _ => rfl
  have Ftable_words := fun_mk (st := s_table_words) ltable_words dtable_words ktable_words
  have btable_words := Ftable_words.binds (ps := ["files"]) fun _ _ _ _ _ _ us hl => match us, hl with | [_], _ => rfl
  have Fread_files := fun_mk (st := s_read_files) lread_files dread_files kread_files
  have bread_files := Fread_files.binds (ps := ["text"]) fun _ _ _ _ _ _ us hl => match us, hl with | [_], _ => rfl
  have Ftake_files := fun_mk (st := s_take_files) ltake_files dtake_files ktake_files
  have btake_files := Ftake_files.binds (ps := ["words"]) fun _ _ _ _ _ _ us hl => match us, hl with | [_], _ => rfl
  have Ftake_table := fun_mk (st := s_take_table) ltake_table dtake_table ktake_table
  have btake_table := Ftake_table.binds (ps := ["words"]) fun _ _ _ _ _ _ us hl => match us, hl with | [_], _ => rfl
  have Ftake_later_name := fun_mk (st := s_take_later_name) ltake_later_name dtake_later_name ktake_later_name
  have btake_later_name := Ftake_later_name.binds (ps := ["words", "name"]) fun _ _ _ _ _ _ us hl => match us, hl with | [_, _], _ => rfl
  have F_law_at := fun_mk (st := s__law_at) l_law_at d_law_at k_law_at
  have b_law_at := F_law_at.binds (ps := ["_law_script", "_law_k"]) fun _ _ _ _ _ _ us hl => match us, hl with | [_, _], _ => rfl
  have F_law_pot := fun_mk (st := s__law_pot) l_law_pot d_law_pot k_law_pot
  have b_law_pot := F_law_pot.binds (ps := ["_law_script", "_law_k"]) fun _ _ _ _ _ _ us hl => match us, hl with | [_, _], _ => rfl
  have F_law_take := fun_mk (st := s__law_take) l_law_take d_law_take k_law_take
  have b_law_take := F_law_take.binds (ps := ["_law_pot_here", "_law_many"]) fun _ _ _ _ _ _ us hl => match us, hl with | [_, _], _ => rfl
  have F_law_drawn := fun_mk (st := s__law_drawn) l_law_drawn d_law_drawn k_law_drawn
  have b_law_drawn := F_law_drawn.binds (ps := ["_law_pot_here", "_law_some"]) fun _ _ _ _ _ _ us hl => match us, hl with | [_, _], _ => rfl
  have F_law_name := fun_mk (st := s__law_name) l_law_name d_law_name k_law_name
  have b_law_name := F_law_name.binds (ps := ["_law_pot_here"]) fun _ _ _ _ _ _ us hl => match us, hl with | [_], _ => rfl
  have F_law_names := fun_mk (st := s__law_names) l_law_names d_law_names k_law_names
  have b_law_names := F_law_names.binds (ps := ["_law_pot_here"]) fun _ _ _ _ _ _ us hl => match us, hl with | [_], _ => rfl
  have F_law_birth := fun_mk (st := s__law_birth) l_law_birth d_law_birth k_law_birth
  have b_law_birth := F_law_birth.binds (ps := ["_law_pot_here"]) fun _ _ _ _ _ _ us hl => match us, hl with | [_], _ => rfl
  have F_law_model := fun_mk (st := s__law_model) l_law_model d_law_model k_law_model
  have b_law_model := F_law_model.binds (ps := ["_law_pot_here"]) fun _ _ _ _ _ _ us hl => match us, hl with | [_], _ => rfl
  have F_law_models := fun_mk (st := s__law_models) l_law_models d_law_models k_law_models
  have b_law_models := F_law_models.binds (ps := ["_law_pot_here"]) fun _ _ _ _ _ _ us hl => match us, hl with | [_], _ => rfl
  have F_law_words := fun_mk (st := s__law_words) l_law_words d_law_words k_law_words
  have b_law_words := F_law_words.binds (ps := ["_law_model_here"]) fun _ _ _ _ _ _ us hl => match us, hl with | [_], _ => rfl
  have F_law_text := fun_mk (st := s__law_text) l_law_text d_law_text k_law_text
  have b_law_text := F_law_text.binds (ps := ["_law_model_here", "_law_kept"]) fun _ _ _ _ _ _ us hl => match us, hl with | [_, _], _ => rfl
  have F_law_settle := fun_mk (st := s__law_settle) l_law_settle d_law_settle k_law_settle
  have b_law_settle := F_law_settle.binds (ps := ["_law_files_here", "_law_model_here"]) fun _ _ _ _ _ _ us hl => match us, hl with | [_, _], _ => rfl
  have F_law_files := fun_mk (st := s__law_files) l_law_files d_law_files k_law_files
  have b_law_files := F_law_files.binds (ps := ["_law_model_here", "_law_kept"]) fun _ _ _ _ _ _ us hl => match us, hl with | [_, _], _ => rfl
  have F_law_is_model := fun_mk (st := s__law_is_model) l_law_is_model d_law_is_model k_law_is_model
  have b_law_is_model := F_law_is_model.binds (ps := ["_law_files_here", "_law_model_here"]) fun _ _ _ _ _ _ us hl => match us, hl with | [_, _], _ => rfl
  have F_law_is_so := fun_mk (st := s__law_is_so) l_law_is_so d_law_is_so k_law_is_so
  have b_law_is_so := F_law_is_so.binds (ps := ["_law_files_here", "_law_model_here", "_law_kept"]) fun _ _ _ _ _ _ us hl => match us, hl with | [_, _, _], _ => rfl
  have F_law_right := fun_mk (st := s__law_right) l_law_right d_law_right k_law_right
  have b_law_right := F_law_right.binds (ps := ["_law_model_here", "_law_kept"]) fun _ _ _ _ _ _ us hl => match us, hl with | [_, _], _ => rfl
  have Flaw := fun_mk (st := s_law) llaw dlaw klaw
  have blaw := Flaw.binds (ps := ["_law_script"]) fun _ _ _ _ _ _ us hl => match us, hl with | [_], _ => rfl
  refine ⟨PySem.W.fnOf "law" "law" (defArgs s_law) (defBody s_law) (defScope s_law) .none kV_law dc_law pm_law an_law cd_law ct_law, fun s v => .of_eq rfl, fun base _ _ => ?_⟩
  have G_is_whole : GF l.prog w K mg base true 1 "is_whole" ["value"] (spWhole) := ⟨_, _, ok_is_whole Fis_whole T, PySem.W.mg_of X G ais_whole, kis_whole, bis_whole⟩
  have G_is_within : GF l.prog w K mg base true 2 "is_within" ["value", "least", "most"] (spWithin) := ⟨_, _, ok_is_within Fis_within T G_is_whole, PySem.W.mg_of X G ais_within, kis_within, bis_within⟩
  have G_Files : GC l.prog w K mg base true 1 "Files" a_Files ["self"] (spInitF _) := ⟨_, _, ok_Files_init FFiles___init__ T, PySem.W.mg_of X G c_Files, ⟨mk_Files, aFiles___init__, iFiles___init__, kc_Files⟩, bFiles___init__⟩
  have M_Files_names : GM l.prog w K mg base true 1 a_Files "names" ["self"] (spNames _) := ⟨_, _, ok_Files_names FFiles_names T, ⟨aFiles_names, iFiles_names, kFiles_names⟩, bFiles_names⟩
  have M_Files_many : GM l.prog w K mg base true 1 a_Files "many" ["self", "file"] (spMany _) := ⟨_, _, ok_Files_many FFiles_many T, ⟨aFiles_many, iFiles_many, kFiles_many⟩, bFiles_many⟩
  have M_Files_refuse_if_none : GM l.prog w K mg base true 1 a_Files "refuse_if_none" ["self", "file"] (spNoF _) := ⟨_, _, ok_Files_refuse_if_none FFiles_refuse_if_none T, ⟨aFiles_refuse_if_none, iFiles_refuse_if_none, kFiles_refuse_if_none⟩, bFiles_refuse_if_none⟩
  have M_Files_refuse_if_not_held : GM l.prog w K mg base true 1 a_Files "refuse_if_not_held" ["self", "name"] (spNoH _) := ⟨_, _, ok_Files_refuse_if_not_held FFiles_refuse_if_not_held T, ⟨aFiles_refuse_if_not_held, iFiles_refuse_if_not_held, kFiles_refuse_if_not_held⟩, bFiles_refuse_if_not_held⟩
  have M_Files_birth : GM l.prog w K mg base true 4 a_Files "birth" ["self", "file", "place"] (spBirth _) := ⟨_, _, ok_Files_birth FFiles_birth T M_Files_refuse_if_none M_Files_many G_is_within, ⟨aFiles_birth, iFiles_birth, kFiles_birth⟩, bFiles_birth⟩
  have M_Files_put : GM l.prog w K mg base true 4 a_Files "put" ["self", "file", "place", "birth"] (spPut _) := ⟨_, _, ok_Files_put FFiles_put T M_Files_many G_is_within, ⟨aFiles_put, iFiles_put, kFiles_put⟩, bFiles_put⟩
  have M_Files_cut : GM l.prog w K mg base true 4 a_Files "cut" ["self", "file", "many"] (spCut _) := ⟨_, _, ok_Files_cut FFiles_cut T M_Files_refuse_if_none M_Files_many G_is_within, ⟨aFiles_cut, iFiles_cut, kFiles_cut⟩, bFiles_cut⟩
  have M_Files_held : GM l.prog w K mg base true 1 a_Files "held" ["self"] (spHeld _) := ⟨_, _, ok_Files_held FFiles_held T, ⟨aFiles_held, iFiles_held, kFiles_held⟩, bFiles_held⟩
  have M_Files_bare : GM l.prog w K mg base true 3 a_Files "bare" ["self"] (spBare _) := ⟨_, _, ok_Files_bare FFiles_bare T G_Files, ⟨aFiles_bare, iFiles_bare, kFiles_bare⟩, bFiles_bare⟩
  have M_Files_keep : GM l.prog w K mg base true 4 a_Files "keep" ["self", "name", "files"] (spKeep _) := ⟨_, _, ok_Files_keep FFiles_keep T M_Files_bare, ⟨aFiles_keep, iFiles_keep, kFiles_keep⟩, bFiles_keep⟩
  have M_Files_hold : GM l.prog w K mg base true 5 a_Files "hold" ["self", "name"] (spHold _) := ⟨_, _, ok_Files_hold FFiles_hold T M_Files_keep, ⟨aFiles_hold, iFiles_hold, kFiles_hold⟩, bFiles_hold⟩
  have M_Files_free : GM l.prog w K mg base true 3 a_Files "free" ["self", "name"] (spFree _) := ⟨_, _, ok_Files_free FFiles_free T M_Files_refuse_if_not_held, ⟨aFiles_free, iFiles_free, kFiles_free⟩, bFiles_free⟩
  have M_Files_of_held : GM l.prog w K mg base true 4 a_Files "of_held" ["self", "name"] (spOfHeld _) := ⟨_, _, ok_Files_of_held FFiles_of_held T M_Files_refuse_if_not_held M_Files_bare, ⟨aFiles_of_held, iFiles_of_held, kFiles_of_held⟩, bFiles_of_held⟩
  have G_is_made_of : GF l.prog w K mg base true 1 "is_made_of" ["text", "signs", "most"] (spMade) := ⟨_, _, ok_is_made_of Fis_made_of T, PySem.W.mg_of X G ais_made_of, kis_made_of, bis_made_of⟩
  have G_is_name : GF l.prog w K mg base true 2 "is_name" ["text"] (spTest nameS) := ⟨_, _, ok_is_name Fis_name T G_is_made_of, PySem.W.mg_of X G ais_name, kis_name, bis_name⟩
  have G_is_number_text : GF l.prog w K mg base true 2 "is_number_text" ["text"] (spTest numS) := ⟨_, _, ok_is_number_text Fis_number_text T G_is_made_of, PySem.W.mg_of X G ais_number_text, kis_number_text, bis_number_text⟩
  have G__law_at : GF l.prog w K mg base true 1 "_law_at" ["_law_script", "_law_k"] (spAt K) := ⟨_, _, ok__law_at F_law_at T, PySem.W.mg_of X G a_law_at, k_law_at, b_law_at⟩
  have G__law_pot : GF l.prog w K mg base true 2 "_law_pot" ["_law_script", "_law_k"] (spPot K) := ⟨_, _, ok__law_pot F_law_pot T G__law_at, PySem.W.mg_of X G a_law_pot, k_law_pot, b_law_pot⟩
  have G__law_take : GF l.prog w K mg base true 1 "_law_take" ["_law_pot_here", "_law_many"] (spTake) := ⟨_, _, ok__law_take F_law_take T, PySem.W.mg_of X G a_law_take, k_law_take, b_law_take⟩
  have G__law_drawn : GF l.prog w K mg base true 2 "_law_drawn" ["_law_pot_here", "_law_some"] (spDrawn) := ⟨_, _, ok__law_drawn F_law_drawn T G__law_take, PySem.W.mg_of X G a_law_drawn, k_law_drawn, b_law_drawn⟩
  have G__law_birth : GF l.prog w K mg base true 3 "_law_birth" ["_law_pot_here"] (spBirthL) := ⟨_, _, ok__law_birth F_law_birth T G__law_take G__law_drawn, PySem.W.mg_of X G a_law_birth, k_law_birth, b_law_birth⟩
  have G__law_name : GF l.prog w K mg base true 3 "_law_name" ["_law_pot_here"] (spName) := ⟨_, _, ok__law_name F_law_name T G__law_take G__law_drawn, PySem.W.mg_of X G a_law_name, k_law_name, b_law_name⟩
  have G__law_names : GF l.prog w K mg base true 4 "_law_names" ["_law_pot_here"] (spNamesL) := ⟨_, _, ok__law_names F_law_names T G__law_take G__law_name, PySem.W.mg_of X G a_law_names, k_law_names, b_law_names⟩
  have G__law_model : GF l.prog w K mg base true 5 "_law_model" ["_law_pot_here"] (spModel) := ⟨_, _, ok__law_model F_law_model T G__law_take G__law_drawn G__law_birth G__law_names, PySem.W.mg_of X G a_law_model, k_law_model, b_law_model⟩
  have G__law_models : GF l.prog w K mg base true 6 "_law_models" ["_law_pot_here"] (spModels) := ⟨_, _, ok__law_models F_law_models T G__law_take G__law_name G__law_model, PySem.W.mg_of X G a_law_models, k_law_models, b_law_models⟩
  have G_table_words : GF l.prog w K mg base true 5 "table_words" ["files"] (spTW _) := ⟨_, _, ok_table_words Ftable_words T M_Files_names M_Files_many M_Files_birth, PySem.W.mg_of X G atable_words, ktable_words, btable_words⟩
  have G_files_text : GF l.prog w K mg base true 6 "files_text" ["files"] (spFT _) := ⟨_, _, ok_files_text Ffiles_text T G_table_words M_Files_held M_Files_of_held, PySem.W.mg_of X G afiles_text, kfiles_text, bfiles_text⟩
  have G__law_words : GF l.prog w K mg base true 1 "_law_words" ["_law_model_here"] (spLW) := ⟨_, _, ok__law_words F_law_words T, PySem.W.mg_of X G a_law_words, k_law_words, b_law_words⟩
  have G__law_text : GF l.prog w K mg base true 2 "_law_text" ["_law_model_here", "_law_kept"] (spLT) := ⟨_, _, ok__law_text F_law_text T G__law_words, PySem.W.mg_of X G a_law_text, k_law_text, b_law_text⟩
  have G_Words : GC l.prog w K mg base true 1 "Words" a_Words ["self", "text"] (spInitW _) := ⟨_, _, ok_Words_init FWords___init__ T, PySem.W.mg_of X G c_Words, ⟨mk_Words, aWords___init__, iWords___init__, kc_Words⟩, bWords___init__⟩
  have M_Words_is_at_end : GM l.prog w K mg base true 1 a_Words "is_at_end" ["self"] (spAtEnd _) := ⟨_, _, ok_Words_is_at_end FWords_is_at_end T, ⟨aWords_is_at_end, iWords_is_at_end, kWords_is_at_end⟩, bWords_is_at_end⟩
  have M_Words_take_word : GM l.prog w K mg base true 2 a_Words "take_word" ["self"] (spTakeW _) := ⟨_, _, ok_Words_take_word FWords_take_word T M_Words_is_at_end, ⟨aWords_take_word, iWords_take_word, kWords_take_word⟩, bWords_take_word⟩
  have M_Words_take_number : GM l.prog w K mg base true 3 a_Words "take_number" ["self"] (spTakeNum _) := ⟨_, _, ok_Words_take_number FWords_take_number T M_Words_take_word G_is_number_text, ⟨aWords_take_number, iWords_take_number, kWords_take_number⟩, bWords_take_number⟩
  have M_Words_take_name : GM l.prog w K mg base true 3 a_Words "take_name" ["self"] (spTakeName _) := ⟨_, _, ok_Words_take_name FWords_take_name T M_Words_take_word G_is_name, ⟨aWords_take_name, iWords_take_name, kWords_take_name⟩, bWords_take_name⟩
  have M_Words_take_end : GM l.prog w K mg base true 2 a_Words "take_end" ["self"] (spTakeEnd _) := ⟨_, _, ok_Words_take_end FWords_take_end T M_Words_is_at_end, ⟨aWords_take_end, iWords_take_end, kWords_take_end⟩, bWords_take_end⟩
  have G_take_later_name : GF l.prog w K mg base true 4 "take_later_name" ["words", "name"] (spLater _) := ⟨_, _, ok_take_later_name Ftake_later_name T M_Words_take_name, PySem.W.mg_of X G atake_later_name, ktake_later_name, btake_later_name⟩
  have G_take_table : GF l.prog w K mg base true 5 "take_table" ["words"] (spTable _) := ⟨_, _, ok_take_table Ftake_table T G_Files M_Words_take_number G_take_later_name M_Files_put, PySem.W.mg_of X G atake_table, ktake_table, btake_table⟩
  have G_take_files : GF l.prog w K mg base true 6 "take_files" ["words"] (spTF _) := ⟨_, _, ok_take_files Ftake_files T G_take_table M_Words_take_number G_take_later_name M_Files_keep, PySem.W.mg_of X G atake_files, ktake_files, btake_files⟩
  have G_read_files : GF l.prog w K mg base true 7 "read_files" ["text"] (spRead _) := ⟨_, _, ok_read_files Fread_files T G_Words G_take_files M_Words_take_end, PySem.W.mg_of X G aread_files, kread_files, bread_files⟩
  have G__law_settle : GF l.prog w K mg base true 5 "_law_settle" ["_law_files_here", "_law_model_here"] (spSettle _) := ⟨_, _, ok__law_settle F_law_settle T M_Files_names M_Files_put M_Files_cut, PySem.W.mg_of X G a_law_settle, k_law_settle, b_law_settle⟩
  have G__law_files : GF l.prog w K mg base true 6 "_law_files" ["_law_model_here", "_law_kept"] (spFiles _) := ⟨_, _, ok__law_files F_law_files T G_Files G__law_settle M_Files_hold, PySem.W.mg_of X G a_law_files, k_law_files, b_law_files⟩
  have G__law_is_model : GF l.prog w K mg base true 5 "_law_is_model" ["_law_files_here", "_law_model_here"] (spIsM _) := ⟨_, _, ok__law_is_model F_law_is_model T M_Files_names M_Files_many M_Files_birth, PySem.W.mg_of X G a_law_is_model, k_law_is_model, b_law_is_model⟩
  have G__law_is_so : GF l.prog w K mg base true 6 "_law_is_so" ["_law_files_here", "_law_model_here", "_law_kept"] (spIsSo _) := ⟨_, _, ok__law_is_so F_law_is_so T G__law_is_model M_Files_held M_Files_of_held, PySem.W.mg_of X G a_law_is_so, k_law_is_so, b_law_is_so⟩
  have G__law_right : GF l.prog w K mg base true 8 "_law_right" ["_law_model_here", "_law_kept"] (spRight _) := ⟨_, _, ok__law_right F_law_right T G__law_files G__law_text G_files_text G__law_is_so G_read_files M_Files_put M_Files_held M_Files_free, PySem.W.mg_of X G a_law_right, k_law_right, b_law_right⟩
  exact ok_law Flaw T G__law_pot G__law_models G__law_right
theorem walk {l : PySem.W.OpenLaw} {q : Program} {loose : List Str} {XP : (Str → Option Value) → Heap → Prop} {YP : World → Heap → Prop} {d : DefRec} {K : Params → PySem.W.Frag} (hn : l.most = some 63) (hdf : d.params.defaults = [])
    (hY : ∀ (w : World) (h : Heap), YP w h → (K w.params).In h)
    (F : ∀ (w : World) (mg : Str → Option Value) (fa : Addr) (h : Heap), (K w.params).In h → h.Ns mainGlobals mg → mg d.name = some (.ref fa) →
      ∃ fd : FuncData, (∀ (s : Shared) (u : Value), BindsTo s fd ⟨[u], []⟩ [("_law_script", u)]) ∧ ∀ base : Heap, (K w.params).In base → base.Ns mainGlobals mg → FnOk l.prog w (K w.params) mg base CX0 true 9 fa fd ["_law_script"] (spLaw (K w.params))) :
    PySem.W.WalkO q loose XP YP l.row.toRowW d [] (fun f vs => PySem.call f vs) :=
  L2.walk_of (n := 63) (k := 9) (x := "_law_script") (CX := fun _ => CX0) (sp := fun w => spLaw (K w.params)) hn (by decide) hdf ⟨fun _ => rfl, by decide, by decide, rfl⟩ hY F (fun _ _ a ns hl _ hS => ⟨a, ns, rfl, hS, hl, fun _ => rfl⟩) fun _ _ _ _ _ z => z

end K23
set_option Elab.async false
/-! names that keep the head from laying twins of its long states: with them the object file is over its size -/
def PySem.W.Fast.tw1008521097219261325 : Nat := 0
def PySem.W.Fast.tw12861869229152741440 : Nat := 0
def PySem.W.Fast.tw2571700127137887855 : Nat := 0
def PySem.W.Fast.tw7353817963881039422 : Nat := 0
def PySem.W.Fast.tw5302259451544792987 : Nat := 0
def PySem.W.Fast.tw4465520736043838149 : Nat := 0
def PySem.W.Fast.tw18187279632183677533 : Nat := 0
def PySem.W.Fast.tw9646975510879314261 : Nat := 0
def PySem.W.Fast.tw4608472260495213130 : Nat := 0
def PySem.W.Fast.tw17311686924713387741 : Nat := 0
def PySem.W.Fast.tw6236783096364040605 : Nat := 0
def PySem.W.Fast.tw8007527590379706959 : Nat := 0
open PySem PySem.W PyProof.Rows
set_option maxRecDepth 100000 in
set_option maxHeartbeats 0 in
theorem PySem.Challenge.cw_cleanrows_k23_texts_of_files_holds : PySem.Challenge.rw_cleanrows_k23_texts_of_files.Holds := by
  w_on; o_law; k_head; (case hw => w_witness2)
  k_fill
  refine K23.walk (l := PySem.Challenge.rw_cleanrows_k23_texts_of_files) rfl rfl (fun w h Y => PySem.W.kIn_of Y) ?F
  case F =>
    intro w mg fa h KX G hmg
    refine' K23.all_mk KX G hmg ?c_CleanError ?c_NoFile ?c_NoPlace ?c_HeldAlready ?c_NotHeld ?c_NoFiles ?c_NoPart ?c_Words ?c_Files ?ais_whole ?lis_whole ?dis_whole ?kis_whole ?ais_within ?lis_within ?dis_within ?kis_within ?ais_made_of ?lis_made_of ?dis_made_of ?kis_made_of ?ais_number_text ?lis_number_text ?dis_number_text ?kis_number_text ?ais_name ?lis_name ?dis_name ?kis_name ?aWords___init__ ?iWords___init__ ?lWords___init__ ?dWords___init__ ?kWords___init__ ?aWords_take_word ?iWords_take_word ?lWords_take_word ?dWords_take_word ?kWords_take_word ?aWords_take_number ?iWords_take_number ?lWords_take_number ?dWords_take_number ?kWords_take_number ?aWords_take_name ?iWords_take_name ?lWords_take_name ?dWords_take_name ?kWords_take_name ?aWords_is_at_end ?iWords_is_at_end ?lWords_is_at_end ?dWords_is_at_end ?kWords_is_at_end ?aWords_take_end ?iWords_take_end ?lWords_take_end ?dWords_take_end ?kWords_take_end ?aFiles___init__ ?iFiles___init__ ?lFiles___init__ ?dFiles___init__ ?kFiles___init__ ?aFiles_names ?iFiles_names ?lFiles_names ?dFiles_names ?kFiles_names ?aFiles_many ?iFiles_many ?lFiles_many ?dFiles_many ?kFiles_many ?aFiles_birth ?iFiles_birth ?lFiles_birth ?dFiles_birth ?kFiles_birth ?aFiles_put ?iFiles_put ?lFiles_put ?dFiles_put ?kFiles_put ?aFiles_cut ?iFiles_cut ?lFiles_cut ?dFiles_cut ?kFiles_cut ?aFiles_hold ?iFiles_hold ?lFiles_hold ?dFiles_hold ?kFiles_hold ?aFiles_free ?iFiles_free ?lFiles_free ?dFiles_free ?kFiles_free ?aFiles_held ?iFiles_held ?lFiles_held ?dFiles_held ?kFiles_held ?aFiles_of_held ?iFiles_of_held ?lFiles_of_held ?dFiles_of_held ?kFiles_of_held ?aFiles_bare ?iFiles_bare ?lFiles_bare ?dFiles_bare ?kFiles_bare ?aFiles_keep ?iFiles_keep ?lFiles_keep ?dFiles_keep ?kFiles_keep ?aFiles_refuse_if_none ?iFiles_refuse_if_none ?lFiles_refuse_if_none ?dFiles_refuse_if_none ?kFiles_refuse_if_none ?aFiles_refuse_if_not_held ?iFiles_refuse_if_not_held ?lFiles_refuse_if_not_held ?dFiles_refuse_if_not_held ?kFiles_refuse_if_not_held ?afiles_text ?lfiles_text ?dfiles_text ?kfiles_text ?atable_words ?ltable_words ?dtable_words ?ktable_words ?aread_files ?lread_files ?dread_files ?kread_files ?atake_files ?ltake_files ?dtake_files ?ktake_files ?atake_table ?ltake_table ?dtake_table ?ktake_table ?atake_later_name ?ltake_later_name ?dtake_later_name ?ktake_later_name ?a_law_at ?l_law_at ?d_law_at ?k_law_at ?a_law_pot ?l_law_pot ?d_law_pot ?k_law_pot ?a_law_take ?l_law_take ?d_law_take ?k_law_take ?a_law_drawn ?l_law_drawn ?d_law_drawn ?k_law_drawn ?a_law_name ?l_law_name ?d_law_name ?k_law_name ?a_law_names ?l_law_names ?d_law_names ?k_law_names ?a_law_birth ?l_law_birth ?d_law_birth ?k_law_birth ?a_law_model ?l_law_model ?d_law_model ?k_law_model ?a_law_models ?l_law_models ?d_law_models ?k_law_models ?a_law_words ?l_law_words ?d_law_words ?k_law_words ?a_law_text ?l_law_text ?d_law_text ?k_law_text ?a_law_settle ?l_law_settle ?d_law_settle ?k_law_settle ?a_law_files ?l_law_files ?d_law_files ?k_law_files ?a_law_is_model ?l_law_is_model ?d_law_is_model ?k_law_is_model ?a_law_is_so ?l_law_is_so ?d_law_is_so ?k_law_is_so ?a_law_right ?l_law_right ?d_law_right ?k_law_right ?alaw ?llaw ?dlaw ?klaw ?z_all ?z_bool ?z_dict ?z_divmod ?z_enumerate ?z_int ?z_isinstance ?z_len ?z_max ?z_min ?z_range ?z_sorted ?z_str ?v_FIGURES ?v_LETTERS ?v_MOST_FIGURES ?v_MOST_LETTERS ?pg_Words ?hdd_Words ?po_Words ?sa_Words ?mk_Words ?kc_Words ?na_taken ?na_words ?pg_Files ?hdd_Files ?po_Files ?sa_Files ?mk_Files ?kc_Files ?na_births ?na_kept ?isg ?ist ?isc_Files ?iso_Files ?isk_Files
    (case c_CleanError => first | k_is | kit_is | k_exc)
    (case c_NoFile => first | k_is | kit_is | k_exc)
    (case c_NoPlace => first | k_is | kit_is | k_exc)
    (case c_HeldAlready => first | k_is | kit_is | k_exc)
    (case c_NotHeld => first | k_is | kit_is | k_exc)
    (case c_NoFiles => first | k_is | kit_is | k_exc)
    (case c_NoPart => first | k_is | kit_is | k_exc)
    (case c_Words => first | k_is | kit_is | k_exc)
    (case c_Files => first | k_is | kit_is | k_exc)
    (case ais_whole => first | k_is | kit_is | k_exc)
    (case lis_whole => first | k_is | kit_is | k_exc)
    (case dis_whole => first | k_is | kit_is | k_exc)
    (case kis_whole => first | k_is | kit_is | k_exc)
    (case ais_within => first | k_is | kit_is | k_exc)
    (case lis_within => first | k_is | kit_is | k_exc)
    (case dis_within => first | k_is | kit_is | k_exc)
    (case kis_within => first | k_is | kit_is | k_exc)
    (case ais_made_of => first | k_is | kit_is | k_exc)
    (case lis_made_of => first | k_is | kit_is | k_exc)
    (case dis_made_of => first | k_is | kit_is | k_exc)
    (case kis_made_of => first | k_is | kit_is | k_exc)
    (case ais_number_text => first | k_is | kit_is | k_exc)
    (case lis_number_text => first | k_is | kit_is | k_exc)
    (case dis_number_text => first | k_is | kit_is | k_exc)
    (case kis_number_text => first | k_is | kit_is | k_exc)
    (case ais_name => first | k_is | kit_is | k_exc)
    (case lis_name => first | k_is | kit_is | k_exc)
    (case dis_name => first | k_is | kit_is | k_exc)
    (case kis_name => first | k_is | kit_is | k_exc)
    (case aWords___init__ => first | k_is | kit_is | k_exc)
    (case iWords___init__ => first | k_is | kit_is | k_exc)
    (case lWords___init__ => first | k_is | kit_is | k_exc)
    (case dWords___init__ => first | k_is | kit_is | k_exc)
    (case kWords___init__ => first | k_is | kit_is | k_exc)
    (case aWords_take_word => first | k_is | kit_is | k_exc)
    (case iWords_take_word => first | k_is | kit_is | k_exc)
    (case lWords_take_word => first | k_is | kit_is | k_exc)
    (case dWords_take_word => first | k_is | kit_is | k_exc)
    (case kWords_take_word => first | k_is | kit_is | k_exc)
    (case aWords_take_number => first | k_is | kit_is | k_exc)
    (case iWords_take_number => first | k_is | kit_is | k_exc)
    (case lWords_take_number => first | k_is | kit_is | k_exc)
    (case dWords_take_number => first | k_is | kit_is | k_exc)
    (case kWords_take_number => first | k_is | kit_is | k_exc)
    (case aWords_take_name => first | k_is | kit_is | k_exc)
    (case iWords_take_name => first | k_is | kit_is | k_exc)
    (case lWords_take_name => first | k_is | kit_is | k_exc)
    (case dWords_take_name => first | k_is | kit_is | k_exc)
    (case kWords_take_name => first | k_is | kit_is | k_exc)
    (case aWords_is_at_end => first | k_is | kit_is | k_exc)
    (case iWords_is_at_end => first | k_is | kit_is | k_exc)
    (case lWords_is_at_end => first | k_is | kit_is | k_exc)
    (case dWords_is_at_end => first | k_is | kit_is | k_exc)
    (case kWords_is_at_end => first | k_is | kit_is | k_exc)
    (case aWords_take_end => first | k_is | kit_is | k_exc)
    (case iWords_take_end => first | k_is | kit_is | k_exc)
    (case lWords_take_end => first | k_is | kit_is | k_exc)
    (case dWords_take_end => first | k_is | kit_is | k_exc)
    (case kWords_take_end => first | k_is | kit_is | k_exc)
    (case aFiles___init__ => first | k_is | kit_is | k_exc)
    (case iFiles___init__ => first | k_is | kit_is | k_exc)
    (case lFiles___init__ => first | k_is | kit_is | k_exc)
    (case dFiles___init__ => first | k_is | kit_is | k_exc)
    (case kFiles___init__ => first | k_is | kit_is | k_exc)
    (case aFiles_names => first | k_is | kit_is | k_exc)
    (case iFiles_names => first | k_is | kit_is | k_exc)
    (case lFiles_names => first | k_is | kit_is | k_exc)
    (case dFiles_names => first | k_is | kit_is | k_exc)
    (case kFiles_names => first | k_is | kit_is | k_exc)
    (case aFiles_many => first | k_is | kit_is | k_exc)
    (case iFiles_many => first | k_is | kit_is | k_exc)
    (case lFiles_many => first | k_is | kit_is | k_exc)
    (case dFiles_many => first | k_is | kit_is | k_exc)
    (case kFiles_many => first | k_is | kit_is | k_exc)
    (case aFiles_birth => first | k_is | kit_is | k_exc)
    (case iFiles_birth => first | k_is | kit_is | k_exc)
    (case lFiles_birth => first | k_is | kit_is | k_exc)
    (case dFiles_birth => first | k_is | kit_is | k_exc)
    (case kFiles_birth => first | k_is | kit_is | k_exc)
    (case aFiles_put => first | k_is | kit_is | k_exc)
    (case iFiles_put => first | k_is | kit_is | k_exc)
    (case lFiles_put => first | k_is | kit_is | k_exc)
    (case dFiles_put => first | k_is | kit_is | k_exc)
    (case kFiles_put => first | k_is | kit_is | k_exc)
    (case aFiles_cut => first | k_is | kit_is | k_exc)
    (case iFiles_cut => first | k_is | kit_is | k_exc)
    (case lFiles_cut => first | k_is | kit_is | k_exc)
    (case dFiles_cut => first | k_is | kit_is | k_exc)
    (case kFiles_cut => first | k_is | kit_is | k_exc)
    (case aFiles_hold => first | k_is | kit_is | k_exc)
    (case iFiles_hold => first | k_is | kit_is | k_exc)
    (case lFiles_hold => first | k_is | kit_is | k_exc)
    (case dFiles_hold => first | k_is | kit_is | k_exc)
    (case kFiles_hold => first | k_is | kit_is | k_exc)
    (case aFiles_free => first | k_is | kit_is | k_exc)
    (case iFiles_free => first | k_is | kit_is | k_exc)
    (case lFiles_free => first | k_is | kit_is | k_exc)
    (case dFiles_free => first | k_is | kit_is | k_exc)
    (case kFiles_free => first | k_is | kit_is | k_exc)
    (case aFiles_held => first | k_is | kit_is | k_exc)
    (case iFiles_held => first | k_is | kit_is | k_exc)
    (case lFiles_held => first | k_is | kit_is | k_exc)
    (case dFiles_held => first | k_is | kit_is | k_exc)
    (case kFiles_held => first | k_is | kit_is | k_exc)
    (case aFiles_of_held => first | k_is | kit_is | k_exc)
    (case iFiles_of_held => first | k_is | kit_is | k_exc)
    (case lFiles_of_held => first | k_is | kit_is | k_exc)
    (case dFiles_of_held => first | k_is | kit_is | k_exc)
    (case kFiles_of_held => first | k_is | kit_is | k_exc)
    (case aFiles_bare => first | k_is | kit_is | k_exc)
    (case iFiles_bare => first | k_is | kit_is | k_exc)
    (case lFiles_bare => first | k_is | kit_is | k_exc)
    (case dFiles_bare => first | k_is | kit_is | k_exc)
    (case kFiles_bare => first | k_is | kit_is | k_exc)
    (case aFiles_keep => first | k_is | kit_is | k_exc)
    (case iFiles_keep => first | k_is | kit_is | k_exc)
    (case lFiles_keep => first | k_is | kit_is | k_exc)
    (case dFiles_keep => first | k_is | kit_is | k_exc)
    (case kFiles_keep => first | k_is | kit_is | k_exc)
    (case aFiles_refuse_if_none => first | k_is | kit_is | k_exc)
    (case iFiles_refuse_if_none => first | k_is | kit_is | k_exc)
    (case lFiles_refuse_if_none => first | k_is | kit_is | k_exc)
    (case dFiles_refuse_if_none => first | k_is | kit_is | k_exc)
    (case kFiles_refuse_if_none => first | k_is | kit_is | k_exc)
    (case aFiles_refuse_if_not_held => first | k_is | kit_is | k_exc)
    (case iFiles_refuse_if_not_held => first | k_is | kit_is | k_exc)
    (case lFiles_refuse_if_not_held => first | k_is | kit_is | k_exc)
    (case dFiles_refuse_if_not_held => first | k_is | kit_is | k_exc)
    (case kFiles_refuse_if_not_held => first | k_is | kit_is | k_exc)
    (case afiles_text => first | k_is | kit_is | k_exc)
    (case lfiles_text => first | k_is | kit_is | k_exc)
    (case dfiles_text => first | k_is | kit_is | k_exc)
    (case kfiles_text => first | k_is | kit_is | k_exc)
    (case atable_words => first | k_is | kit_is | k_exc)
    (case ltable_words => first | k_is | kit_is | k_exc)
    (case dtable_words => first | k_is | kit_is | k_exc)
    (case ktable_words => first | k_is | kit_is | k_exc)
    (case aread_files => first | k_is | kit_is | k_exc)
    (case lread_files => first | k_is | kit_is | k_exc)
    (case dread_files => first | k_is | kit_is | k_exc)
    (case kread_files => first | k_is | kit_is | k_exc)
    (case atake_files => first | k_is | kit_is | k_exc)
    (case ltake_files => first | k_is | kit_is | k_exc)
    (case dtake_files => first | k_is | kit_is | k_exc)
    (case ktake_files => first | k_is | kit_is | k_exc)
    (case atake_table => first | k_is | kit_is | k_exc)
    (case ltake_table => first | k_is | kit_is | k_exc)
    (case dtake_table => first | k_is | kit_is | k_exc)
    (case ktake_table => first | k_is | kit_is | k_exc)
    (case atake_later_name => first | k_is | kit_is | k_exc)
    (case ltake_later_name => first | k_is | kit_is | k_exc)
    (case dtake_later_name => first | k_is | kit_is | k_exc)
    (case ktake_later_name => first | k_is | kit_is | k_exc)
    (case a_law_at => first | k_is | kit_is | k_exc)
    (case l_law_at => first | k_is | kit_is | k_exc)
    (case d_law_at => first | k_is | kit_is | k_exc)
    (case k_law_at => first | k_is | kit_is | k_exc)
    (case a_law_pot => first | k_is | kit_is | k_exc)
    (case l_law_pot => first | k_is | kit_is | k_exc)
    (case d_law_pot => first | k_is | kit_is | k_exc)
    (case k_law_pot => first | k_is | kit_is | k_exc)
    (case a_law_take => first | k_is | kit_is | k_exc)
    (case l_law_take => first | k_is | kit_is | k_exc)
    (case d_law_take => first | k_is | kit_is | k_exc)
    (case k_law_take => first | k_is | kit_is | k_exc)
    (case a_law_drawn => first | k_is | kit_is | k_exc)
    (case l_law_drawn => first | k_is | kit_is | k_exc)
    (case d_law_drawn => first | k_is | kit_is | k_exc)
    (case k_law_drawn => first | k_is | kit_is | k_exc)
    (case a_law_name => first | k_is | kit_is | k_exc)
    (case l_law_name => first | k_is | kit_is | k_exc)
    (case d_law_name => first | k_is | kit_is | k_exc)
    (case k_law_name => first | k_is | kit_is | k_exc)
    (case a_law_names => first | k_is | kit_is | k_exc)
    (case l_law_names => first | k_is | kit_is | k_exc)
    (case d_law_names => first | k_is | kit_is | k_exc)
    (case k_law_names => first | k_is | kit_is | k_exc)
    (case a_law_birth => first | k_is | kit_is | k_exc)
    (case l_law_birth => first | k_is | kit_is | k_exc)
    (case d_law_birth => first | k_is | kit_is | k_exc)
    (case k_law_birth => first | k_is | kit_is | k_exc)
    (case a_law_model => first | k_is | kit_is | k_exc)
    (case l_law_model => first | k_is | kit_is | k_exc)
    (case d_law_model => first | k_is | kit_is | k_exc)
    (case k_law_model => first | k_is | kit_is | k_exc)
    (case a_law_models => first | k_is | kit_is | k_exc)
    (case l_law_models => first | k_is | kit_is | k_exc)
    (case d_law_models => first | k_is | kit_is | k_exc)
    (case k_law_models => first | k_is | kit_is | k_exc)
    (case a_law_words => first | k_is | kit_is | k_exc)
    (case l_law_words => first | k_is | kit_is | k_exc)
    (case d_law_words => first | k_is | kit_is | k_exc)
    (case k_law_words => first | k_is | kit_is | k_exc)
    (case a_law_text => first | k_is | kit_is | k_exc)
    (case l_law_text => first | k_is | kit_is | k_exc)
    (case d_law_text => first | k_is | kit_is | k_exc)
    (case k_law_text => first | k_is | kit_is | k_exc)
    (case a_law_settle => first | k_is | kit_is | k_exc)
    (case l_law_settle => first | k_is | kit_is | k_exc)
    (case d_law_settle => first | k_is | kit_is | k_exc)
    (case k_law_settle => first | k_is | kit_is | k_exc)
    (case a_law_files => first | k_is | kit_is | k_exc)
    (case l_law_files => first | k_is | kit_is | k_exc)
    (case d_law_files => first | k_is | kit_is | k_exc)
    (case k_law_files => first | k_is | kit_is | k_exc)
    (case a_law_is_model => first | k_is | kit_is | k_exc)
    (case l_law_is_model => first | k_is | kit_is | k_exc)
    (case d_law_is_model => first | k_is | kit_is | k_exc)
    (case k_law_is_model => first | k_is | kit_is | k_exc)
    (case a_law_is_so => first | k_is | kit_is | k_exc)
    (case l_law_is_so => first | k_is | kit_is | k_exc)
    (case d_law_is_so => first | k_is | kit_is | k_exc)
    (case k_law_is_so => first | k_is | kit_is | k_exc)
    (case a_law_right => first | k_is | kit_is | k_exc)
    (case l_law_right => first | k_is | kit_is | k_exc)
    (case d_law_right => first | k_is | kit_is | k_exc)
    (case k_law_right => first | k_is | kit_is | k_exc)
    (case alaw => first | k_is | kit_is | k_exc)
    (case llaw => first | k_is | kit_is | k_exc)
    (case dlaw => first | k_is | kit_is | k_exc)
    (case klaw => first | k_is | kit_is | k_exc)
    (case z_all => first | k_is | kit_is | k_exc)
    (case z_bool => first | k_is | kit_is | k_exc)
    (case z_dict => first | k_is | kit_is | k_exc)
    (case z_divmod => first | k_is | kit_is | k_exc)
    (case z_enumerate => first | k_is | kit_is | k_exc)
    (case z_int => first | k_is | kit_is | k_exc)
    (case z_isinstance => first | k_is | kit_is | k_exc)
    (case z_len => first | k_is | kit_is | k_exc)
    (case z_max => first | k_is | kit_is | k_exc)
    (case z_min => first | k_is | kit_is | k_exc)
    (case z_range => first | k_is | kit_is | k_exc)
    (case z_sorted => first | k_is | kit_is | k_exc)
    (case z_str => first | k_is | kit_is | k_exc)
    (case v_FIGURES => first | k_is | kit_is | k_exc)
    (case v_LETTERS => first | k_is | kit_is | k_exc)
    (case v_MOST_FIGURES => first | k_is | kit_is | k_exc)
    (case v_MOST_LETTERS => first | k_is | kit_is | k_exc)
    (case pg_Words => first | k_is | kit_is | k_exc)
    (case hdd_Words => first | k_is | kit_is | k_exc)
    (case po_Words => first | k_is | kit_is | k_exc)
    (case sa_Words => first | k_is | kit_is | k_exc)
    (case mk_Words => first | k_is | kit_is | k_exc)
    (case kc_Words => first | k_is | kit_is | k_exc)
    (case na_taken => first | k_is | kit_is | k_exc)
    (case na_words => first | k_is | kit_is | k_exc)
    (case pg_Files => first | k_is | kit_is | k_exc)
    (case hdd_Files => first | k_is | kit_is | k_exc)
    (case po_Files => first | k_is | kit_is | k_exc)
    (case sa_Files => first | k_is | kit_is | k_exc)
    (case mk_Files => first | k_is | kit_is | k_exc)
    (case kc_Files => first | k_is | kit_is | k_exc)
    (case na_births => first | k_is | kit_is | k_exc)
    (case na_kept => first | k_is | kit_is | k_exc)
    (case isg => first | k_is | kit_is | k_exc)
    (case ist => first | k_is | kit_is | k_exc)
    (case isc_Files => first | k_is | kit_is | k_exc)
    (case iso_Files => first | k_is | kit_is | k_exc)
    (case isk_Files => first | k_is | kit_is | k_exc)
